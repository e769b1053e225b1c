/- linhayref07.Take. -/
import Derived.Test.YtfdjgdogcknoiaaPack6
import Derived.Test.YtfdjgdogcknoiaaLater
namespace Go.Proofs.Try
open Go.RowKit
set_option linter.unusedVariables false
set_option linter.unusedSimpArgs false

theorem wrap_nat (a : Nat) : IntKind.u64.wrap (a : Int) = ((a % 18446744073709551616 : Nat) : Int) := by rw [IntKind.wrap_u64]; omega
theorem rstep (v d B : Nat) : IntKind.u64.wrap (((v % 18446744073709551616 : Nat) : Int) + IntKind.u64.wrap ((d : Int) * ((B % 18446744073709551616 : Nat) : Int))) = (((v + d * B) % 18446744073709551616 : Nat) : Int) := by
  rw [← Int.natCast_mul, wrap_nat, ← Int.natCast_add, wrap_nat]
  congr 1
  rw [Nat.mul_mod_mod, ← Nat.add_mod]
theorem rby (k : Nat) : IntKind.u64.wrap (((128 ^ k % 18446744073709551616 : Nat) : Int) * 128) = ((128 ^ (k + 1) % 18446744073709551616 : Nat) : Int) := by
  have : ((128 ^ k % 18446744073709551616 : Nat) : Int) * 128 = ((128 ^ k % 18446744073709551616 * 128 : Nat) : Int) := by rw [Int.natCast_mul]; rfl
  rw [this, wrap_nat, Nat.mod_mul_mod, Nat.pow_succ]
theorem eq_take (l : List UInt8) (k : Nat) (h : ∀ j, j < k → 128 ≤ (l.getD j 0).toNat) (hk : k < l.length) (hx : (l.getD k 0).toNat < 128) :
    (oneB (val (l.take (k + 1)) % 18446744073709551616) = l.take (k + 1) → takeL l = some (val (l.take (k + 1)) % 18446744073709551616, l.drop (k + 1))) ∧
    (¬ oneB (val (l.take (k + 1)) % 18446744073709551616) = l.take (k + 1) → takeL l = none) := by
  constructor
  · intro he
    have hg := one_good (val (l.take (k + 1)) % 18446744073709551616)
    have hv := val_one (val (l.take (k + 1)) % 18446744073709551616)
    rw [he] at hg hv
    rw [← hv]
    exact takeL_some l k h hk hx ((good_at l k h hk hx).1 hg) (by omega)
  · intro hne
    unfold takeL
    rw [cutL_at l k h hk hx]
    simp only
    split
    · rename_i hg
      exact absurd (by rw [Nat.mod_eq_of_lt hg.2]; exact good_one _ hg.1) hne
    · rfl
theorem S_same (a b : List UInt8) : ((S a).toList == (S b).toList) = decide (a = b) := by
  rw [ByteArray.toList_eq, ByteArray.toList_eq, S_list, S_list]
  rw [Bool.eq_iff_iff, beq_iff_eq, decide_eq_true_iff]
set_option maxRecDepth 100000 in
set_option maxHeartbeats 2000000 in
theorem rtake_c (bs : List UInt8) (hs : bs.length ≤ 1000000) (w : World) :
    Calls Try.prog 12 #[.string (S bs)] w fun r w' => r = .returned (tkR (takeL bs)) ∧ Below w.heap.size w w' := by
  have hsz := S_size bs
  go_enter Try.func12, Try.ntmps12
  go_wp2_with fail
  go_loop [5, 6, 7] (fun n b i => ∃ k : Nat, k ≤ bs.length ∧ k ≤ 10 ∧ i = .int .i64 k ∧ n = .int .u64 ((val (bs.take k) % 18446744073709551616 : Nat) : Int) ∧ b = .int .u64 ((128 ^ k % 18446744073709551616 : Nat) : Int) ∧ ∀ j, j < k → 128 ≤ (bs.getD j 0).toNat) (fun _ _ i => bs.length - (intOf i).toNat)
  case atStart => exact ⟨0, by omega, by omega, rfl, rfl, rfl, fun j hj => by omega⟩
  case round =>
    obtain ⟨k, hk, hk10, rfl, rfl, rfl, hh⟩ := hrel
    have HH := Lib.hid hh
    clear hh
    by_cases hlt : k < bs.length
    · by_cases h10 : k < 10
      · have h10' : (k : Int) < 10 := by omega
        have hlt' : (k : Int) < (bs.length : Int) := by omega
        have hx := index_s bs k hlt .i64
        have hx255 := UInt8.toNat_lt (bs.getD k 0)
        have hr1 := rstep (val (bs.take k)) ((bs.getD k 0).toNat % 128) (128 ^ k)
        rw [← val_next bs k hlt] at hr1
        have hr2 := rby k
        have HE := Lib.hid (eq_take bs k HH.out hlt)
        have HStep : Hid (128 ≤ (bs.getD k 0).toNat → ∀ j, j < k + 1 → 128 ≤ (bs.getD j 0).toNat) := Lib.hid fun h j hj => by
          rcases (by omega : j < k ∨ j = k) with h1 | rfl
          · exact HH.out j h1
          · exact h
        generalize (bs.getD k 0).toNat = x at *
        have hd : (x : Int) % 128 = ((x % 128 : Nat) : Int) := by simp
        generalize x % 128 = d at *
        have hm1 : 128 ^ k % 18446744073709551616 < 18446744073709551616 := Nat.mod_lt _ (by omega)
        have hm2 : 128 ^ (k + 1) % 18446744073709551616 < 18446744073709551616 := Nat.mod_lt _ (by omega)
        have hm3 : val (bs.take (k + 1)) % 18446744073709551616 < 18446744073709551616 := Nat.mod_lt _ (by omega)
        have hm4 : val (bs.take k) % 18446744073709551616 < 18446744073709551616 := Nat.mod_lt _ (by omega)
        obtain ⟨B', hB'⟩ : ∃ B', 128 ^ (k + 1) % 18446744073709551616 = B' := ⟨_, rfl⟩
        obtain ⟨N', hN'⟩ : ∃ N', val (bs.take (k + 1)) % 18446744073709551616 = N' := ⟨_, rfl⟩
        have HB' := Lib.hid hB'
        have HN' := Lib.hid hN'
        rw [hB'] at hr2 hm2
        rw [hN'] at hr1 hm3 HE
        clear hB' hN'
        generalize 128 ^ k % 18446744073709551616 = B at *
        generalize val (bs.take k) % 18446744073709551616 = N at *
        by_cases hx8 : 128 ≤ x
        · have e3 : (128 : Int) ≤ (x : Int) := by omega
          clear HE
          go_wp2_with fail
          go_round
          case rel => exact ⟨k + 1, by omega, by omega, by go_num, by rw [HN'.out], by rw [HB'.out], HStep.out hx8⟩
          case measure => simp [intOf]; omega
        · have e3 : decide ((128 : Int) ≤ (x : Int)) = false := by simp; omega
          have HE2 := Lib.hid (HE.out (by omega))
          have hst := S_take bs (k + 1)
          have hdr := S_drop' bs (k + 1) bs.length rfl
          have hq := S_same (oneB N') (bs.take (k + 1))
          have h1 := one_c N' hm3
          have b1 : IntKind.i64.wrap ((k : Int) + 1) = (k : Int) + 1 := by rw [IntKind.wrap_i64]; omega
          have b2 : (0 : Int) ≤ (k : Int) + 1 := by omega
          have b3 : (k : Int) + 1 ≤ (bs.length : Int) := by omega
          have b4 : ((k : Int) + 1).toNat = k + 1 := by omega
          have b5 : wrap64 ((k : Int) + 1) = (k : Int) + 1 := by unfold wrap64; omega
          by_cases he : oneB N' = bs.take (k + 1)
          · have HT := Lib.hid (HE2.out.1 he)
            rw [decide_eq_true he] at hq
            clear he HE HE2
            go_wp2_with fail
            (refine region_later (by kernel_rfl) (by kernel_rfl) ?_); (intro hlat); (repeat (go_big_quiet_step ((go_at_call 27; exact later_call (h1 _))))); (refine wpQuiet_nil ?_); (intro W1 hb1); (clear hlat)
            go_wp2_with fail
            go_quiet (fail)
            go_wp2_with fail
            refine bodyPost_ret (by simp [results, Try.results12, go_sem]; try rfl) rfl ?_
            exact ⟨by rw [HT.out]; rfl, Below_drewN hb1 _⟩
          · have HT := Lib.hid (HE2.out.2 he)
            rw [decide_eq_false he] at hq
            clear he HE HE2
            go_wp2_with fail
            (refine region_later (by kernel_rfl) (by kernel_rfl) ?_); (intro hlat); (repeat (go_big_quiet_step ((go_at_call 27; exact later_call (h1 _))))); (refine wpQuiet_nil ?_); (intro W1 hb1); (clear hlat)
            go_wp2_with fail
            refine bodyPost_ret (by simp [results, Try.results12, go_sem]; try rfl) rfl ?_
            exact ⟨by rw [HT.out]; rfl, hb1⟩
      · have HT := Lib.hid (takeL_late bs k (by omega) HH.out)
        have e0 : decide ((k : Int) < 10) = false := by simp; omega
        go_wp2_with fail
        refine bodyPost_ret (by simp [results, Try.results12, go_sem]; try rfl) rfl ?_
        exact ⟨by rw [HT.out]; rfl, Below.refl _ _⟩
    · have hke : k = bs.length := by omega
      have HT := Lib.hid (takeL_end bs (by rw [← hke]; exact HH.out))
      have e0 : decide ((k : Int) < (bs.length : Int)) = false := by simp; omega
      go_wp2_with fail
      refine bodyPost_ret (by simp [results, Try.results12, go_sem]; try rfl) rfl ?_
      exact ⟨by rw [HT.out]; rfl, Below.refl _ _⟩
end Go.Proofs.Try
