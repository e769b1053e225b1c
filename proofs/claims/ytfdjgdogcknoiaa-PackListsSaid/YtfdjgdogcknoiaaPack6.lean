/- pack.Take. -/
import Derived.Test.YtfdjgdogcknoiaaPack5
namespace Go.Proofs.Try
open Go.RowKit
set_option linter.unusedVariables false
set_option linter.unusedSimpArgs false

theorem none1_c (w : World) : Calls Try.prog 26 #[] w fun r w' => r = .returned (tkR none) ∧ w = w' := by
  go_enter Try.func26, Try.ntmps26
  go_wp2_with fail
  refine bodyPost_ret (by simp [results, Try.results26, go_sem]; try rfl) rfl ?_
  exact ⟨rfl, rfl⟩
set_option maxRecDepth 100000 in
set_option maxHeartbeats 2000000 in
theorem take_c (bs : List UInt8) (hs : bs.length ≤ 1000000) (w : World) :
    Calls Try.prog 11 #[.string (S bs)] w fun r w' => r = .returned (tkR (takeL bs)) ∧ Below w.heap.size w w' := by
  have hmf : ∀ (fn : Fn) (first cap : Array Value) (w : World), (Instr.makeFunc fn first cap).run Try.prog w = .ok (.func fn first cap) w := fun _ _ _ _ => rfl
  have hsz := S_size bs
  have hn1 := none1_c
  unfold tkR at hn1
  simp only at hn1
  go_enter Try.func11, Try.ntmps11
  go_wp2_with fail
  go_step3
  go_wp2_with fail
  go_step3
  go_wp2_with fail
  go_loop [6, 12] (fun n i => ∃ k : Nat, k ≤ bs.length ∧ i = .int .i64 k ∧ n = .int .u64 (val (bs.take k)) ∧ val (bs.take k) < 18446744073709551616 ∧ ∀ j, j < k → 128 ≤ (bs.getD j 0).toNat) (fun _ i => bs.length - (intOf i).toNat)
  case atStart => exact ⟨0, by omega, rfl, rfl, by simp [val], fun j hj => by omega⟩
  case round =>
    obtain ⟨k, hk, rfl, rfl, hv, hh⟩ := hrel
    have HH := Lib.hid hh
    clear hh
    by_cases hlt : k < bs.length
    · have hx := index_s bs k hlt .i64
      have hx255 := UInt8.toNat_lt (bs.getD k 0)
      have HN := Lib.hid (val_next bs k hlt)
      have hvl := val_lt (bs.take k)
      rw [List.length_take, Nat.min_eq_left (by omega)] at hvl
      have HLate := Lib.hid (fun hi : 10 ≤ k => takeL_late bs k hi HH.out)
      have HOver := Lib.hid (takeL_over bs k HH.out)
      have HZero := Lib.hid (takeL_zero bs k HH.out hlt)
      have HSome := Lib.hid (takeL_some bs k HH.out hlt)
      have HStep : Hid (128 ≤ (bs.getD k 0).toNat → ∀ j, j < k + 1 → 128 ≤ (bs.getD j 0).toNat) := Lib.hid fun h j hj => by
        rcases (by omega : j < k ∨ j = k) with h1 | rfl
        · exact HH.out j h1
        · exact h
      generalize (bs.getD k 0).toNat = x at *
      by_cases h10 : 10 ≤ k
      · have e0 : (63 : Int) < 7 * (k : Int) := by omega
        have HT := Lib.hid (HLate.out h10)
        clear hvl h10
        go_wp2_with fail
        with_reducible refine (hn1 _).mono ?_
        rintro e w' ⟨rfl, rfl⟩
        go_wp2_with fail
        rw [Exit.noGoto_ret]
        refine bodyPost_ret (by simp [results, Try.results11, go_sem]; try rfl) rfl ?_
        exact ⟨by rw [HT.out]; rfl, Below.refl _ _⟩
      · have e0 : decide ((63 : Int) < 7 * (k : Int)) = false := by simp; omega
        have hk9 : k ≤ 9 := by omega
        have hpk : 128 ^ k = 2 ^ (7 * k) := by rw [Nat.pow_mul]
        rw [hpk] at HOver HN hvl
        have hP : (2 : Int) ^ (7 * (k : Int)).toNat = ((2 ^ (7 * k) : Nat) : Int) := by
          have : (7 * (k : Int)).toNat = 7 * k := by omega
          rw [this]; simp
        have hP1 : 1 ≤ 2 ^ (7 * k) := Nat.pow_pos (by omega)
        have HOr := Lib.hid (fun hd => or_sum (val (bs.take k)) (x % 128) (7 * k) (by omega) hvl hd)
        have hlost := lost ((x % 128 : Nat) : Int) ((2 ^ (7 * k) : Nat) : Int) (by omega) (by omega)
        rw [← Int.natCast_mul] at hlost
        clear hpk hvl HLate h10
        have hd : (x : Int) % 128 = ((x % 128 : Nat) : Int) := by simp
        have hdn : x % 128 < 128 := Nat.mod_lt _ (by omega)
        have hxd : x < 128 → x % 128 = x := fun h => Nat.mod_eq_of_lt h
        have HXD := Lib.hid hxd
        clear hxd
        generalize 2 ^ (7 * k) = P at *
        generalize x % 128 = d at *
        by_cases ho : d * P < 18446744073709551616
        · obtain ⟨o1, o2⟩ := HOr.out ho
          rw [← HN.out] at o1 o2
          have hl : ((d : Int) * (P : Int) / (P : Int) != (d : Int)) = false := by
            rw [Int.mul_ediv_cancel _ (by omega)]; simp
          have hw : IntKind.u64.wrap ((d : Int) * (P : Int)) = (d : Int) * (P : Int) := by
            rw [← Int.natCast_mul, IntKind.wrap_u64]; omega
          clear hlost HOr HOver ho
          have HVN := Lib.hid o2
          clear o2
          by_cases hx8 : 128 ≤ x
          · have e3 : (128 : Int) ≤ (x : Int) := by omega
            clear HZero HSome HXD
            go_wp2_with fail
            go_round
            case rel => exact ⟨k + 1, by omega, by go_num, rfl, HVN.out, HStep.out hx8⟩
            case measure => simp [intOf]; omega
          · have e3 : decide ((128 : Int) ≤ (x : Int)) = false := by simp; omega
            have hdx := HXD.out (by omega)
            by_cases hz : x = 0 ∧ 0 < k
            · have HT := Lib.hid (HZero.out hz.1 hz.2)
              have e4 : ((d : Int) == 0) = true := by rw [beq_iff_eq]; omega
              have e5 : (0 : Int) < (k : Int) := by omega
              clear HZero HSome HXD hdx hz
              go_wp2_with fail
              with_reducible refine (hn1 _).mono ?_
              rintro e w' ⟨rfl, rfl⟩
              go_wp2_with fail
              rw [Exit.noGoto_ret]
              refine bodyPost_ret (by simp [results, Try.results11, go_sem]; try rfl) rfl ?_
              exact ⟨by rw [HT.out]; rfl, Below.refl _ _⟩
            · have HT := Lib.hid (HSome.out (by omega) (by omega) HVN.out)
              have hdr := S_drop' bs (k + 1) bs.length rfl
              by_cases hz0 : x = 0
              · have e4 : ((d : Int) == 0) = true := by rw [beq_iff_eq]; omega
                have e5 : decide ((0 : Int) < (k : Int)) = false := by simp; omega
                have e6 : decide (0 < k) = false := by simp; omega
                clear hz0
                clear HZero HSome HXD hdx hz
                go_wp2_with fail
                go_quiet (fail)
                go_wp2_with fail
                rw [Exit.noGoto_ret]
                refine bodyPost_ret (by simp [results, Try.results11, go_sem]; try rfl) rfl ?_
                exact ⟨by rw [HT.out]; rfl, Below_drewN (Below.refl _ _) _⟩
              · have e4 : ((d : Int) == 0) = false := by rw [beq_eq_false_iff_ne]; omega
                clear hz0
                clear HZero HSome HXD hdx hz
                go_wp2_with fail
                go_quiet (fail)
                go_wp2_with fail
                rw [Exit.noGoto_ret]
                refine bodyPost_ret (by simp [results, Try.results11, go_sem]; try rfl) rfl ?_
                exact ⟨by rw [HT.out]; rfl, Below_drewN (Below.refl _ _) _⟩
        · have HT := Lib.hid (HOver.out (by omega))
          have hl : (IntKind.u64.wrap ((d : Int) * (P : Int)) / (P : Int) != (d : Int)) = true := by
            rw [← Int.natCast_mul, hlost]; simp; omega
          clear hlost HOr HOver HZero HSome HXD
          go_wp2_with fail
          with_reducible refine (hn1 _).mono ?_
          rintro e w' ⟨rfl, rfl⟩
          go_wp2_with fail
          rw [Exit.noGoto_ret]
          refine bodyPost_ret (by simp [results, Try.results11, go_sem]; try rfl) rfl ?_
          exact ⟨by rw [HT.out]; rfl, Below.refl _ _⟩
    · have hke : k = bs.length := by omega
      have HT := Lib.hid (takeL_end bs (by rw [← hke]; exact HH.out))
      have e0 : decide ((k : Int) < (bs.length : Int)) = false := by simp; omega
      go_wp2_with fail
      with_reducible refine (hn1 _).mono ?_
      rintro e w' ⟨rfl, rfl⟩
      go_wp2_with fail
      rw [Exit.noGoto_ret]
      refine bodyPost_ret (by simp [results, Try.results11, go_sem]; try rfl) rfl ?_
      exact ⟨by rw [HT.out]; rfl, Below.refl _ _⟩
end Go.Proofs.Try
