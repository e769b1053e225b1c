/- expo.Of. -/
import Derived.Test.YtjcclobnpbgmcaaDoorExpo
import Derived.Test.YtjcclobnpbgmcaaDoorWide2
import Derived.Test.YtjcclobnpbgmcaaDoorChain
import Derived.Laws.Bits64
import Derived.Laws.Bits64b
import Derived.WalkMore
import Derived.Deep.LoopGhost
namespace Go.Proofs.Tryd
open Go.RowKit
set_option linter.unusedVariables false
set_option linter.unusedSimpArgs false

/-- The table, in memory. -/
def Pows (w : World) : Prop := 1 < w.heap.size ∧ ∀ k, k < 37 → w.cell? ⟨1, k, none⟩ = some (.int .u64 ((pk k : Nat) : Int))
theorem Pows.below {w w' : World} (h : Pows w) (hb : Below w.heap.size w w') : Pows w' :=
  ⟨Nat.lt_of_lt_of_le h.1 hb.size, fun k hk => (hb.cell (p := ⟨1, k, none⟩) h.1).trans (h.2 k hk)⟩
theorem mulshr (n p : Nat) (hn : n ≤ 4611686018427387904) (hp : p ≤ 4611686018427387904) : shLo ((n : Int) * (p : Int) / 18446744073709551616) ((n : Int) * (p : Int) % 18446744073709551616) 62 = ((n * p / 4611686018427387904 : Nat) : Int) := by
  have h1 := Nat.mul_le_mul hn hp
  rw [← Int.natCast_mul]
  unfold shLo wN
  have e : (2 : Int) ^ (62 : Int).toNat = 4611686018427387904 := by decide
  rw [e]
  omega
theorem prod_in (n p : Nat) (hn : n ≤ 4611686018427387904) (hp : p ≤ 4611686018427387904) : 0 ≤ (n : Int) * (p : Int) / 18446744073709551616 ∧ (n : Int) * (p : Int) / 18446744073709551616 < 18446744073709551616 ∧ 0 ≤ (n : Int) * (p : Int) % 18446744073709551616 ∧ (n : Int) * (p : Int) % 18446744073709551616 < 18446744073709551616 := by
  have h1 := Nat.mul_le_mul hn hp
  rw [← Int.natCast_mul]
  omega
theorem bit_and (x k : Nat) (hx : x < 18446744073709551616) : bits .and .u64 ((x : Int) / 2 ^ k) 1 = if x.testBit k then 1 else 0 := by
  have e : (x : Int) / 2 ^ k = ((x / 2 ^ k : Nat) : Int) := by simp
  have hd : x / 2 ^ k ≤ x := Nat.div_le_self _ _
  have h := bits_and_u64_nat (x / 2 ^ k) 1 (by omega) (by omega)
  rw [e]
  rw [show ((1 : Nat) : Int) = 1 from rfl] at h
  rw [h, Nat.and_one_is_mod, Nat.testBit_eq_decide_div_mod_eq]
  rcases Nat.mod_two_eq_zero_or_one (x / 2 ^ k) with h1 | h1 <;> simp [h1]
set_option maxRecDepth 100000 in
set_option maxHeartbeats 2000000 in
theorem oexpo_c (x : Nat) (hx : x < 18446744073709551616) (w : World) (hT : Pows w) :
    Calls Tryd.prog 64 #[.int .u64 (x : Int)] w fun r w' => r = .returned (.int .u64 ((ofx x : Nat) : Int)) ∧ Below w.heap.size w w' := by
  have HT := Lib.hid hT
  clear hT
  by_cases hb : 137438953472 ≤ x
  · have e0 : (137438953472 : Int) ≤ (x : Int) := by omega
    have HO := Lib.hid (ofx_big x hb)
    go_enter Tryd.func64, Tryd.ntmps64
    go_wp2_with fail
    go_step3
    go_wp2_with fail
    rw [Exit.noGoto_ret]
    go_ret
    exact ⟨by rw [HO.out]; rfl, Below.refl _ _⟩
  · have e0 : decide ((137438953472 : Int) ≤ (x : Int)) = false := by simp; omega
    have HO := Lib.hid (ofx_in x (by omega))
    go_enter Tryd.func64, Tryd.ntmps64
    go_wp2_with fail
    go_step3
    go_wp2_with fail
    go_step3
    go_wp2_with fail
    go_loopw [3, 8] (fun n i wr => ∃ k : Nat, k ≤ 37 ∧ i = .int .i64 k ∧ n = .int .u64 ((eN x k : Nat) : Int) ∧ Below w.heap.size w wr) (fun _ i _ => 37 - (intOf i).toNat)
    case atStart => exact ⟨0, by omega, rfl, rfl, Below.refl _ _⟩
    case round =>
      obtain ⟨k, hk, rfl, rfl, hbw⟩ := hrel
      have HB := Lib.hid hbw
      have hzz := hbw.size
      clear hbw
      have hle := eN_le x k
      by_cases hlt : k < 37
      · have hlt' : (k : Int) < 37 := by omega
        obtain ⟨P, hP⟩ : ∃ P, 36 - k = P := ⟨_, rfl⟩
        have hPi : (36 : Int) - (k : Int) = (P : Int) := by omega
        have hb1 := bit_and x P hx
        have hP37 : P < 37 := by omega
        have hPn : (P : Int).toNat = P := by omega
        by_cases hbit : x.testBit P = true
        · rw [if_pos hbit] at hb1
          have HN := Lib.hid (show eN x (k + 1) = eN x k * pk P / 4611686018427387904 by rw [eN, hP, if_pos hbit])
          have hcell := (HT.out.below HB.out).2 P hP37
          have hpl := pk_le P
          obtain ⟨m1, m2, m3, m4⟩ := prod_in (eN x k) (pk P) hle hpl
          have hms := mulshr (eN x k) (pk P) hle hpl
          rw [← HN.out] at hms
          have HM := wmul_c ((eN x k : Nat) : Int) ((pk P : Nat) : Int) (by omega) (by omega) (by omega) (by omega)
          have HS := fun w => wshr_c _ _ 62 m1 m3 (by omega) m2 m4 (by omega) w
          rw [hms] at HS
          clear hbit hms m1 m2 m3 m4 hP
          generalize ((eN x k : Nat) : Int) * ((pk P : Nat) : Int) / 18446744073709551616 = A1 at *
          generalize ((eN x k : Nat) : Int) * ((pk P : Nat) : Int) % 18446744073709551616 = A2 at *
          generalize eN x k = E0 at *
          generalize pk P = Q at *
          obtain ⟨E1, hE1⟩ : ∃ E1, eN x (k + 1) = E1 := ⟨_, rfl⟩
          rw [hE1] at HS
          have HE1 := Lib.hid hE1
          clear hE1 HN
          have hfd : ∀ (x y : Int) (w : World), (Instr.field 74 (.agg #[.int .u64 x, .int .u64 y]) 1).run Tryd.prog w = .ok (.int .u64 y) w := fun _ _ _ => by kernel_rfl
          go_wp2_with fail
          with_reducible refine (HM _).mono ?_
          rintro e w1 ⟨rfl, hc1⟩
          have hzc := hc1.size
          go_wp2_with fail
          with_reducible refine (HS _).mono ?_
          rintro e w2 ⟨rfl, hc2⟩
          go_wp2_with fail
          go_roundw
          case rel => exact ⟨k + 1, by omega, by go_num, by rw [HE1.out], chain (chain HB.out hc1) hc2⟩
          case measure => simp [intOf]; omega
        · rw [if_neg hbit] at hb1
          have HN := Lib.hid (show eN x (k + 1) = eN x k by rw [eN, hP, if_neg hbit])
          clear hbit hP
          go_wp2_with fail
          go_roundw
          case rel => exact ⟨k + 1, by omega, by go_num, by rw [HN.out], HB.out⟩
          case measure => simp [intOf]; omega
      · have hke : k = 37 := by omega
        subst hke
        have e1 : ((eN x 37 : Nat) : Int) / 1073741824 = ((ofx x : Nat) : Int) := by rw [HO.out]; unfold est; omega
        go_wp2_with fail
        (try rw [Exit.noGoto_ret])
        go_ret
        exact ⟨rfl, HB.out⟩
end Go.Proofs.Tryd
