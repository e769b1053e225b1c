/- The walk of ThingHome. -/
import Derived.Test.YthijffdljoeelaaW9
import Derived.Laws.Bits64b
namespace Go.Proofs.Try
open Go.RowKit
set_option linter.unusedVariables false

theorem and_low (h P : Int) (m : Nat) (h0 : 0 ≤ h) (h1 : h < 18446744073709551616) (hm : m < 60) (hP : P = ((2 ^ m : Nat) : Int)) : bits .and .u64 h (P - 1) = h % P := by
  obtain ⟨N, rfl⟩ := Int.eq_ofNat_of_zero_le h0
  subst hP
  have hp : 2 ^ m < 2 ^ 60 := Nat.pow_lt_pow_right (by omega) hm
  have hq : 0 < 2 ^ m := Nat.pow_pos (by omega)
  have e : ((2 ^ m : Nat) : Int) - 1 = ((2 ^ m - 1 : Nat) : Int) := by omega
  rw [e, bits_and_u64_nat N (2 ^ m - 1) (by omega) (by omega), Nat.and_two_pow_sub_one_eq_mod, Int.natCast_emod]
theorem two_pow (m : Nat) (hm : m < 60) : ∃ P : Int, (2 : Int) ^ m = P ∧ P = ((2 ^ m : Nat) : Int) ∧ 1 ≤ P ∧ P ≤ 576460752303423488 := by
  have hp : 2 ^ m ≤ 2 ^ 59 := Nat.pow_le_pow_right (by omega) (by omega)
  have hq : 0 < 2 ^ m := Nat.pow_pos (by omega)
  exact ⟨((2 ^ m : Nat) : Int), by simp, rfl, by omega, by omega⟩
set_option maxRecDepth 100000 in
set_option maxHeartbeats 1000000 in
theorem walk_ThingHome (a0 : ByteArray) (a1 a2 : Int) (w0 : a0.size ≤ maxLen) (w1 : (Lit.int .i64 a1).wf = true) (w2 : (Lit.int .u8 a2).wf = true) (w : World) :
    Calls Try.prog 13 #[.string a0, .int .i64 a1, .int .u8 a2] w fun e w' => e = .returned (.bool true) ∧ Below w.heap.size w w' := by
  obtain ⟨h1, h1'⟩ := bounds_i64 w1
  obtain ⟨h2, h2'⟩ := bounds_u8 w2
  clear w1 w2
  by_cases c0 : a0.size ≤ 1000
  · have d0 : decide (1000 < (a0.size : Int)) = false := by simp; omega
    clear w0
    have H0 := hash_c a0 (by omega)
    have H1 := home_c a0 a1 (by omega) (by omega) (by omega)
    have H2 := fun n => home_c a0 n (by omega)
    obtain ⟨n0, n1⟩ := hash_in a0
    obtain ⟨P, hP, hP2, p0, p1⟩ := two_pow (a2 % 60).toNat (by omega)
    have hw : wrap64 P = P := by unfold wrap64; omega
    have hA := and_low (hash a0) P _ n0 n1 (by omega) hP2
    clear hP2
    have q0 := Int.emod_nonneg (hash a0) (show P ≠ 0 by omega)
    have q1 := Int.emod_lt_of_pos (hash a0) (show 0 < P by omega)
    have hq : home a0 P = hash a0 % P := by unfold home; rw [if_neg (by omega)]
    have hq1 : home a0 1 = 0 := by unfold home; rw [if_neg (by omega)]; omega
    have hr : (a1 < 1 → home a0 a1 = 0) ∧ (1 ≤ a1 → 0 ≤ home a0 a1 ∧ home a0 a1 < a1) := by
      refine ⟨fun h => by unfold home; rw [if_pos h], fun h => ?_⟩
      unfold home
      rw [if_neg (by omega)]
      exact ⟨Int.emod_nonneg _ (by omega), Int.emod_lt_of_pos _ (by omega)⟩
    have H2' := H2 P (by omega) (by omega)
    have H2'' := H2 1 (by omega) (by omega)
    rw [hq] at H2'
    rw [hq1] at H2''
    clear H2 hq hq1
    generalize hash a0 % P = L at *
    generalize hash a0 = N at *
    generalize home a0 a1 = t at *
    by_cases c1 : a1 < 1
    · obtain rfl := hr.1 c1
      clear hr
      go_enter Try.func13, Try.ntmps13
      go_wp2_with fail
      with_reducible refine (awake9 _).mono ?_
      rintro e w1 ⟨rfl, hb1⟩
      have hz3 := hb1.size
      go_wp2_with fail
      with_reducible refine (H1 _).mono ?_
      rintro e w' ⟨rfl, rfl⟩
      go_wp2_with fail
      with_reducible refine (H2' _).mono ?_
      rintro e w' ⟨rfl, rfl⟩
      go_wp2_with fail
      with_reducible refine (H0 _).mono ?_
      rintro e w' ⟨rfl, rfl⟩
      go_wp2_with fail
      with_reducible refine (H2'' _).mono ?_
      rintro e w' ⟨rfl, rfl⟩
      go_wp2_with fail
      go_ret
      exact ⟨by first | rfl | (simp; done), by (repeat' (first | (with_reducible exact Below.refl _ _) | (with_reducible assumption) | (with_reducible refine Below.alloc ?_ ?_ _) | (with_reducible refine Below.drew ?_) | (with_reducible refine Below_drewN ?_ _) | (with_reducible refine Below.setCell ?_ ?_ _) | (refine Below.step (B' := ?_) (b := ?_) ?_ ?_ ?_; rotate_left 2; (with_reducible assumption)) | go_size))⟩
    · obtain ⟨t0, t1⟩ := hr.2 (by omega)
      clear hr
      have e0 : decide (a1 < 1) = false := by simp; omega
      go_enter Try.func13, Try.ntmps13
      go_wp2_with fail
      with_reducible refine (awake9 _).mono ?_
      rintro e w1 ⟨rfl, hb1⟩
      have hz3 := hb1.size
      go_wp2_with fail
      with_reducible refine (H1 _).mono ?_
      rintro e w' ⟨rfl, rfl⟩
      go_wp2_with fail
      with_reducible refine (H2' _).mono ?_
      rintro e w' ⟨rfl, rfl⟩
      go_wp2_with fail
      with_reducible refine (H0 _).mono ?_
      rintro e w' ⟨rfl, rfl⟩
      go_wp2_with fail
      with_reducible refine (H2'' _).mono ?_
      rintro e w' ⟨rfl, rfl⟩
      go_wp2_with fail
      go_ret
      exact ⟨by first | rfl | (simp; done), by (repeat' (first | (with_reducible exact Below.refl _ _) | (with_reducible assumption) | (with_reducible refine Below.alloc ?_ ?_ _) | (with_reducible refine Below.drew ?_) | (with_reducible refine Below_drewN ?_ _) | (with_reducible refine Below.setCell ?_ ?_ _) | (refine Below.step (B' := ?_) (b := ?_) ?_ ?_ ?_; rotate_left 2; (with_reducible assumption)) | go_size))⟩
  · have d0 : 1000 < (a0.size : Int) := by omega
    go_enter Try.func13, Try.ntmps13
    go_wp2_with fail
    with_reducible refine (awake9 _).mono ?_
    rintro e w1 ⟨rfl, hb1⟩
    go_wp2_with fail
    go_ret
    exact ⟨rfl, by (repeat' (first | (with_reducible exact Below.refl _ _) | (with_reducible assumption) | (with_reducible refine Below.alloc ?_ ?_ _) | (with_reducible refine Below.drew ?_) | (with_reducible refine Below_drewN ?_ _) | (with_reducible refine Below.setCell ?_ ?_ _) | (refine Below.step (B' := ?_) (b := ?_) ?_ ?_ ?_; rotate_left 2; (with_reducible assumption)) | go_size))⟩
end Go.Proofs.Try
