/- The walks of FixedSmall, FixedParts, FixedBack. -/
import Derived.Test.YtbiifigiobnkpaaW4
namespace Go.Proofs.Try
open Go.RowKit
set_option linter.unusedVariables false

theorem fMul_small (a b : Int) (ha : 0 ≤ a) (hb : 0 ≤ b) (ha' : a ≤ 18446744073709551615) (hb' : b ≤ 4294967296) : fMul a b ≤ a := by
  have p : a * b ≤ a * 4294967296 := Int.mul_le_mul_of_nonneg_left hb' ha
  unfold fMul
  generalize a * b = P at *
  split <;> omega
theorem fMul_comm (a b : Int) : fMul a b = fMul b a := by unfold fMul; rw [Int.mul_comm]
theorem fMul_mono (a c b : Int) (ha : 0 ≤ a) (hb : 0 ≤ b) (h : a ≤ c) : fMul a b ≤ fMul c b := by
  have p : a * b ≤ c * b := Int.mul_le_mul_of_nonneg_right h hb
  have q : 0 ≤ a * b := Int.mul_nonneg ha hb
  unfold fMul
  generalize a * b = P at *
  generalize c * b = R at *
  split <;> split <;> omega
theorem fMul_zero (a : Int) : fMul a 0 = 0 := by unfold fMul; simp
theorem fMul_in (a b : Int) (ha : 0 ≤ a) (hb : 0 ≤ b) : 0 ≤ fMul a b ∧ fMul a b < 18446744073709551616 := by
  have q : 0 ≤ a * b := Int.mul_nonneg ha hb
  unfold fMul
  generalize a * b = P at *
  split <;> omega

set_option maxRecDepth 100000 in
set_option maxHeartbeats 4000000 in
theorem walk_FixedSmall (a0 a1 a2 : Int) (w0 : (Lit.int .u64 a0).wf = true) (w1 : (Lit.int .u64 a1).wf = true) (w2 : (Lit.int .u64 a2).wf = true) (w : World) :
    Calls Try.prog 12 #[.int .u64 a0, .int .u64 a1, .int .u64 a2] w fun e w' => e = .returned (.bool true) ∧ Below w.heap.size w w' := by
  obtain ⟨h0, h0'⟩ := bounds_u64 w0
  obtain ⟨h1, h1'⟩ := bounds_u64 w1
  obtain ⟨h2, h2'⟩ := bounds_u64 w2
  clear w0 w1 w2
  obtain ⟨i0, i1⟩ : 0 ≤ min a1 4294967296 ∧ min a1 4294967296 ≤ 4294967296 := by omega
  obtain ⟨j0, j1, j2⟩ : 0 ≤ min a0 a2 ∧ min a0 a2 ≤ max a0 a2 ∧ max a0 a2 ≤ 18446744073709551615 := by omega
  have m1 := fMul_small a0 (min a1 4294967296) h0 i0 h0' i1
  have m2 := fMul_comm a1 a0
  have m3 := fMul_mono (min a0 a2) (max a0 a2) a1 j0 h1 j1
  have m4 := fMul_zero a0
  go_enter Try.func12, Try.ntmps12
  go_wp2_with fail
  refine (awake4 _).mono ?_
  rintro e w1 ⟨rfl, hb1⟩
  have hz1 := hb1.size
  go_wp2_with (go_at_call 31; refine (fmul_c _ _ (by omega) (by omega) (by omega) (by omega) _).mono ?_; rintro e w1 ⟨rfl, hb1⟩; have hz1 := hb1.size)
  go_ret
  exact ⟨rfl, by (repeat' (first | (with_reducible exact Below.refl _ _) | (with_reducible assumption) | (with_reducible refine Below.alloc ?_ ?_ _) | (with_reducible refine Below.drew ?_) | (with_reducible refine Below_drewN ?_ _) | (with_reducible refine Below.setCell ?_ ?_ _) | (refine Below.step (B' := ?_) (b := ?_) ?_ ?_ ?_; rotate_left 2; (with_reducible assumption)) | go_size))⟩

theorem back_math4 (a b : Int) (ha : 0 ≤ a) (hb : 0 < b) (ha' : a ≤ 18446744073709551615) (hb' : b ≤ 18446744073709551615) (h : a * 4294967296 / b < 18446744073709551616) :
    fl a 4294967296 b = a * 4294967296 / b ∧ flE a 4294967296 b = 0 ∧ 0 ≤ a * 4294967296 / b ∧ fMul (a * 4294967296 / b) b ≤ a ∧ a - fMul (a * 4294967296 / b) b ≤ b / 4294967296 + 1 := by
  have q := Int.mul_ediv_add_emod (a * 4294967296) b
  have r := Int.emod_nonneg (a * 4294967296) (show b ≠ 0 by omega)
  have r' := Int.emod_lt_of_pos (a * 4294967296) hb
  refine ⟨by rw [fl, if_neg (by omega), if_pos h], by rw [flE, if_neg (by omega), if_pos h], Int.ediv_nonneg (by omega) (by omega), ?_, ?_⟩
  all_goals
    unfold fMul
    rw [Int.mul_comm _ b]
    generalize b * (a * 4294967296 / b) = P at *
    generalize a * 4294967296 % b = R at *
    split <;> omega

set_option maxRecDepth 100000 in
set_option maxHeartbeats 4000000 in
theorem walk_FixedBack (a0 a1 : Int) (w0 : (Lit.int .u64 a0).wf = true) (w1 : (Lit.int .u64 a1).wf = true) (w : World) :
    Calls Try.prog 13 #[.int .u64 a0, .int .u64 a1] w fun e w' => e = .returned (.bool true) ∧ Below w.heap.size w w' := by
  obtain ⟨h0, h0'⟩ := bounds_u64 w0
  obtain ⟨h1, h1'⟩ := bounds_u64 w1
  clear w0 w1
  by_cases hb : a1 = 0
  · subst hb
    have m1 : fl a0 4294967296 0 = 0 := by rw [fl, if_pos rfl]
    have m2 : flE a0 4294967296 0 = 20 := by rw [flE, if_pos rfl]
    go_enter Try.func13, Try.ntmps13
    go_wp2_with fail
    refine (awake4 _).mono ?_
    rintro e w1 ⟨rfl, hb1⟩
    have hz1 := hb1.size
    go_wp2_with (go_at_call 29; refine (fdiv_c _ _ (by omega) (by omega) (by omega) (by omega) _).mono ?_; rintro e w2 ⟨rfl, hb2⟩; have hz2 := hb2.size)
    go_ret
    exact ⟨rfl, by (repeat' (first | (with_reducible exact Below.refl _ _) | (with_reducible assumption) | (with_reducible refine Below.alloc ?_ ?_ _) | (with_reducible refine Below.drew ?_) | (with_reducible refine Below_drewN ?_ _) | (with_reducible refine Below.setCell ?_ ?_ _) | (refine Below.step (B' := ?_) (b := ?_) ?_ ?_ ?_; rotate_left 2; (with_reducible assumption)) | go_size))⟩
  · by_cases h : a0 * 4294967296 / a1 < 18446744073709551616
    · obtain ⟨m1, m2, m3, m4, m5⟩ := back_math4 a0 a1 h0 (by omega) h0' h1' h
      obtain ⟨m6, m7⟩ := fMul_in (a0 * 4294967296 / a1) a1 m3 h1
      have HH := Lib.hid h
      generalize a0 * 4294967296 / a1 = q at *
      generalize hp : fMul q a1 = p at *
      have E1 : IntKind.u64.wrap (a0 - p) = a0 - p := by rw [IntKind.wrap_u64]; omega
      have E2 : IntKind.u64.wrap (a1 / 4294967296 + 1) = a1 / 4294967296 + 1 := by rw [IntKind.wrap_u64]; omega
      go_enter Try.func13, Try.ntmps13
      go_wp2_with fail
      refine (awake4 _).mono ?_
      rintro e w1 ⟨rfl, hb1⟩
      have hz1 := hb1.size
      go_wp2_with (first
        | (go_at_call 29; refine (fdiv_c _ _ (by omega) (by omega) (by omega) (by omega) _).mono ?_; rintro e w2 ⟨rfl, hb2⟩; have hz2 := hb2.size)
        | (go_at_call 31; refine (fmul_c _ _ (by omega) (by omega) (by omega) (by omega) _).mono ?_; rintro e w3 ⟨rfl, hb3⟩; have hz3 := hb3.size)
        | (go_at_call 33; refine (fwhole_c _ (by omega) (by omega) _).mono ?_; rintro e w4 ⟨rfl, rfl⟩))
      go_ret
      exact ⟨rfl, by (repeat' (first | (with_reducible exact Below.refl _ _) | (with_reducible assumption) | (with_reducible refine Below.alloc ?_ ?_ _) | (with_reducible refine Below.drew ?_) | (with_reducible refine Below_drewN ?_ _) | (with_reducible refine Below.setCell ?_ ?_ _) | (refine Below.step (B' := ?_) (b := ?_) ?_ ?_ ?_; rotate_left 2; (with_reducible assumption)) | go_size))⟩
    · have m1 : fl a0 4294967296 a1 = 0 := by rw [fl, if_neg hb, if_neg h]
      have m2 : flE a0 4294967296 a1 = 10 := by rw [flE, if_neg hb, if_neg h]
      have e1 : (a1 == 0) = false := by simp; omega
      go_enter Try.func13, Try.ntmps13
      go_wp2_with fail
      refine (awake4 _).mono ?_
      rintro e w1 ⟨rfl, hb1⟩
      have hz1 := hb1.size
      go_wp2_with (go_at_call 29; refine (fdiv_c _ _ (by omega) (by omega) (by omega) (by omega) _).mono ?_; rintro e w2 ⟨rfl, hb2⟩; have hz2 := hb2.size)
      go_ret
      exact ⟨rfl, by (repeat' (first | (with_reducible exact Below.refl _ _) | (with_reducible assumption) | (with_reducible refine Below.alloc ?_ ?_ _) | (with_reducible refine Below.drew ?_) | (with_reducible refine Below_drewN ?_ _) | (with_reducible refine Below.setCell ?_ ?_ _) | (refine Below.step (B' := ?_) (b := ?_) ?_ ?_ ?_; rotate_left 2; (with_reducible assumption)) | go_size))⟩
end Go.Proofs.Try
