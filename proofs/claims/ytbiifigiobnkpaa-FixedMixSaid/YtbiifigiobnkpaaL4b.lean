/- The walks of FixedMix and FixedParts. -/
import Derived.Test.YtbiifigiobnkpaaL4a
namespace Go.Proofs.Try
open Go.RowKit
set_option linter.unusedVariables false

theorem mix_as (a b w : Int) : mixN a b w = (a * 4294967296 + (b - a) * min w 4294967296) / 4294967296 := by
  unfold mixN
  rw [Int.mul_sub, Int.sub_mul]
  congr 1
  omega
theorem mix_between (a b w : Int) (hw : 0 ≤ w) : min a b ≤ mixN a b w ∧ mixN a b w ≤ max a b := by
  rw [mix_as]
  obtain ⟨m0, m1⟩ : 0 ≤ min w 4294967296 ∧ min w 4294967296 ≤ 4294967296 := by omega
  generalize min w 4294967296 = m at *
  by_cases h : a ≤ b
  · have p : 0 ≤ (b - a) * m := Int.mul_nonneg (by omega) m0
    have q : (b - a) * m ≤ (b - a) * 4294967296 := Int.mul_le_mul_of_nonneg_left m1 (by omega)
    generalize (b - a) * m = P at *
    omega
  · have e : (b - a) * m = -((a - b) * m) := by rw [← Int.neg_mul]; congr 1; omega
    have p : 0 ≤ (a - b) * m := Int.mul_nonneg (by omega) m0
    have q : (a - b) * m ≤ (a - b) * 4294967296 := Int.mul_le_mul_of_nonneg_left m1 (by omega)
    rw [e]
    generalize (a - b) * m = P at *
    omega
theorem mix_zero (a b : Int) : mixN a b 0 = a := by rw [mix_as, show min (0 : Int) 4294967296 = 0 by omega, Int.mul_zero]; omega
theorem mix_one (a b w : Int) (h : 4294967296 ≤ w) : mixN a b w = b := by
  rw [mix_as, show min w 4294967296 = 4294967296 by omega, ← Int.add_mul]
  omega
theorem mix_same (a w : Int) : mixN a a w = a := by rw [mix_as, Int.sub_self, Int.zero_mul]; omega
theorem mix_rises (a b w v : Int) (hab : a ≤ b) (hwv : w ≤ v) : mixN a b w ≤ mixN a b v := by
  rw [mix_as, mix_as]
  have q : (b - a) * min w 4294967296 ≤ (b - a) * min v 4294967296 := Int.mul_le_mul_of_nonneg_left (by omega) (by omega)
  generalize (b - a) * min w 4294967296 = P at *
  generalize (b - a) * min v 4294967296 = R at *
  omega

set_option maxRecDepth 100000 in
set_option maxHeartbeats 4000000 in
theorem walk_FixedMix (a0 a1 a2 a3 : Int) (w0 : (Lit.int .u64 a0).wf = true) (w1 : (Lit.int .u64 a1).wf = true) (w2 : (Lit.int .u64 a2).wf = true) (w3 : (Lit.int .u64 a3).wf = true) (w : World) :
    Calls Try.prog 11 #[.int .u64 a0, .int .u64 a1, .int .u64 a2, .int .u64 a3] w fun e w' => e = .returned (.bool true) ∧ Below w.heap.size w w' := by
  obtain ⟨h0, h0'⟩ := bounds_u64 w0
  obtain ⟨h1, h1'⟩ := bounds_u64 w1
  obtain ⟨h2, h2'⟩ := bounds_u64 w2
  obtain ⟨h3, h3'⟩ := bounds_u64 w3
  clear w0 w1 w2 w3
  obtain ⟨m1, m2⟩ := mix_between a0 a1 a2 h2
  have m3 := mix_zero a0 a1
  have m4 := mix_one a0 a1 (max a2 4294967296) (by omega)
  have m5 := mix_same a0 a2
  obtain ⟨i0, i1⟩ : 0 ≤ max a2 4294967296 ∧ max a2 4294967296 < 18446744073709551616 := by omega
  by_cases hab : a0 ≤ a1
  · have g0 : decide (a0 > a1) = false := by simp; omega
    have g1 : decide (a1 < a0) = false := by simp; omega
    by_cases hwv : a2 ≤ a3
    · have m6 := mix_rises a0 a1 a2 a3 hab hwv
      have g2 : min a2 a3 = a2 := by omega
      go_enter Try.func11, Try.ntmps11
      go_wp2_with fail
      refine (awake4 _).mono ?_
      rintro e w1 ⟨rfl, hb1⟩
      have hz1 := hb1.size
      go_wp2_with (go_at_call 37; refine (fmix_c _ _ _ (by omega) (by omega) (by omega) (by omega) (by omega) (by omega) _).mono ?_; rintro e w1 ⟨rfl, hb1⟩; have hz1 := hb1.size)
      go_ret
      exact ⟨rfl, by (repeat' (first | (with_reducible exact Below.refl _ _) | (with_reducible assumption) | (with_reducible refine Below.alloc ?_ ?_ _) | (with_reducible refine Below.drew ?_) | (with_reducible refine Below_drewN ?_ _) | (with_reducible refine Below.setCell ?_ ?_ _) | (refine Below.step (B' := ?_) (b := ?_) ?_ ?_ ?_; rotate_left 2; (with_reducible assumption)) | go_size))⟩
    · have m6 := mix_rises a0 a1 a3 a2 hab (by omega)
      have g2 : min a2 a3 = a3 := by omega
      have g3 : (a3 == a2) = false := by simp; omega
      go_enter Try.func11, Try.ntmps11
      go_wp2_with fail
      refine (awake4 _).mono ?_
      rintro e w1 ⟨rfl, hb1⟩
      have hz1 := hb1.size
      go_wp2_with (go_at_call 37; refine (fmix_c _ _ _ (by omega) (by omega) (by omega) (by omega) (by omega) (by omega) _).mono ?_; rintro e w1 ⟨rfl, hb1⟩; have hz1 := hb1.size)
      go_ret
      exact ⟨rfl, by (repeat' (first | (with_reducible exact Below.refl _ _) | (with_reducible assumption) | (with_reducible refine Below.alloc ?_ ?_ _) | (with_reducible refine Below.drew ?_) | (with_reducible refine Below_drewN ?_ _) | (with_reducible refine Below.setCell ?_ ?_ _) | (refine Below.step (B' := ?_) (b := ?_) ?_ ?_ ?_; rotate_left 2; (with_reducible assumption)) | go_size))⟩
  · have g1 : a1 < a0 := by omega
    go_enter Try.func11, Try.ntmps11
    go_wp2_with fail
    refine (awake4 _).mono ?_
    rintro e w1 ⟨rfl, hb1⟩
    have hz1 := hb1.size
    go_wp2_with (go_at_call 37; refine (fmix_c _ _ _ (by omega) (by omega) (by omega) (by omega) (by omega) (by omega) _).mono ?_; rintro e w1 ⟨rfl, hb1⟩; have hz1 := hb1.size)
    go_ret
    exact ⟨rfl, by (repeat' (first | (with_reducible exact Below.refl _ _) | (with_reducible assumption) | (with_reducible refine Below.alloc ?_ ?_ _) | (with_reducible refine Below.drew ?_) | (with_reducible refine Below_drewN ?_ _) | (with_reducible refine Below.setCell ?_ ?_ _) | (refine Below.step (B' := ?_) (b := ?_) ?_ ?_ ?_; rotate_left 2; (with_reducible assumption)) | go_size))⟩

theorem parts_math (n m : Int) (hn : 0 ≤ n) (hm : 0 ≤ m) (hn' : n < 65536) (hm' : m < 65536) :
    fl n 4294967296 1 = n * 4294967296 ∧ flE n 4294967296 1 = 0 ∧ (n * m < 4294967296 ∧ fMul (n * 4294967296) (m * 4294967296) = n * m * 4294967296) ∧ 0 ≤ n * m := by
  have p : n * m ≤ 65535 * 65535 := Int.mul_le_mul (by omega) (by omega) hm (by omega)
  have q : 0 ≤ n * m := Int.mul_nonneg hn hm
  have e : n * 4294967296 * (m * 4294967296) = n * m * 4294967296 * 4294967296 := by
    rw [Int.mul_assoc, Int.mul_comm 4294967296, Int.mul_assoc m, ← Int.mul_assoc, Int.mul_assoc (n * m)]
  refine ⟨by rw [fl, if_neg (by omega), Int.ediv_one, if_pos (by omega)], by rw [flE, if_neg (by omega), Int.ediv_one, if_pos (by omega)], ⟨by omega, ?_⟩, q⟩
  unfold fMul
  rw [e]
  generalize n * m = P at *
  rw [if_pos (by omega)]
  omega
theorem fMul_one (a : Int) (ha' : a < 18446744073709551616) : fMul a 4294967296 = a := by
  unfold fMul
  rw [if_pos (by omega)]
  omega

set_option maxRecDepth 100000 in
set_option maxHeartbeats 4000000 in
theorem walk_FixedParts (a0 a1 a2 : Int) (w0 : (Lit.int .u64 a0).wf = true) (w1 : (Lit.int .u16 a1).wf = true) (w2 : (Lit.int .u16 a2).wf = true) (w : World) :
    Calls Try.prog 10 #[.int .u64 a0, .int .u16 a1, .int .u16 a2] w fun e w' => e = .returned (.bool true) ∧ Below w.heap.size w w' := by
  obtain ⟨h0, h0'⟩ := bounds_u64 w0
  obtain ⟨h1, h1'⟩ := bounds_u16 w1
  obtain ⟨h2, h2'⟩ := bounds_u16 w2
  clear w0 w1 w2
  obtain ⟨m1, m2, ⟨m3, m4⟩, m5⟩ := parts_math a1 a2 h1 h2 (by omega) (by omega)
  obtain ⟨n1, n2, _, _⟩ := parts_math a2 a1 h2 h1 (by omega) (by omega)
  have m6 := fMul_one a0 (by omega)
  have E1 : IntKind.u64.wrap a1 = a1 := by rw [IntKind.wrap_u64]; omega
  have E2 : IntKind.u64.wrap a2 = a2 := by rw [IntKind.wrap_u64]; omega
  have E3 : IntKind.u64.wrap (a1 * a2) = a1 * a2 := by rw [IntKind.wrap_u64]; omega
  have E4 : IntKind.u64.wrap (a0 / 4294967296 * 4294967296) = a0 / 4294967296 * 4294967296 := by rw [IntKind.wrap_u64]; omega
  have E5 : IntKind.u64.wrap (a0 / 4294967296 * 4294967296 + a0 % 4294967296) = a0 := by rw [IntKind.wrap_u64]; omega
  have E6 : a1 * 4294967296 / 4294967296 = a1 := by omega
  have E7 : a1 * a2 * 4294967296 / 4294967296 = a1 * a2 := by omega
  have E8 : a1 * a2 * 4294967296 % 4294967296 = 0 := by omega
  go_enter Try.func10, Try.ntmps10
  go_wp2_with fail
  refine (awake4 _).mono ?_
  rintro e w1 ⟨rfl, hb1⟩
  have hz1 := hb1.size
  go_wp2_with (first
    | (go_at_call 27; refine (fof_c _ _ (by omega) (by omega) (by omega) (by omega) _).mono ?_; rintro e w1 ⟨rfl, hb1⟩; have hz1 := hb1.size)
    | (go_at_call 31; refine (fmul_c _ _ (by omega) (by omega) (by omega) (by omega) _).mono ?_; rintro e w3 ⟨rfl, hb3⟩; have hz3 := hb3.size)
    | (go_at_call 35; refine (fpart_c _ (by omega) (by omega) _).mono ?_; rintro e w4 ⟨rfl, rfl⟩)
    | (go_at_call 33; refine (fwhole_c _ (by omega) (by omega) _).mono ?_; rintro e w4 ⟨rfl, rfl⟩))
  go_ret
  exact ⟨rfl, by (repeat' (first | (with_reducible exact Below.refl _ _) | (with_reducible assumption) | (with_reducible refine Below.alloc ?_ ?_ _) | (with_reducible refine Below.drew ?_) | (with_reducible refine Below_drewN ?_ _) | (with_reducible refine Below.setCell ?_ ?_ _) | (refine Below.step (B' := ?_) (b := ?_) ?_ ?_ ?_; rotate_left 2; (with_reducible assumption)) | go_size))⟩
end Go.Proofs.Try
