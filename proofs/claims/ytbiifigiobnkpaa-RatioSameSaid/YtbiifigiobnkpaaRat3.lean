/- Contracts of linhayref03.Ceil, Near. -/
import Derived.Test.YtbiifigiobnkpaaRat
namespace Go.Proofs.Try
open Go.RowKit
set_option linter.unusedVariables false

theorem ceil_eq (P c : Int) (hc : 0 < c) : (P + (c - 1)) / c = cq P c := by
  have q := Int.mul_ediv_add_emod P c
  have r := Int.emod_nonneg P (show c ≠ 0 by omega)
  have r' := Int.emod_lt_of_pos P hc
  unfold cq
  split
  · rename_i h
    rw [show P + (c - 1) = (c - 1) + c * (P / c) by omega, Int.add_mul_ediv_left _ _ (by omega), Int.ediv_eq_zero_of_lt (by omega) (by omega)]; omega
  · rw [show P + (c - 1) = (P % c - 1) + c * (P / c + 1) by rw [Int.mul_add]; omega, Int.add_mul_ediv_left _ _ (by omega), Int.ediv_eq_zero_of_lt (by omega) (by omega)]; omega
theorem near_eq (P c : Int) (hc : 0 < c) : (P + c / 2) / c = nq P c := by
  have q := Int.mul_ediv_add_emod P c
  have r := Int.emod_nonneg P (show c ≠ 0 by omega)
  have r' := Int.emod_lt_of_pos P hc
  unfold nq
  split
  · rw [show P + c / 2 = (P % c + c / 2 - c) + c * (P / c + 1) by rw [Int.mul_add]; omega, Int.add_mul_ediv_left _ _ (by omega), Int.ediv_eq_zero_of_lt (by omega) (by omega)]; omega
  · rw [show P + c / 2 = (P % c + c / 2) + c * (P / c) by omega, Int.add_mul_ediv_left _ _ (by omega), Int.ediv_eq_zero_of_lt (by omega) (by omega)]; omega
theorem rp_pv (a b c d n : Int) (h : c ≠ 0 → (a * b + d) / c = n) : rp a b c d = pv c n ∧ rpE a b c d = pe c n := by
  unfold rp rpE pv pe
  by_cases hc : c = 0
  · simp [hc]
  · rw [h hc]; simp [hc]
theorem rceil_c (a b c : Int) (ha : 0 ≤ a) (hb : 0 ≤ b) (hc : 0 ≤ c) (ha' : a < 18446744073709551616) (hb' : b < 18446744073709551616) (hc' : c < 18446744073709551616) (w : World) :
    Calls Try.prog 23 #[.int .u64 a, .int .u64 b, .int .u64 c] w fun r w' => r = .returned (.tuple #[.int .u64 (pv c (cq (a * b) c)), .int .i64 (pe c (cq (a * b) c))]) ∧ Below w.heap.size w w' := by
  have HE := Lib.hid (rp_pv a b c (max c 1 - 1) (cq (a * b) c) (fun h => by rw [show max c 1 - 1 = c - 1 by omega]; exact ceil_eq _ _ (by omega)))
  go_enter Try.func23, Try.ntmps23
  go_wp2_with fail
  with_reducible refine (rpart_c _ _ _ (max c 1 - 1) ha hb hc (by omega) ha' hb' hc' (by omega) _).mono ?_
  rintro e w2 ⟨rfl, hb2⟩
  go_wp2_with fail
  go_ret2
  exact ⟨by rw [← HE.out.1, ← HE.out.2]; try rfl, hb2⟩
theorem rnear_c (a b c : Int) (ha : 0 ≤ a) (hb : 0 ≤ b) (hc : 0 ≤ c) (ha' : a < 18446744073709551616) (hb' : b < 18446744073709551616) (hc' : c < 18446744073709551616) (w : World) :
    Calls Try.prog 25 #[.int .u64 a, .int .u64 b, .int .u64 c] w fun r w' => r = .returned (.tuple #[.int .u64 (pv c (nq (a * b) c)), .int .i64 (pe c (nq (a * b) c))]) ∧ Below w.heap.size w w' := by
  have HE := Lib.hid (rp_pv a b c (c / 2) (nq (a * b) c) (fun h => near_eq _ _ (by omega)))
  go_enter Try.func25, Try.ntmps25
  go_wp2_with fail
  with_reducible refine (rpart_c _ _ _ (c / 2) ha hb hc (by omega) ha' hb' hc' (by omega) _).mono ?_
  rintro e w2 ⟨rfl, hb2⟩
  go_wp2_with fail
  go_ret2
  exact ⟨by rw [← HE.out.1, ← HE.out.2]; try rfl, hb2⟩
end Go.Proofs.Try
