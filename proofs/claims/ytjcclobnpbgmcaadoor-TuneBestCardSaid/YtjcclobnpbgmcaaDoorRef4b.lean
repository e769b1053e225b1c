/- Contracts of linhayref04. -/
import Derived.Test.YtjcclobnpbgmcaaDoorRef4
namespace Go.Proofs.Tryd
open Go.RowKit
set_option linter.unusedVariables false

theorem rfof_c (a b : Int) (ha : 0 ≤ a) (hb : 0 ≤ b) (ha' : a < 18446744073709551616) (hb' : b < 18446744073709551616) (w : World) :
    Calls Tryd.prog 38 #[.int .u64 a, .int .u64 b] w fun r w' => r = .returned (.tuple #[.int .u64 (fl a 4294967296 b), .int .i64 (flE a 4294967296 b)]) ∧ Below w.heap.size w w' := by
  go_enter Tryd.func38, Tryd.ntmps38
  go_wp2_with fail
  refine (rfloor_c _ _ _ (by omega) (by omega) (by omega) (by omega) (by omega) (by omega) _).mono ?_
  rintro e w2 ⟨rfl, hb2⟩
  go_wp2_with fail
  go_ret2
  exact ⟨rfl, hb2⟩

theorem rmix_math (a b m : Int) (ha : 0 ≤ a) (hb : 0 ≤ b) (ha' : a < 18446744073709551616) (hb' : b < 18446744073709551616) (hm0 : 0 ≤ m) (hm1 : m ≤ 4294967296) :
    dLo ((a * (4294967296 - m) + b * m) / 18446744073709551616) ((a * (4294967296 - m) + b * m) % 18446744073709551616) 4294967296 = (a * (4294967296 - m) + b * m) / 4294967296 ∧ 0 ≤ b * m ∧ b * m < 340282366920938463463374607431768211456 := by
  have p0 : 0 ≤ a * (4294967296 - m) := Int.mul_nonneg ha (by omega)
  have r0 : 0 ≤ b * m := Int.mul_nonneg hb hm0
  have p1 : a * (4294967296 - m) ≤ 18446744073709551615 * (4294967296 - m) := Int.mul_le_mul_of_nonneg_right (by omega) (by omega)
  have r1 : b * m ≤ 18446744073709551615 * m := Int.mul_le_mul_of_nonneg_right (by omega) (by omega)
  obtain ⟨_, e, _⟩ := part_math (a * (4294967296 - m) + b * m) 4294967296 (by omega) (by omega)
  rw [e]
  generalize a * (4294967296 - m) = P at *
  generalize b * m = R at *
  omega

end Go.Proofs.Tryd
