/- Comparisons: small facts. -/
import Derived.Test.YtbiifigiobnkpaaW3
import Derived.Test.YtbiifigiobnkpaaRat5
namespace Go.Proofs.Try
open Go.RowKit
set_option linter.unusedVariables false

theorem cmpI_in (x y : Int) : -1 ≤ cmpI x y ∧ cmpI x y ≤ 1 := by unfold cmpI; (repeat' split) <;> omega
theorem cmpI_turn (x y : Int) : cmpI y x = -cmpI x y := by unfold cmpI; (repeat' split) <;> omega
theorem cmpI_lt (x y : Int) : cmpI x y < 0 ↔ x < y := by unfold cmpI; (repeat' split) <;> omega
theorem cmpI_eq (x y : Int) : cmpI x y = 0 ↔ x = y := by unfold cmpI; (repeat' split) <;> omega
theorem cmpI_gt (x y : Int) : 0 < cmpI x y ↔ y < x := by unfold cmpI; (repeat' split) <;> omega
theorem rcmp_t (an ad bn bd v e : Int) (hv : rcV an ad bn bd = v) (he : rcE ad bd = e) (h1 : 0 ≤ an) (h2 : 0 ≤ ad) (h3 : 0 ≤ bn) (h4 : 0 ≤ bd) (g1 : an < 18446744073709551616) (g2 : ad < 18446744073709551616) (g3 : bn < 18446744073709551616) (g4 : bd < 18446744073709551616) (w : World) :
    Calls Try.prog 16 #[.agg #[.int .u64 an, .int .u64 ad], .agg #[.int .u64 bn, .int .u64 bd]] w fun r w' => r = .returned (.tuple #[.int .i64 v, .int .i64 e]) ∧ Below w.heap.size w w' := by
  subst hv he
  exact rcmp_c an ad bn bd h1 h2 h3 h4 g1 g2 g3 g4 w
theorem cr_eq (an ad bn bd cn cd : Int) (hb : 0 < bd) (h1 : an * bd = bn * ad) (h2 : bn * cd = cn * bd) : an * cd = cn * ad := by
  have e3 : an * bd * cd = an * cd * bd := by rw [Int.mul_assoc, Int.mul_comm bd cd, ← Int.mul_assoc]
  have e4 : bn * ad * cd = bn * cd * ad := by rw [Int.mul_assoc, Int.mul_comm ad cd, ← Int.mul_assoc]
  have e5 : cn * bd * ad = cn * ad * bd := by rw [Int.mul_assoc, Int.mul_comm bd ad, ← Int.mul_assoc]
  have e6 : an * cd * bd = cn * ad * bd := by rw [← e3, h1, e4, h2, e5]
  exact Int.eq_of_mul_eq_mul_right (by omega) e6

end Go.Proofs.Try
