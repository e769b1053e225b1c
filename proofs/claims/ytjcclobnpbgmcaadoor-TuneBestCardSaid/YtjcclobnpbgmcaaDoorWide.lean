/- Contracts of the package wide. -/
import Derived.Test.YtjcclobnpbgmcaaDoorWord
namespace Go.Proofs.Tryd
open Go.RowKit
set_option linter.unusedVariables false

theorem wof_c (a : Int) (w : World) :
    Calls Tryd.prog 81 #[.int .u64 a] w fun r w' => r = .returned (.agg #[.int .u64 0, .int .u64 a]) ∧ Below w.heap.size w w' := by
  go_enter Tryd.func81, Tryd.ntmps81
  go_wp2
  go_returns
  exact ⟨rfl, by go_grown⟩

theorem wmul_c (a b : Int) (ha : 0 ≤ a) (hb : 0 ≤ b) (ha' : a < 18446744073709551616) (hb' : b < 18446744073709551616) (w : World) :
    Calls Tryd.prog 75 #[.int .u64 a, .int .u64 b] w fun r w' => r = .returned (.agg #[.int .u64 (a * b / 18446744073709551616), .int .u64 (a * b % 18446744073709551616)]) ∧ Below w.heap.size w w' := by
  go_enter Tryd.func75, Tryd.ntmps75
  go_wp2_with (refine (mul64_c _ _ ha hb ha' hb' _).mono ?_; rintro e w' ⟨rfl, rfl⟩)
  go_returns
  exact ⟨rfl, by go_grown⟩

def aLo (xl yl : Int) : Int := (xl + yl) % 18446744073709551616
def aHi (xh xl yh yl : Int) : Int := (xh + yh + (xl + yl) / 18446744073709551616) % 18446744073709551616
def aOv (xh xl yh yl : Int) : Bool := decide (18446744073709551616 ≤ xh + yh + (xl + yl) / 18446744073709551616)
def sLo (xl yl : Int) : Int := (xl - yl) % 18446744073709551616
def sHi (xh xl yh yl : Int) : Int := (xh - yh - (if xl < yl then 1 else 0)) % 18446744073709551616
def sOv (xh xl yh yl : Int) : Bool := decide (xh < yh + (if xl < yl then 1 else 0))
def cmpW (xh xl yh yl : Int) : Int := if xh < yh then -1 else if yh < xh then 1 else if xl < yl then -1 else if yl < xl then 1 else 0

theorem wadd_c (xh xl yh yl : Int) (h1 : 0 ≤ xh) (h2 : 0 ≤ xl) (h3 : 0 ≤ yh) (h4 : 0 ≤ yl) (g1 : xh < 18446744073709551616) (g2 : xl < 18446744073709551616) (g3 : yh < 18446744073709551616) (g4 : yl < 18446744073709551616) (w : World) :
    Calls Tryd.prog 80 #[.agg #[.int .u64 xh, .int .u64 xl], .agg #[.int .u64 yh, .int .u64 yl]] w fun r w' => r = .returned (.tuple #[.agg #[.int .u64 (aHi xh xl yh yl), .int .u64 (aLo xl yl)], .bool (aOv xh xl yh yl)]) ∧ Below w.heap.size w w' := by
  have hA : ∀ W, (callFunc 70 #[.int .u64 xl, .int .u64 yl, .int .u64 0]).run Tryd.prog W = .ok (.value (.tuple #[.int .u64 ((xl + yl) % 18446744073709551616), .int .u64 ((xl + yl) / 18446744073709551616)])) W := fun W => by
    have := add64_run xl yl 0 h2 h4 (by omega) (by omega) W
    simpa using this
  have hB := add64_run xh yh ((xl + yl) / 18446744073709551616) h1 h3 (by omega) (by omega)
  go_enter Tryd.func80, Tryd.ntmps80
  go_wp2
  go_returns
  exact ⟨ret_ab rfl rfl (by unfold aOv; rw [Bool.eq_iff_iff]; simp; omega), by go_grown⟩

end Go.Proofs.Tryd
