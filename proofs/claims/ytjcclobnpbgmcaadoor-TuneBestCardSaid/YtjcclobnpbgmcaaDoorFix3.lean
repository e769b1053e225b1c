/- Contract of fixed.Sum. -/
import Derived.Test.YtjcclobnpbgmcaaDoorFix
import Derived.LoopN
import Derived.WalkMore
namespace Go.Proofs.Tryd
open Go.RowKit
set_option linter.unusedVariables false

/-- The held sum of the first k of zs. -/
def sN (zs : List Int) : Nat → Int
  | 0 => 0
  | k + 1 => wAdd (sN zs k) (zs.getD k 0)
theorem wAdd_in (a b : Int) (ha : 0 ≤ a) (hb : 0 ≤ b) : 0 ≤ wAdd a b ∧ wAdd a b < 18446744073709551616 := by unfold wAdd; split <;> omega
theorem sN_in (zs : List Int) (h : ∀ k, 0 ≤ zs.getD k 0) (k : Nat) : 0 ≤ sN zs k ∧ sN zs k < 18446744073709551616 := by
  induction k with
  | zero => unfold sN; omega
  | succ k ih => exact wAdd_in _ _ ih.1 (h k)

end Go.Proofs.Tryd
