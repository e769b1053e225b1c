/- The zero of an api.List (stage 15). -/
import Derived.Test.YtgkiijpheigpjaaLs
namespace Go.Proofs.Try
open Go.RowKit
def z0 : Ls := ⟨fun _ => 0, fun _ => 0, fun _ => false, 0, 0⟩
theorem celV_toList (l : List Value) : (celV l).toList = l := by unfold celV; simp
theorem zero_cells : zeroCells55 = celV (lsC z0) := by
  apply Array.ext'
  rw [celV_toList]
  kernel_rfl
theorem zero_new : ((celV (lsC z0)).setIfInBounds 192 (.int .i64 (-1))).setIfInBounds 193 (.int .i64 (-1)) = celV (lsC { z0 with hd := -1, tl := -1 }) := by
  rw [celV_set, celV_set, lsC_setHd, lsC_setTl]
theorem list_info : (Try.prog.info? 55).map (·.size) = some 194 := by kernel_rfl
end Go.Proofs.Try
