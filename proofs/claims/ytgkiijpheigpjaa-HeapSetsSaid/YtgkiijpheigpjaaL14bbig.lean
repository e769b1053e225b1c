/- HeapSets: a case. -/
import Derived.Test.YtgkiijpheigpjaaStp
namespace Go.Proofs.Try
open Go.RowKit
set_option linter.unusedVariables false
set_option linter.unusedSimpArgs false
set_option maxRecDepth 100000 in
set_option maxHeartbeats 4000000 in
theorem sets_big (A : Option Addr) (n cc : Nat) (steps : List Stp) (x0 x1 x2 z : Int) (hn : 100 < n) (w : World)  :
    Calls Try.prog 6 #[.slice A n cc, .agg #[.int .i64 x0, .int .u64 x1, .int .u64 x2], .int .i64 z] w fun e w' => e = .returned (.bool true) ∧ Below w.heap.size w w' := by
  have qn : decide (100 < (n : Int)) = true := by simp; omega
  have qn' : (100 : Int) < (n : Int) := by omega
  have HBW := Lib.hid (chain1 (Below.refl w.heap.size w) (.cells #[.int .i64 x0, .int .u64 x1, .int .u64 x2] 25))
  go_enter Try.func6, Try.ntmps6
  go_wp2_with fail
  refine (awake14 _).mono ?_
  rintro e w1 ⟨rfl, hb1⟩
  replace HBW := Lib.hid (chain HBW.out hb1)
  clear hb1
  go_wp2_with fail
  go_ret
  exact ⟨by first | rfl | (simp; done), HBW.out⟩
end Go.Proofs.Try
