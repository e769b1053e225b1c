/- The walk of HeapSets. -/
import Derived.Test.YtgkiijpheigpjaaL14blow
import Derived.Test.YtgkiijpheigpjaaL14bhigh
import Derived.Test.YtgkiijpheigpjaaL14bsame
import Derived.Test.YtgkiijpheigpjaaL14belse
import Derived.Test.YtgkiijpheigpjaaL14bbig
namespace Go.Proofs.Try
open Go.RowKit
set_option linter.unusedVariables false
set_option linter.unusedSimpArgs false
theorem walk_HeapSets (v0 : Value) (x : It) (z : Int) (wz : (Lit.int .i64 z).wf = true) (w : World) (o0 : RowIn encS 4 (fun _ => True) w v0) :
    Calls Try.prog 6 #[v0, .agg (encI x).toArray, .int .i64 z] w fun e w' => e = .returned (.bool true) ∧ Below w.heap.size w w' := by
  obtain ⟨A, n, c, l, rfl, _, _, _, _, hs⟩ := o0
  obtain ⟨x0, x1, x2⟩ := x
  by_cases hn : n ≤ 100
  · by_cases h1 : x0 < 0
    · exact sets_low A n c l x0 x1 x2 z h1 hn w hs
    · by_cases h2 : 63 < x0
      · exact sets_high A n c l x0 x1 x2 z h2 hn w hs
      · by_cases h3 : z = x0
        · rw [h3]
          exact sets_same A n c l x0 x1 x2 ⟨by omega, by omega⟩ hn w hs
        · exact sets_else A n c l x0 x1 x2 z ⟨by omega, by omega⟩ h3 hn w hs
  · exact sets_big A n c l x0 x1 x2 z (by omega) w
end Go.Proofs.Try
