/- A tape that came in. -/
import Derived.Test.YthijffdljoeelaaLaw
import Derived.ChangeMaps5
namespace Go.Proofs.Try
open Go.ChangeShapes Go.WideShapes Go.ChangeAt Go.RowKit Go.Joins Go.Deep
section
variable {H : Type} {enc : TypeId × Value → H} {P : Program}
/-- A struct of a text and a number. -/
theorem open_si {w : World} {base : Nat} {spare : Nat → Bool} {held : Bool} {r : Reach} {b0 : Nat} {t u k : TypeId} {f0 f1 : Field} {v : Value} {d : DataW H} {p : List MemPlace} (hs : P.underlying t = some (.struct #[f0, f1])) (hu : P.underlying u = some .string) (hk : P.underlying k = some (.int .i64)) (h0 : f0.type = u) (h1 : f1.type = k)
    (hone : oneCellFields P #[f0, f1] = true) (hC : P.cellsOf t = 2) (hv : Value.okWide P w r b0 t v) (h : DataW.Trod enc P w base spare held t v d p) :
    ∃ (a : ByteArray) (b : Int), v = .agg #[.string a, .int .i64 b] ∧ a.size ≤ maxLen ∧ (Lit.int .i64 b).wf = true := by
  obtain ⟨c0, c1, y0, y1, m, rfl, rfl, rfl, hy0, hy1⟩ := Go.Joins.open_agg2 hs hone hC hv h
  rw [h0] at hy0
  rw [h1] at hy1
  obtain ⟨s, hcs, _, hsz⟩ := DataW.trod_string hu hy0
  obtain ⟨b, e1, rfl, wb⟩ := DataW.trod_int hk hy1
  simp at hcs e1
  subst hcs e1
  exact ⟨s, b, rfl, hsz, wb⟩
end
end Go.Proofs.Try
