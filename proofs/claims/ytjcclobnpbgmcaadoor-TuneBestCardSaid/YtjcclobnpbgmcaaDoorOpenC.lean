/- Windows and members that came in (stage 21). -/
import Derived.Test.YtjcclobnpbgmcaaDoorOpenG
import Derived.Test.YtjcclobnpbgmcaaDoorUa
namespace Go.Proofs.Tryd
open Go.ChangeShapes Go.WideShapes Go.ChangeAt Go.RowKit Go.Joins Go.Deep
set_option linter.unusedVariables false
def okSn (s : Sn) : Prop := (Lit.int .i64 s.2.1).wf = true ∧ (Lit.int .i64 s.2.2).wf = true
section
variable {H : Type} {enc : TypeId × Value → H} {P : Program}
theorem el_seen {w : World} {base : Nat} {held : Bool} {e u0 u1 : TypeId} {f0 f1 f2 : Field} (he : P.underlying e = some (.struct #[f0, f1, f2])) (ce : P.cellsOf e = 3) (o : f0.offset = 0 ∧ f1.offset = 1 ∧ f2.offset = 2) (t : f0.type = u0 ∧ f1.type = u1 ∧ f2.type = u1)
    (c : P.cellsOf u0 = 1 ∧ P.cellsOf u1 = 1) (hu0 : P.underlying u0 = some .string) (hu1 : P.underlying u1 = some (.int .i64)) : ElIs enc P w base held e encN okSn := by
  intro fuel cs x h
  obtain ⟨xs, n, _, _, hl, hxl, hg⟩ := DataW.trod_struct he h
  rw [ce] at hl
  have hx : ∀ i, i < 3 → ∃ y, xs[i]? = some y := fun i hi => ⟨_, List.getElem?_eq_getElem (by rw [hxl]; exact hi)⟩
  have g0 := hg 0 f0 rfl
  have g1 := hg 1 f1 rfl
  have g2 := hg 2 f2 rfl
  rw [o.1, t.1, c.1] at g0
  rw [o.2.1, t.2.1, c.2] at g1
  rw [o.2.2, t.2.2, c.2] at g2
  obtain ⟨y0, e0⟩ := hx 0 (by omega)
  obtain ⟨y1, e1⟩ := hx 1 (by omega)
  obtain ⟨y2, e2⟩ := hx 2 (by omega)
  rw [e0] at g0
  rw [e1] at g1
  rw [e2] at g2
  obtain ⟨a, ha, _⟩ := DataW.trod_string hu0 g0
  obtain ⟨b, hb, wb⟩ := field_int hu1 g1
  obtain ⟨d, hd, wd⟩ := field_int hu1 g2
  refine ⟨(a, b, d), ?_, wb, wd⟩
  rw [list_parts3 cs hl, ha, hb, hd]
  rfl
end
end Go.Proofs.Tryd
