/- Items, and steps, that came in. -/
import Derived.Test.YtgkiijpheigpjaaOpenG
import Derived.Test.YtgkiijpheigpjaaHpB
namespace Go.Proofs.Try
open Go.ChangeShapes Go.WideShapes Go.ChangeAt Go.RowKit Go.Joins Go.Deep
set_option linter.unusedVariables false
/-- A step: is it a drop, and its item. -/
abbrev Stp := Bool × It
def encS (s : Stp) : List Value := .bool s.1 :: encI s.2
theorem encS_len (s : Stp) : (encS s).length = 4 := rfl
section
variable {H : Type} {enc : TypeId × Value → H} {P : Program}
theorem el_item {w : World} {base : Nat} {held : Bool} {e u0 u1 : TypeId} {f0 f1 f2 : Field} (he : P.underlying e = some (.struct #[f0, f1, f2])) (ce : P.cellsOf e = 3) (o : f0.offset = 0 ∧ f1.offset = 1 ∧ f2.offset = 2) (t : f0.type = u0 ∧ f1.type = u1 ∧ f2.type = u1)
    (c : P.cellsOf u0 = 1 ∧ P.cellsOf u1 = 1) (hu0 : P.underlying u0 = some (.int .i64)) (hu1 : P.underlying u1 = some (.int .u64)) : ElIs enc P w base held e encI (fun _ => True) := by
  intro fuel cs x h
  obtain ⟨xs, n, _, _, hl, hxl, hg⟩ := DataW.trod_struct he h
  rw [ce] at hl
  have hx : ∀ i, i < 3 → ∃ y, xs[i]? = some y := fun i hi => ⟨_, List.getElem?_eq_getElem (by rw [hxl]; exact hi)⟩
  have g0 := hg 0 f0 rfl
  have g1 := hg 1 f1 rfl
  have g2 := hg 2 f2 rfl
  rw [o.1, t.1, c.1] at g0
  rw [o.2.1, t.2.1, c.2] at g1
  rw [o.2.2, t.2.2, c.2] at g2
  obtain ⟨y0, e0⟩ := hx 0 (by omega)
  obtain ⟨y1, e1⟩ := hx 1 (by omega)
  obtain ⟨y2, e2⟩ := hx 2 (by omega)
  rw [e0] at g0
  rw [e1] at g1
  rw [e2] at g2
  obtain ⟨a, ha, _⟩ := field_int hu0 g0
  obtain ⟨b, hb, _⟩ := field_int hu1 g1
  obtain ⟨d, hd, _⟩ := field_int hu1 g2
  refine ⟨(a, b, d), ?_, trivial⟩
  rw [list_parts3 cs hl, ha, hb, hd]
  rfl
theorem el_step {w : World} {base : Nat} {held : Bool} {e i u0 u1 ub : TypeId} {g0 g1 f0 f1 f2 : Field} (he : P.underlying e = some (.struct #[g0, g1])) (ce : P.cellsOf e = 4) (og : g0.offset = 0 ∧ g1.offset = 1) (tg : g0.type = ub ∧ g1.type = i) (cg : P.cellsOf ub = 1) (hub : P.underlying ub = some .bool)
    (hi : P.underlying i = some (.struct #[f0, f1, f2])) (ci : P.cellsOf i = 3) (o : f0.offset = 0 ∧ f1.offset = 1 ∧ f2.offset = 2) (t : f0.type = u0 ∧ f1.type = u1 ∧ f2.type = u1)
    (c : P.cellsOf u0 = 1 ∧ P.cellsOf u1 = 1) (hu0 : P.underlying u0 = some (.int .i64)) (hu1 : P.underlying u1 = some (.int .u64)) : ElIs enc P w base held e encS (fun _ => True) := by
  intro fuel cs x h
  obtain ⟨xs, n, _, _, hl, hxl, hg⟩ := DataW.trod_struct he h
  rw [ce] at hl
  have hx : ∀ i, i < 2 → ∃ y, xs[i]? = some y := fun i hi => ⟨_, List.getElem?_eq_getElem (by rw [hxl]; exact hi)⟩
  have k0 := hg 0 g0 rfl
  have k1 := hg 1 g1 rfl
  rw [og.1, tg.1, cg] at k0
  rw [og.2, tg.2, ci] at k1
  obtain ⟨y0, e0⟩ := hx 0 (by omega)
  obtain ⟨y1, e1⟩ := hx 1 (by omega)
  rw [e0] at k0
  rw [e1] at k1
  obtain ⟨b, hb, _⟩ := DataW.trod_bool hub k0
  obtain ⟨a, ha, _⟩ := el_item hi ci o t c hu0 hu1 _ _ _ k1
  refine ⟨(b, a), ?_, trivial⟩
  have h1 := list_parts cs 1
  have h2 : (cs.drop 1).take 3 = cs.drop 1 := List.take_of_length_le (by rw [List.length_drop, hl]; exact Nat.le_refl _)
  rw [h2] at ha
  rw [List.drop_zero] at hb
  rw [h1, hb, ha]
  rfl
end
end Go.Proofs.Try
