/- A slice of acts (a bool, an int) that came in. -/
import Derived.Test.YtempamkacnjhjaaDoorLaw
import Derived.Test.YtempamkacnjhjaaDoorOwn
import Derived.Deep.SlicePairs
import Derived.ChangeArms
namespace Go.Proofs.Tryd
open Go.ChangeShapes Go.WideShapes Go.ChangeAt Go.RowKit Go.Joins Go.Deep
set_option linter.unusedVariables false
def actAt (l : List (Bool × Int)) (j : Nat) : Bool × Int := l.getD j (false, 0)
def actC : List (Bool × Int) → List Value
  | [] => []
  | s :: l => .bool s.1 :: .int .i64 s.2 :: actC l
theorem actC_len (l : List (Bool × Int)) : (actC l).length = 2 * l.length := by
  induction l with
  | nil => rfl
  | cons p l ih => simp [actC, ih]; omega
theorem actC_at (l : List (Bool × Int)) (j : Nat) (h : j < l.length) : (actC l)[2 * j]? = some (.bool (actAt l j).1) ∧ (actC l)[2 * j + 1]? = some (.int .i64 (actAt l j).2) := by
  induction l generalizing j with
  | nil => simp at h
  | cons p l ih =>
    cases j with
    | zero => simp [actC, actAt]
    | succ j =>
      have := ih j (by simpa using h)
      rw [show 2 * (j + 1) = 2 * j + 1 + 1 by omega]
      simpa [actC, actAt] using this
theorem Sees.act {w : World} {n b off : Nat} {l : List (Bool × Int)} (h : Sees w 2 (some ⟨b, off, none⟩) n (actC l)) {j : Nat} (hj : j < n) :
    w.cell? ⟨b, off + j * 2, none⟩ = some (.bool (actAt l j).1) ∧ w.cell? ⟨b, off + j * 2 + 1, none⟩ = some (.int .i64 (actAt l j).2) ∧ b < w.heap.size := by
  have hl : l.length = n := by have := h.1; rw [actC_len] at this; omega
  obtain ⟨e1, e2⟩ := actC_at l j (by omega)
  obtain ⟨u, hu, hc⟩ := h.cell (j := 2 * j) (by omega)
  obtain ⟨v, hv, hd⟩ := h.cell (j := 2 * j + 1) (by omega)
  rw [e1] at hu
  rw [e2] at hv
  injection hu with hu
  injection hv with hv
  subst hu hv
  rw [Nat.mul_comm j 2]
  exact ⟨hc, hd, World.block_lt_of_cell? w _ hc⟩
/-- The value is a slice of some acts. -/
def ActIn (w : World) (v : Value) : Prop := ∃ A n c l, v = .slice A n c ∧ CapOk A n c ∧ n ≤ maxLen ∧ l.length = n ∧ Sees w 2 A n (actC l)
def boolOf : Value → Bool
  | .bool b => b
  | _ => false
section
variable {H : Type} {enc : TypeId × Value → H} {P : Program}
theorem open_acts {w : World} {base : Nat} {held : Bool} {r : Reach} {b0 : Nat} {t e u0 u1 : TypeId} {f0 f1 : Field} {v : Value} {d : DataW H} {p : List MemPlace} (ht : P.underlying t = some (.slice e)) (he : P.underlying e = some (.struct #[f0, f1]))
    (ce : P.cellsOf e = 2) (o0 : f0.offset = 0) (o1 : f1.offset = 1) (c0 : P.cellsOf f0.type = 1) (c1 : P.cellsOf f1.type = 1) (h0 : f0.type = u0) (h1 : f1.type = u1) (hu0 : P.underlying u0 = some .bool) (hu1 : P.underlying u1 = some (.int .i64))
    (hv : Value.okWide P w r b0 t v) (h : DataW.Trod enc P w base (fun _ => true) held t v d p) : ActIn w v := by
  obtain ⟨a0, l0, k0, rfl⟩ := Go.WideShapes.okWide_slice ht hv
  obtain ⟨fuel, hf⟩ := h
  rcases open_slice_pairs ht he ce o0 o1 c0 c1 hf with ⟨hcs, hx⟩ | ⟨a, len, cap, m, n, V0, V1, D0, D1, P0, P1, hcs, hbs, hle, hmax, hm, hx, hcell⟩
  · simp [Value.cells] at hcs
    obtain ⟨rfl, rfl, rfl⟩ := hcs
    exact ⟨none, 0, 0, [], rfl, cap_none, Nat.zero_le _, rfl, Sees.empty _ _ _⟩
  · simp [Value.cells] at hcs
    obtain ⟨rfl, rfl, rfl⟩ := hcs
    simp only [if_true] at hm
    subst hm
    by_cases hz : l0 = 0
    · subst hz
      exact ⟨some a, 0, m, [], rfl, cap_some (by omega), Nat.zero_le _, rfl, Sees.empty _ _ _⟩
    · have key : ∀ i, i < m → w.cell? (a.add (i * 2)) = some (.bool (boolOf (V0 i))) ∧ w.cell? (a.add (i * 2 + 1)) = some (.int .i64 (intOf (V1 i))) := by
        intro i hi
        obtain ⟨g0, g1, g2, g3⟩ := hcell i hi
        rw [h0] at g2
        rw [h1] at g3
        obtain ⟨x, e0, _⟩ := DataW.trod_bool hu0 g2
        obtain ⟨y, e1, _, wy⟩ := DataW.trod_int hu1 g3
        simp at e0 e1
        rw [e0] at g0 ⊢
        rw [e1] at g1 ⊢
        simp only [intOf, boolOf]
        exact ⟨g0, g1⟩
      obtain ⟨b, off, spot⟩ := a
      have hspot : spot = none := by simpa [Addr.add] using World.cell?_spot (key 0 (by omega)).1
      subst hspot
      obtain ⟨L, hL⟩ : ∃ L : List (Bool × Int), L = (List.range l0).map fun i => (boolOf (V0 i), intOf (V1 i)) := ⟨_, rfl⟩
      have hlen : L.length = l0 := by rw [hL]; simp
      have hat : ∀ j, j < l0 → actAt L j = (boolOf (V0 j), intOf (V1 j)) := fun j hj => by
        unfold actAt
        rw [hL, List.getD_eq_getElem?_getD, List.getElem?_map, List.getElem?_range hj]; rfl
      refine ⟨some ⟨b, off, none⟩, l0, m, L, rfl, cap_some hle, by omega, hlen, ⟨by rw [actC_len, hlen]; omega, .inr ⟨b, off, rfl, ?_, fun j hj => ?_⟩⟩⟩
      · have := (key 0 (by omega)).1
        rw [add_plain] at this
        exact World.block_lt_of_cell? w _ this
      · rw [actC_len, hlen] at hj
        obtain ⟨f1, f2⟩ := actC_at L (j / 2) (by rw [hlen]; omega)
        have hk := key (j / 2) (by omega)
        rw [add_plain, add_plain] at hk
        rw [hat _ (by omega)] at f1 f2
        simp only at f1 f2
        rcases (by omega : j = 2 * (j / 2) ∨ j = 2 * (j / 2) + 1) with g | g
        · rw [show (actC L)[j]? = (actC L)[2 * (j / 2)]? by rw [← g], f1, ← hk.1, show off + j / 2 * 2 = off + j by omega]
        · rw [show (actC L)[j]? = (actC L)[2 * (j / 2) + 1]? by rw [← g], f2, ← hk.2, show off + (j / 2 * 2 + 1) = off + j by omega]
end
end Go.Proofs.Tryd
