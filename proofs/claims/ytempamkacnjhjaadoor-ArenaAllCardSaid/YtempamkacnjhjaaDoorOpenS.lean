/- A slice of segments that came in; a struct of two ints. -/
import Derived.Test.YtempamkacnjhjaaDoorLaw
import Derived.Test.YtempamkacnjhjaaDoorAr5
import Derived.Deep.SlicePairs
namespace Go.Proofs.Tryd
open Go.ChangeShapes Go.WideShapes Go.ChangeAt Go.RowKit Go.Joins Go.Deep
set_option linter.unusedVariables false
/-- The value is a slice of some segments. -/
def SegIn (w : World) (v : Value) : Prop := ∃ A n c l, v = .slice A n c ∧ CapOk A n c ∧ n ≤ maxLen ∧ l.length = n ∧ (∀ j, (at' l j).2 < 18446744073709551616) ∧ Sees w 2 A n (segC l)
section
variable {H : Type} {enc : TypeId × Value → H} {P : Program}
theorem open_ii {w : World} {base : Nat} {spare : Nat → Bool} {held : Bool} {r : Reach} {b0 : Nat} {t u : TypeId} {f0 f1 : Field} {v : Value} {d : DataW H} {p : List MemPlace} (hs : P.underlying t = some (.struct #[f0, f1])) (hu : P.underlying u = some (.int .i64)) (h0 : f0.type = u) (h1 : f1.type = u)
    (hone : oneCellFields P #[f0, f1] = true) (hC : P.cellsOf t = 2) (hv : Value.okWide P w r b0 t v) (h : DataW.Trod enc P w base spare held t v d p) :
    ∃ a b : Int, v = .agg #[.int .i64 a, .int .i64 b] ∧ (Lit.int .i64 a).wf = true ∧ (Lit.int .i64 b).wf = true := by
  obtain ⟨c0, c1, y0, y1, m, rfl, rfl, rfl, hy0, hy1⟩ := Go.Joins.open_agg2 hs hone hC hv h
  rw [h0] at hy0
  rw [h1] at hy1
  obtain ⟨a, e0, rfl, wa⟩ := DataW.trod_int hu hy0
  obtain ⟨b, e1, rfl, wb⟩ := DataW.trod_int hu hy1
  simp at e0 e1
  subst e0 e1
  exact ⟨a, b, rfl, wa, wb⟩
theorem open_segs {w : World} {base : Nat} {held : Bool} {r : Reach} {b0 : Nat} {t e u0 u1 : TypeId} {f0 f1 : Field} {v : Value} {d : DataW H} {p : List MemPlace} (ht : P.underlying t = some (.slice e)) (he : P.underlying e = some (.struct #[f0, f1]))
    (ce : P.cellsOf e = 2) (o0 : f0.offset = 0) (o1 : f1.offset = 1) (c0 : P.cellsOf f0.type = 1) (c1 : P.cellsOf f1.type = 1) (h0 : f0.type = u0) (h1 : f1.type = u1) (hu0 : P.underlying u0 = some (.int .i64)) (hu1 : P.underlying u1 = some (.int .u64))
    (hv : Value.okWide P w r b0 t v) (h : DataW.Trod enc P w base (fun _ => true) held t v d p) : SegIn w v := by
  obtain ⟨a0, l0, k0, rfl⟩ := Go.WideShapes.okWide_slice ht hv
  obtain ⟨fuel, hf⟩ := h
  have nil2 : ∀ j, (at' [] j).2 < 18446744073709551616 := fun j => by simp [at']
  rcases open_slice_pairs ht he ce o0 o1 c0 c1 hf with ⟨hcs, hx⟩ | ⟨a, len, cap, m, n, V0, V1, D0, D1, P0, P1, hcs, hbs, hle, hmax, hm, hx, hcell⟩
  · simp [Value.cells] at hcs
    obtain ⟨rfl, rfl, rfl⟩ := hcs
    exact ⟨none, 0, 0, [], rfl, cap_none, Nat.zero_le _, rfl, nil2, Sees.empty _ _ _⟩
  · simp [Value.cells] at hcs
    obtain ⟨rfl, rfl, rfl⟩ := hcs
    simp only [if_true] at hm
    subst hm
    by_cases hz : l0 = 0
    · subst hz
      exact ⟨some a, 0, m, [], rfl, cap_some (by omega), Nat.zero_le _, rfl, nil2, Sees.empty _ _ _⟩
    · have key : ∀ i, i < m → w.cell? (a.add (i * 2)) = some (.int .i64 (intOf (V0 i))) ∧ w.cell? (a.add (i * 2 + 1)) = some (.int .u64 (intOf (V1 i))) ∧
          0 ≤ intOf (V1 i) ∧ intOf (V1 i) < 18446744073709551616 := by
        intro i hi
        obtain ⟨g0, g1, g2, g3⟩ := hcell i hi
        rw [h0] at g2
        rw [h1] at g3
        obtain ⟨x, e0, _, wx⟩ := DataW.trod_int hu0 g2
        obtain ⟨y, e1, _, wy⟩ := DataW.trod_int hu1 g3
        simp at e0 e1
        rw [e0] at g0 ⊢
        rw [e1] at g1 ⊢
        have by' := bounds_u64 wy
        simp only [intOf]
        exact ⟨g0, g1, by omega, by omega⟩
      obtain ⟨b, off, spot⟩ := a
      have hspot : spot = none := by simpa [Addr.add] using World.cell?_spot (key 0 (by omega)).1
      subst hspot
      obtain ⟨L, hL⟩ : ∃ L : List Sg, L = (List.range l0).map fun i => (intOf (V0 i), (intOf (V1 i)).toNat) := ⟨_, rfl⟩
      have hlen : L.length = l0 := by rw [hL]; simp
      have hat : ∀ j, j < l0 → at' L j = (intOf (V0 j), (intOf (V1 j)).toNat) := fun j hj => by
        unfold at'
        rw [hL, List.getD_eq_getElem?_getD, List.getElem?_map, List.getElem?_range hj]; rfl
      refine ⟨some ⟨b, off, none⟩, l0, m, L, rfl, cap_some hle, by omega, hlen, fun j => ?_, ⟨by rw [segC_len, hlen]; omega, .inr ⟨b, off, rfl, ?_, fun j hj => ?_⟩⟩⟩
      · by_cases hj : j < l0
        · rw [hat j hj]
          have := (key j (by omega)).2.2
          simp only
          omega
        · unfold at'
          rw [List.getD_eq_getElem?_getD, List.getElem?_eq_none (by omega)]
          simp
      · have := (key 0 (by omega)).1
        rw [add_plain] at this
        exact World.block_lt_of_cell? w _ this
      · rw [segC_len, hlen] at hj
        obtain ⟨f1, f2⟩ := segC_at L (j / 2) (by rw [hlen]; omega)
        have hk := key (j / 2) (by omega)
        rw [add_plain, add_plain] at hk
        rw [hat _ (by omega)] at f1 f2
        have hN : (((intOf (V1 (j / 2))).toNat : Nat) : Int) = intOf (V1 (j / 2)) := Int.toNat_of_nonneg hk.2.2.1
        simp only at f1 f2
        rw [hN] at f2
        rcases (by omega : j = 2 * (j / 2) ∨ j = 2 * (j / 2) + 1) with g | g
        · rw [show (segC L)[j]? = (segC L)[2 * (j / 2)]? by rw [← g], f1, ← hk.1, show off + j / 2 * 2 = off + j by omega]
        · rw [show (segC L)[j]? = (segC L)[2 * (j / 2) + 1]? by rw [← g], f2, ← hk.2.1, show off + (j / 2 * 2 + 1) = off + j by omega]
end
end Go.Proofs.Tryd
