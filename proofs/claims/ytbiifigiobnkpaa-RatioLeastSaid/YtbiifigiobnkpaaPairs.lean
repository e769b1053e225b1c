/- A slice of ratios that came in. -/
import Derived.Test.YtbiifigiobnkpaaLaw
import Derived.Test.YtbiifigiobnkpaaRat4
import Derived.Deep.SlicePairs
namespace Go.Proofs.Try
open Go.ChangeShapes Go.WideShapes Go.ChangeAt Go.RowKit Go.Joins Go.Deep
/-- The value is a slice of these ratios. -/
def Pairs (w : World) (v : Value) (l : List (Int × Int)) : Prop := ∃ A n c, v = .slice A n c ∧ CapOk A n c ∧ n ≤ maxLen ∧ Sees w 2 A n (flat l) ∧ R64 l
theorem Pairs.below {w w' : World} {v : Value} {l : List (Int × Int)} (h : Pairs w v l) (hb : Below w.heap.size w w') : Pairs w' v l := by
  obtain ⟨A, n, c, rfl, hc, hn, hs, hr⟩ := h
  exact ⟨A, n, c, rfl, hc, hn, hs.below hb, hr⟩
section
variable {H : Type} {enc : TypeId × Value → H} {P : Program}
theorem open_pairs {w : World} {base : Nat} {held : Bool} {r : Reach} {b0 : Nat} {t e u : TypeId} {f0 f1 : Field} {v : Value} {d : DataW H} {p : List MemPlace} (ht : P.underlying t = some (.slice e)) (he : P.underlying e = some (.struct #[f0, f1]))
    (ce : P.cellsOf e = 2) (o0 : f0.offset = 0) (o1 : f1.offset = 1) (c0 : P.cellsOf f0.type = 1) (c1 : P.cellsOf f1.type = 1) (h0 : f0.type = u) (h1 : f1.type = u) (hu : P.underlying u = some (.int .u64))
    (hv : Value.okWide P w r b0 t v) (h : DataW.Trod enc P w base (fun _ => true) held t v d p) : ∃ l, Pairs w v l := by
  obtain ⟨a0, l0, k0, rfl⟩ := Go.WideShapes.okWide_slice ht hv
  obtain ⟨fuel, hf⟩ := h
  rcases open_slice_pairs ht he ce o0 o1 c0 c1 hf with ⟨hcs, hx⟩ | ⟨a, len, cap, m, n, V0, V1, D0, D1, P0, P1, hcs, hbs, hle, hmax, hm, hx, hcell⟩
  · simp [Value.cells] at hcs
    obtain ⟨rfl, rfl, rfl⟩ := hcs
    exact ⟨[], none, 0, 0, rfl, cap_none, Nat.zero_le _, Sees.empty _ _ _, R64_of _ (by simp)⟩
  · simp [Value.cells] at hcs
    obtain ⟨rfl, rfl, rfl⟩ := hcs
    simp only [if_true] at hm
    subst hm
    by_cases hz : l0 = 0
    · subst hz
      exact ⟨[], some a, 0, m, rfl, cap_some (by omega), Nat.zero_le _, Sees.empty _ _ _, R64_of _ (by simp)⟩
    · have key : ∀ i, i < m → w.cell? (a.add (i * 2)) = some (.int .u64 (intOf (V0 i))) ∧ w.cell? (a.add (i * 2 + 1)) = some (.int .u64 (intOf (V1 i))) ∧
          (0 ≤ intOf (V0 i) ∧ intOf (V0 i) < 18446744073709551616) ∧ 0 ≤ intOf (V1 i) ∧ intOf (V1 i) < 18446744073709551616 := by
        intro i hi
        obtain ⟨g0, g1, g2, g3⟩ := hcell i hi
        rw [h0] at g2
        rw [h1] at g3
        obtain ⟨x, e0, _, wx⟩ := DataW.trod_int hu g2
        obtain ⟨y, e1, _, wy⟩ := DataW.trod_int hu g3
        simp at e0 e1
        rw [e0] at g0 ⊢
        rw [e1] at g1 ⊢
        have bx := bounds_u64 wx
        have by' := bounds_u64 wy
        simp only [intOf]
        exact ⟨g0, g1, by omega, by omega⟩
      obtain ⟨b, off, spot⟩ := a
      have hspot : spot = none := by simpa [Addr.add] using World.cell?_spot (key 0 (by omega)).1
      subst hspot
      have hlen : ((List.range l0).map fun i => (intOf (V0 i), intOf (V1 i))).length = l0 := by simp
      refine ⟨(List.range l0).map fun i => (intOf (V0 i), intOf (V1 i)), some ⟨b, off, none⟩, l0, m, rfl, cap_some hle, by omega, ⟨by rw [flat_len, hlen]; omega, .inr ⟨b, off, rfl, ?_, fun j hj => ?_⟩⟩, R64_of _ ?_⟩
      · have := (key 0 (by omega)).1
        rw [add_plain] at this
        exact World.block_lt_of_cell? w _ this
      · rw [flat_len, hlen] at hj
        obtain ⟨f1, f2⟩ := flat_at ((List.range l0).map fun i => (intOf (V0 i), intOf (V1 i))) (j / 2) (by rw [hlen]; omega)
        have hk := key (j / 2) (by omega)
        rw [add_plain, add_plain] at hk
        have eg : ((List.range l0).map fun i => (intOf (V0 i), intOf (V1 i))).getD (j / 2) (0, 0) = (intOf (V0 (j / 2)), intOf (V1 (j / 2))) := by
          rw [List.getD_eq_getElem?_getD, List.getElem?_map, List.getElem?_range (by omega)]; rfl
        rw [eg] at f1 f2
        rcases (by omega : j = 2 * (j / 2) ∨ j = 2 * (j / 2) + 1) with g | g
        · rw [show (flat ((List.range l0).map fun i => (intOf (V0 i), intOf (V1 i))))[j]? = (flat ((List.range l0).map fun i => (intOf (V0 i), intOf (V1 i))))[2 * (j / 2)]? by rw [← g], f1, ← hk.1, show off + j / 2 * 2 = off + j by omega]
        · rw [show (flat ((List.range l0).map fun i => (intOf (V0 i), intOf (V1 i))))[j]? = (flat ((List.range l0).map fun i => (intOf (V0 i), intOf (V1 i))))[2 * (j / 2) + 1]? by rw [← g], f2, ← hk.2.1, show off + (j / 2 * 2 + 1) = off + j by omega]
      · intro q hq
        obtain ⟨i, hi, rfl⟩ := List.mem_map.1 hq
        have hk := key i (by have := List.mem_range.1 hi; omega)
        exact ⟨hk.2.2.1, hk.2.2.2⟩
end
end Go.Proofs.Try
