/- A slice of numbers that came in. -/
import Derived.Test.YtjcclobnpbgmcaaDoorLaw
import Derived.Test.YtjcclobnpbgmcaaDoorOwn
namespace Go.Proofs.Tryd
open Go.ChangeShapes Go.WideShapes Go.ChangeAt Go.RowKit Go.Joins Go.Deep
/-- The value is a slice of the numbers xs, of this kind. -/
def Row (w : World) (K : IntKind) (v : Value) (xs : List Int) : Prop :=
  ∃ A n c, v = .slice A n c ∧ CapOk A n c ∧ n ≤ maxLen ∧ Sees w 1 A n (xs.map (Value.int K)) ∧ ∀ x ∈ xs, (Lit.int K x).wf = true
section
variable {H : Type} {enc : TypeId × Value → H} {P : Program}
theorem open_row {w : World} {base : Nat} {held : Bool} {r : Reach} {b0 : Nat} {t e : TypeId} {K : IntKind} {v : Value} {d : DataW H} {p : List MemPlace} (ht : P.underlying t = some (.slice e)) (he : P.underlying e = some (.int K)) (hc : P.cellsOf e = 1)
    (hv : Value.okWide P w r b0 t v) (h : DataW.Trod enc P w base (fun _ => true) held t v d p) : ∃ xs, Row w K v xs := by
  obtain ⟨a0, l0, c0, rfl⟩ := Go.WideShapes.okWide_slice ht hv
  obtain ⟨fuel, hf⟩ := h
  rcases Go.ChangeShapes.open_ints ht he hc hf with ⟨hcs, hx⟩ | ⟨a, len, cap, zs, hcs, _, hle, hmax, hall, hx, hcell, hwf⟩
  · simp [Value.cells] at hcs
    obtain ⟨rfl, rfl, rfl⟩ := hcs
    exact ⟨[], none, 0, 0, rfl, cap_none, Nat.zero_le _, Sees.empty _ _ _, by simp⟩
  · simp [Value.cells] at hcs
    obtain ⟨rfl, rfl, rfl⟩ := hcs
    simp only [if_true] at hall
    by_cases h0 : l0 = 0
    · subst h0
      exact ⟨[], some a, 0, c0, rfl, cap_some (by omega), Nat.zero_le _, Sees.empty _ _ _, by simp⟩
    · obtain ⟨b, off, rfl, hcell2⟩ := ints_at hcell (by omega)
      have hl : (zs.take l0).length = l0 := by rw [List.length_take]; omega
      refine ⟨zs.take l0, some ⟨b, off, none⟩, l0, c0, rfl, cap_some (by omega), by omega, ⟨by rw [List.length_map, hl, Nat.mul_one], .inr ⟨b, off, rfl, ?_, fun j hj => ?_⟩⟩, fun x hx => hwf x (List.mem_of_mem_take hx)⟩
      · exact World.block_lt_of_cell? w _ (hcell2 0 (by omega))
      · have hj' : j < l0 := by rw [List.length_map, hl] at hj; exact hj
        rw [hcell2 j (by omega), List.getElem?_map, List.getElem?_take, if_pos hj', List.getD_eq_getElem?_getD, List.getElem?_eq_getElem (by omega)]
        simp
end
theorem Row.below {w w' : World} {K : IntKind} {v : Value} {xs : List Int} (h : Row w K v xs) (hb : Below w.heap.size w w') : Row w' K v xs := by
  obtain ⟨A, n, c, rfl, hc, hn, hs, hw⟩ := h
  exact ⟨A, n, c, rfl, hc, hn, hs.below hb, hw⟩
end Go.Proofs.Tryd
