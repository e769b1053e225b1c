/- A slice of texts that came in (as XTexts, without stage 9's laws). -/
import Derived.Test.YtjcclobnpbgmcaaDoorLaw
import Derived.Test.YtjcclobnpbgmcaaDoorOwn
import Derived.SliceStrings
namespace Go.Proofs.Tryd
open Go.ChangeShapes Go.WideShapes Go.ChangeAt Go.RowKit Go.Joins Go.Deep
set_option linter.unusedVariables false
/-- The value is a slice of these texts. -/
def Texts (w : World) (v : Value) (ss : List ByteArray) : Prop :=
  ∃ A n c, v = .slice A n c ∧ CapOk A n c ∧ n ≤ maxLen ∧ Sees w 1 A n (ss.map Value.string) ∧ ∀ s ∈ ss, s.size ≤ maxLen
theorem texts_at {w : World} {a : Addr} {zs : List ByteArray} (h : ∀ i, i < zs.length → w.cell? (a.add i) = some (.string (zs.getD i ByteArray.empty))) (hp : 0 < zs.length) :
    ∃ b off, a = ⟨b, off, none⟩ ∧ ∀ j, j < zs.length → w.cell? ⟨b, off + j, none⟩ = some (.string (zs.getD j ByteArray.empty)) := by
  obtain ⟨b, off, spot⟩ := a
  have hspot : spot = none := by simpa [Addr.add] using World.cell?_spot (h 0 hp)
  subst hspot
  exact ⟨b, off, rfl, fun j hj => by rw [← Go.WideShapes.add_plain]; exact h j hj⟩
section
variable {H : Type} {enc : TypeId × Value → H} {P : Program}
theorem open_texts {w : World} {base : Nat} {held : Bool} {r : Reach} {b0 : Nat} {t e : TypeId} {v : Value} {d : DataW H} {p : List MemPlace} (ht : P.underlying t = some (.slice e)) (he : P.underlying e = some .string) (hc : P.cellsOf e = 1)
    (hv : Value.okWide P w r b0 t v) (h : DataW.Trod enc P w base (fun _ => true) held t v d p) : ∃ xs, Texts w v xs := by
  obtain ⟨a0, l0, c0, rfl⟩ := Go.WideShapes.okWide_slice ht hv
  obtain ⟨fuel, hf⟩ := h
  rcases Go.ChangeShapes.open_strings ht he hc hf with ⟨hcs, hx⟩ | ⟨a, len, cap, zs, hcs, _, hle, hmax, hall, hx, hcell, hwf⟩
  · simp [Value.cells] at hcs
    obtain ⟨rfl, rfl, rfl⟩ := hcs
    exact ⟨[], none, 0, 0, rfl, cap_none, Nat.zero_le _, Sees.empty _ _ _, by simp⟩
  · simp [Value.cells] at hcs
    obtain ⟨rfl, rfl, rfl⟩ := hcs
    simp only [if_true] at hall
    by_cases h0 : l0 = 0
    · subst h0
      exact ⟨[], some a, 0, c0, rfl, cap_some (by omega), Nat.zero_le _, Sees.empty _ _ _, by simp⟩
    · obtain ⟨b, off, rfl, hcell2⟩ := texts_at hcell (by omega)
      have hl : (zs.take l0).length = l0 := by rw [List.length_take]; omega
      refine ⟨zs.take l0, some ⟨b, off, none⟩, l0, c0, rfl, cap_some (by omega), by omega, ⟨by rw [List.length_map, hl, Nat.mul_one], .inr ⟨b, off, rfl, ?_, fun j hj => ?_⟩⟩, fun x hx => hwf x (List.mem_of_mem_take hx)⟩
      · exact World.block_lt_of_cell? w _ (hcell2 0 (by omega))
      · have hj' : j < l0 := by rw [List.length_map, hl] at hj; exact hj
        rw [hcell2 j (by omega), List.getElem?_map, List.getElem?_take, if_pos hj', List.getD_eq_getElem?_getD, List.getElem?_eq_getElem (by omega)]
        simp
end
theorem Sees.txt {w : World} {n : Nat} {xs : List ByteArray} {b off : Nat} (h : Sees w 1 (some ⟨b, off, none⟩) n (xs.map Value.string)) {j : Nat} (hj : j < n) : w.cell? ⟨b, off + j, none⟩ = some (.string (xs.getD j ⟨#[]⟩)) := by
  obtain ⟨u, hu, hc⟩ := h.cell (j := j) (by omega)
  rw [List.getElem?_map] at hu
  rw [hc, List.getD_eq_getElem?_getD]
  cases hx : xs[j]? with
  | none => rw [hx] at hu; cases hu
  | some x => rw [hx] at hu; simp at hu; simp [hu]
theorem Sees.takeT {w : World} {A : Option Addr} {n k : Nat} {xs : List ByteArray} (h : Sees w 1 A n (xs.map Value.string)) (hk : k ≤ n) : Sees w 1 A k ((xs.take k).map Value.string) := by
  have hl : xs.length = n := by have := h.1; simpa using this
  refine ⟨by rw [List.length_map, List.length_take]; omega, ?_⟩
  rcases h.2 with h0 | ⟨b, off, rfl, hb, hc⟩
  · exact .inl (by omega)
  · refine .inr ⟨b, off, rfl, hb, fun j hj => ?_⟩
    rw [List.length_map, List.length_take] at hj
    rw [hc j (by rw [List.length_map]; omega), List.getElem?_map, List.getElem?_map, List.getElem?_take, if_pos (by omega)]

end Go.Proofs.Tryd
