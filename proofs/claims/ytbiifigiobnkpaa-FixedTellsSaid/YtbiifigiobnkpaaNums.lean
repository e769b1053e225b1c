/- A slice of uint64 that came in: empty, or its numbers at a plain address. -/
import Derived.Test.YtbiifigiobnkpaaLaw
namespace Go.Proofs.Try
open Go.ChangeShapes Go.WideShapes Go.ChangeAt Go.RowKit Go.Joins Go.Deep
section
variable {H : Type} {enc : TypeId × Value → H} {P : Program}
theorem open_nums {w : World} {base : Nat} {held : Bool} {r : Reach} {b0 : Nat} {t e : TypeId} {v : Value} {d : DataW H} {p : List MemPlace} (ht : P.underlying t = some (.slice e)) (he : P.underlying e = some (.int .u64)) (hc : P.cellsOf e = 1)
    (hv : Value.okWide P w r b0 t v) (h : DataW.Trod enc P w base (fun _ => true) held t v d p) :
    (∃ a cap, v = .slice a 0 cap) ∨ ∃ (b off len cap : Nat) (zs : List Int), v = .slice (some ⟨b, off, none⟩) len cap ∧ len ≤ zs.length ∧ len ≤ maxLen ∧
      (∀ j, j < zs.length → w.cell? ⟨b, off + j, none⟩ = some (.int .u64 (zs.getD j 0))) ∧ (∀ k, 0 ≤ zs.getD k 0) ∧ (∀ k, zs.getD k 0 < 18446744073709551616) := by
  obtain ⟨a0, l0, c0, rfl⟩ := Go.WideShapes.okWide_slice ht hv
  obtain ⟨fuel, hf⟩ := h
  rcases Go.ChangeShapes.open_ints ht he hc hf with ⟨hcs, hx⟩ | ⟨a, len, cap, zs, hcs, _, hle, hmax, hall, hx, hcell, hwf⟩
  · simp [Value.cells] at hcs
    obtain ⟨rfl, rfl, rfl⟩ := hcs
    exact .inl ⟨_, _, rfl⟩
  · simp [Value.cells] at hcs
    obtain ⟨rfl, rfl, rfl⟩ := hcs
    simp only [if_true] at hall
    by_cases h0 : l0 = 0
    · subst h0; exact .inl ⟨_, _, rfl⟩
    · obtain ⟨b, off, rfl, hcell2⟩ := ints_at hcell (by omega)
      have bd : ∀ k, 0 ≤ zs.getD k 0 ∧ zs.getD k 0 < 18446744073709551616 := fun k => by
        by_cases hk : k < zs.length
        · have hm : zs.getD k 0 ∈ zs := by rw [List.getD_eq_getElem?_getD, List.getElem?_eq_getElem hk]; simp
          have := bounds_u64 (hwf _ hm)
          omega
        · rw [List.getD_eq_getElem?_getD, List.getElem?_eq_none (by omega)]; simp
      exact .inr ⟨b, off, l0, c0, zs, rfl, by omega, by omega, hcell2, fun k => (bd k).1, fun k => (bd k).2⟩
end
end Go.Proofs.Try
