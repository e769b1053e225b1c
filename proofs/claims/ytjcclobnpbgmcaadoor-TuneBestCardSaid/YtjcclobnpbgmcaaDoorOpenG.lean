/- Arguments opened: slices of any structs, structs by value, by what an element's cells are. -/
import Derived.Test.YtjcclobnpbgmcaaDoorLaw
import Derived.Test.YtjcclobnpbgmcaaDoorRw
import Derived.Deep.Slices
import Derived.ChangeArms
namespace Go.Proofs.Tryd
open Go.ChangeShapes Go.WideShapes Go.ChangeAt Go.RowKit Go.Joins Go.Deep
set_option linter.unusedVariables false
/-- The value is a slice of some elements. -/
def RowIn {α : Type} (mk : α → List Value) (k : Nat) (Q : α → Prop) (w : World) (v : Value) : Prop := ∃ A n c l, v = .slice A n c ∧ CapOk A n c ∧ n ≤ maxLen ∧ l.length = n ∧ (∀ x ∈ l, Q x) ∧ Sees w k A n (flat mk l)
section
variable {H : Type} {enc : TypeId × Value → H} {P : Program} {α : Type}
/-- What reads as data of this type is told so. -/
def ElIs (enc : TypeId × Value → H) (P : Program) (w : World) (base : Nat) (held : Bool) (e : TypeId) (mk : α → List Value) (Q : α → Prop) : Prop :=
  ∀ fuel cs x, DataW.trod enc P w base (fun _ => true) held fuel e cs = some x → ∃ a, cs = mk a ∧ Q a
theorem open_val {w : World} {base : Nat} {held : Bool} {r : Reach} {b0 : Nat} {t : TypeId} {fs : Array Field} {v : Value} {d : DataW H} {p : List MemPlace} {mk : α → List Value} {Q : α → Prop} (hs : P.underlying t = some (.struct fs))
    (hel : ElIs enc P w base held t mk Q) (hv : Value.okWide P w r b0 t v) (h : DataW.Trod enc P w base (fun _ => true) held t v d p) : ∃ a, v = .agg (mk a).toArray ∧ Q a := by
  obtain ⟨cs, rfl, hsz⟩ := okWide_struct hs hv
  obtain ⟨fuel, hf⟩ := h
  obtain ⟨a, ha, hq⟩ := hel _ _ _ hf
  refine ⟨a, ?_, hq⟩
  rw [← ha]
  simp [Value.cells]
theorem open_rows {w : World} {base : Nat} {held : Bool} {r : Reach} {b0 : Nat} {t e : TypeId} {v : Value} {d : DataW H} {p : List MemPlace} {mk : α → List Value} {Q : α → Prop} {k : Nat} (hk : ∀ x, (mk x).length = k) (k0 : 0 < k) (ht : P.underlying t = some (.slice e)) (hc : P.cellsOf e = k)
    (hel : ElIs enc P w base held e mk Q) (hv : Value.okWide P w r b0 t v) (h : DataW.Trod enc P w base (fun _ => true) held t v d p) : RowIn mk k Q w v := by
  obtain ⟨a0, l0, c0, rfl⟩ := Go.WideShapes.okWide_slice ht hv
  obtain ⟨fuel, hf⟩ := h
  rcases open_slice ht hf with ⟨hcs, _⟩ | ⟨a, len, cap, m, n, D, Pl, hcs, _, hle, hmax, hm, _, hi⟩
  · simp [Value.cells] at hcs
    obtain ⟨rfl, rfl, rfl⟩ := hcs
    exact ⟨none, 0, 0, [], rfl, cap_none, Nat.zero_le _, rfl, (fun x hx => by cases hx), Sees.empty _ _ _⟩
  · simp [Value.cells] at hcs
    obtain ⟨rfl, rfl, rfl⟩ := hcs
    simp only [if_true] at hm
    subst hm
    by_cases hz : l0 = 0
    · subst hz
      exact ⟨some a, 0, m, [], rfl, cap_some (by omega), Nat.zero_le _, rfl, (fun x hx => by cases hx), Sees.empty _ _ _⟩
    · have key : ∀ i, i < m → ∃ x, (∀ j, j < k → w.cell? (a.add (i * k + j)) = (mk x)[j]?) ∧ Q x := by
        intro i him
        obtain ⟨cs', h1, h2⟩ := hi i him
        obtain ⟨x, rfl, hq⟩ := hel _ _ _ h2
        rw [hc] at h1
        obtain ⟨_, _, h3⟩ := World.cells?_some h1
        refine ⟨x, fun j hj => ?_, hq⟩
        rw [← Go.Deep.add_add]
        exact h3 j hj
      obtain ⟨x0, _⟩ := key 0 (by omega)
      have key2 : ∀ i, ∃ x, i < m → (∀ j, j < k → w.cell? (a.add (i * k + j)) = (mk x)[j]?) ∧ Q x := by
        intro i
        by_cases him : i < m
        · obtain ⟨x, hx⟩ := key i him
          exact ⟨x, fun _ => hx⟩
        · exact ⟨x0, fun h => absurd h him⟩
      obtain ⟨f, hf'⟩ := Classical.axiomOfChoice key2
      have c00 := (hf' 0 (by omega)).1 0 k0
      obtain ⟨u0, hu0⟩ : ∃ u, (mk (f 0))[0]? = some u := ⟨_, List.getElem?_eq_getElem (by rw [hk]; exact k0)⟩
      rw [hu0] at c00
      obtain ⟨b, off, spot⟩ := a
      have hspot : spot = none := by simpa [Addr.add] using World.cell?_spot c00
      subst hspot
      rw [add_plain] at c00
      have hlen : ((List.range l0).map f).length = l0 := by simp
      refine ⟨some ⟨b, off, none⟩, l0, m, (List.range l0).map f, rfl, cap_some hle, by omega, hlen, fun x hx => ?_, ⟨by rw [flat_len hk, hlen], .inr ⟨b, off, rfl, World.block_lt_of_cell? w _ c00, fun j hj => ?_⟩⟩⟩
      · obtain ⟨i, hi1, rfl⟩ := List.mem_map.1 hx
        rw [List.mem_range] at hi1
        exact (hf' i (by omega)).2
      · rw [flat_len hk, hlen] at hj
        have hdiv : j / k < l0 := (Nat.div_lt_iff_lt_mul k0).2 hj
        have hmod : j % k < k := Nat.mod_lt _ k0
        have h1 := (hf' (j / k) (by omega)).1 (j % k) hmod
        rw [add_plain, show j / k * k + j % k = j from Nat.div_add_mod' j k] at h1
        rw [h1]
        have hx : ((List.range l0).map f)[j / k]? = some (f (j / k)) := by
          rw [List.getElem?_map, List.getElem?_range hdiv]; rfl
        have h2 := flat_get hk hx hmod
        rw [show j / k * k + j % k = j from Nat.div_add_mod' j k] at h2
        exact h2.symm
/-- A field of one cell. -/
theorem field_int {w : World} {base : Nat} {held : Bool} {fuel : Nat} {t : TypeId} {K : IntKind} {cs : List Value} {x : DataW H × List MemPlace} (ht : P.underlying t = some (.int K)) (h : DataW.trod enc P w base (fun _ => true) held fuel t cs = some x) : ∃ n : Int, cs = [.int K n] ∧ (Lit.int K n).wf = true := by
  obtain ⟨n, h1, _, h2⟩ := DataW.trod_int ht h
  exact ⟨n, h1, h2⟩
theorem list_parts3 (cs : List Value) (h : cs.length = 3) : cs = (cs.drop 0).take 1 ++ ((cs.drop 1).take 1 ++ (cs.drop 2).take 1) := by
  match cs, h with
  | [a, b, c], _ => rfl
theorem list_parts2 (cs : List Value) (h : cs.length = 2) : cs = (cs.drop 0).take 1 ++ (cs.drop 1).take 1 := by
  match cs, h with
  | [a, b], _ => rfl
theorem list_parts (cs : List Value) (i : Nat) : cs = (cs.take i) ++ (cs.drop i) := (List.take_append_drop i cs).symm
end
end Go.Proofs.Tryd
