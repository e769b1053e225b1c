/- Heaps: which may be; all items in their order (no program in it). -/
import Derived.Test.YtgkiijpheigpjaaHp
namespace Go.Proofs.Try
set_option linter.unusedVariables false
set_option linter.unusedSimpArgs false
theorem heapP_iff (l : List It) : (∀ i, i < l.length → 0 < i → ¬LtI (atI l i) (atI l (par i))) ↔ heapP l := ⟨fun h i a b => h i b a, fun h i a b => h i b a⟩
instance (l : List It) : Decidable (heapP l) := decidable_of_iff _ (heapP_iff l)
/-- The items may be a heap. -/
def chkI (l : List It) : Prop := (∀ x ∈ l, 0 ≤ x.1 ∧ x.1 < 64) ∧ (l.map (·.1)).Nodup ∧ heapP l
instance (l : List It) : Decidable (chkI l) := by unfold chkI; infer_instance
/-- Is that ID among them? -/
def hasI (l : List It) (z : Int) : Bool := (l.map (·.1)).contains z
theorem hasI_iff (l : List It) (z : Int) : hasI l z = true ↔ ∃ x ∈ l, x.1 = z := by
  unfold hasI
  rw [List.contains_iff_mem, List.mem_map]
theorem hasI_perm {a b : List It} (h : a.Perm b) (z : Int) : hasI a z = hasI b z := by
  rw [Bool.eq_iff_iff, hasI_iff, hasI_iff]
  exact ⟨fun ⟨x, hx, e⟩ => ⟨x, h.mem_iff.1 hx, e⟩, fun ⟨x, hx, e⟩ => ⟨x, h.mem_iff.2 hx, e⟩⟩
theorem take_one {l : List It} {k : Nat} (hk : k < l.length) : l.take (k + 1) = l.take k ++ [atI l k] := by
  rw [List.take_add_one, atI_some hk]; rfl
theorem atI_take {l : List It} {k j : Nat} (h : j < k) : atI (l.take k) j = atI l j := by
  unfold atI
  rw [List.getD_eq_getElem?_getD, List.getD_eq_getElem?_getD, List.getElem?_take, if_pos h]
theorem chk_take {l : List It} (h : chkI l) (m : Nat) : chkI (l.take m) := by
  obtain ⟨h1, h2, h3⟩ := h
  refine ⟨fun x hx => h1 x (List.mem_of_mem_take hx), ?_, ?_⟩
  · rw [List.map_take]; exact h2.sublist (List.take_sublist _ _)
  · by_cases hm : m ≤ l.length
    · exact heap_cut h3 m hm
    · rw [List.take_of_length_le (by omega)]; exact h3
theorem chk_step {l : List It} {k : Nat} (hk : k < l.length) : chkI (l.take (k + 1)) ↔ chkI (l.take k) ∧ (0 ≤ (atI l k).1 ∧ (atI l k).1 < 64) ∧ hasI (l.take k) (atI l k).1 = false ∧ (0 < k → ¬LtI (atI l k) (atI l (par k))) := by
  constructor
  · intro h
    have h0 := chk_take h k
    rw [List.take_take, Nat.min_eq_left (by omega)] at h0
    obtain ⟨h1, h2, h3⟩ := h
    rw [take_one hk] at h1 h2
    refine ⟨h0, h1 _ (by simp), ?_, fun hk0 => ?_⟩
    · rw [Bool.eq_false_iff]
      intro e
      rw [List.map_append, List.nodup_append] at h2
      unfold hasI at e
      rw [List.contains_iff_mem] at e
      exact h2.2.2 _ e _ (by simp) rfl
    · have := h3 k hk0 (by rw [List.length_take]; omega)
      rwa [atI_take (by omega), atI_take (by have := par_lt hk0; omega)] at this
  · rintro ⟨⟨h1, h2, h3⟩, h4, h5, h6⟩
    refine ⟨fun x hx => ?_, ?_, fun i hi hil => ?_⟩
    · rw [take_one hk, List.mem_append] at hx
      rcases hx with hx | hx
      · exact h1 x hx
      · rw [List.mem_singleton] at hx; subst hx; exact h4
    · rw [take_one hk, List.map_append, List.nodup_append]
      refine ⟨h2, by simp, fun a ha b hb e => ?_⟩
      simp only [List.map_cons, List.map_nil, List.mem_singleton] at hb
      subst hb
      rw [e] at ha
      unfold hasI at h5
      rw [← List.contains_iff_mem, h5] at ha
      cases ha
    · rw [List.length_take] at hil
      rw [atI_take (by omega), atI_take (by have := par_lt hi; omega)]
      by_cases e : i = k
      · subst e; exact h6 hi
      · have := h3 i hi (by rw [List.length_take]; omega)
        rwa [atI_take (by omega), atI_take (by have := par_lt hi; omega)] at this
theorem chk_nil : chkI [] := ⟨by simp, by simp, fun i _ h => by simp at h⟩
/-- At most 64 may be. -/
theorem nodup_le (l : List Int) (h : l.Nodup) (hb : ∀ x ∈ l, 0 ≤ x ∧ x < 64) : l.length ≤ 64 := by
  have : l ⊆ (List.range 64).map Int.ofNat := by
    intro x hx
    obtain ⟨a, b⟩ := hb x hx
    rw [List.mem_map]
    exact ⟨x.toNat, by rw [List.mem_range]; omega, by simp; omega⟩
  have := h.length_le_of_subset this
  simpa using this
theorem chk_le {l : List It} (h : chkI l) : l.length ≤ 64 := by
  have := nodup_le (l.map (·.1)) h.2.1 (fun x hx => by
    rw [List.mem_map] at hx
    obtain ⟨y, hy, rfl⟩ := hx
    exact h.1 y hy)
  simpa using this
/-- Where the item of an ID stands; -1: nowhere. -/
def fndI (l : List It) (z : Int) : Int := match l.findIdx? (fun x => x.1 == z) with | some j => (j : Int) | none => -1
/-- All items, rising. -/
def rises (l : List It) : Prop := l.Pairwise LtI
theorem rises_eq {a b : List It} (ha : rises a) (hb : rises b) (h : a.Perm b) : a = b := by
  induction a generalizing b with
  | nil => exact (List.nil_perm.1 h).symm
  | cons x a ih =>
    cases b with
    | nil => exact absurd h.length_eq (by simp)
    | cons y b =>
      unfold rises at ha hb
      rw [List.pairwise_cons] at ha hb
      have hxy : x = y := by
        have hx : x ∈ y :: b := h.mem_iff.1 (List.mem_cons_self ..)
        have hy : y ∈ x :: a := h.mem_iff.2 (List.mem_cons_self ..)
        rw [List.mem_cons] at hx hy
        rcases hx with hx | hx
        · exact hx
        · rcases hy with hy | hy
          · exact hy.symm
          · exact absurd (hb.1 x hx) (ha.1 y hy).asy
      subst hxy
      rw [ih ha.2 hb.2 ((List.perm_cons _).1 h)]
theorem heap_min {l : List It} (h : heapP l) : ∀ i, i < l.length → ¬LtI (atI l i) (atI l 0) := by
  intro i
  induction i using Nat.strongRecOn with
  | _ i ih =>
    intro hi
    by_cases h0 : i = 0
    · subst h0; exact LtI.irr _
    · have := par_lt (p := i) (by omega)
      exact nlt_tr (ih (par i) this (by omega)) (h i (by omega) hi)
/-- The first of all that rise is the first of the heap. -/
theorem min_first {l s : List It} (h : heapP l) (hs : rises s) (hp : s.Perm l) (hn : l ≠ []) : s.head? = some (atI l 0) := by
  cases s with
  | nil => exact absurd (List.nil_perm.1 hp) hn
  | cons x s =>
    have hl : 0 < l.length := by cases l with | nil => exact absurd rfl hn | cons _ _ => simp
    have hx : x ∈ l := hp.mem_iff.1 (List.mem_cons_self ..)
    obtain ⟨i, hi, e⟩ := List.getElem_of_mem hx
    have e' : atI l i = x := by unfold atI; rw [List.getD_eq_getElem?_getD, List.getElem?_eq_getElem hi]; exact e
    have h1 := heap_min h i hi
    rw [e'] at h1
    have h0 : atI l 0 ∈ x :: s := hp.mem_iff.2 (List.mem_of_getElem? (atI_some hl))
    rw [List.mem_cons] at h0
    rcases h0 with h0 | h0
    · rw [h0]; rfl
    · unfold rises at hs
      rw [List.pairwise_cons] at hs
      exact absurd (hs.1 _ h0) h1
end Go.Proofs.Try
