/- Heaps: what Set and Drop make (no program in it). -/
import Derived.Test.YtgkiijpheigpjaaHpB
namespace Go.Proofs.Try
set_option linter.unusedVariables false
set_option linter.unusedSimpArgs false
/-- All but that of an ID. -/
def wo (l : List It) (z : Int) : List It := l.filter fun y => !(y.1 == z)
theorem wo_not {l : List It} {z : Int} (h : hasI l z = false) : wo l z = l := by
  unfold wo
  rw [List.filter_eq_self]
  intro y hy
  cases e : (y.1 == z) with
  | false => rfl
  | true =>
    have : hasI l z = true := (hasI_iff l z).2 ⟨y, hy, by simpa using e⟩
    rw [h] at this
    cases this
theorem perm_wo {l : List It} (h : (l.map (·.1)).Nodup) {j : Nat} (hj : j < l.length) : l.Perm (atI l j :: wo l (atI l j).1) := by
  induction l generalizing j with
  | nil => simp at hj
  | cons y l ih =>
    rw [List.map_cons, List.nodup_cons] at h
    cases j with
    | zero =>
      have e : atI (y :: l) 0 = y := by simp [atI]
      rw [e]
      have h2 : hasI l y.1 = false := by
        rw [Bool.eq_false_iff]
        intro hh
        obtain ⟨x, hx, e⟩ := (hasI_iff l y.1).1 hh
        exact h.1 (List.mem_map.2 ⟨x, hx, e⟩)
      have h3 : wo (y :: l) y.1 = wo l y.1 := by unfold wo; simp
      rw [h3, wo_not h2]
    | succ j =>
      have hjl : j < l.length := by simpa using hj
      have e : atI (y :: l) (j + 1) = atI l j := by simp [atI]
      rw [e]
      have hne : ¬(y.1 == (atI l j).1) = true := by
        intro hh
        have : y.1 = (atI l j).1 := by simpa using hh
        exact h.1 (List.mem_map.2 ⟨atI l j, List.mem_of_getElem? (atI_some hjl), this.symm⟩)
      have h3 : wo (y :: l) (atI l j).1 = y :: wo l (atI l j).1 := by unfold wo; rw [List.filter_cons]; simp [hne]
      rw [h3]
      exact ((ih h.2 hjl).cons y).trans (List.Perm.swap _ _ _)
theorem set_wo {l : List It} (h : (l.map (·.1)).Nodup) {j : Nat} (hj : j < l.length) (x : It) : (l.set j x).Perm (x :: wo l (atI l j).1) := by
  have h1 := set_perm hj x
  have h2 := (perm_wo h hj).cons x
  exact (List.perm_cons (atI l j)).1 (h1.symm.trans (h2.trans (List.Perm.swap _ _ _)))
theorem drop_wo {l : List It} (h : (l.map (·.1)).Nodup) {j : Nat} (hj : j < l.length) (hlast : j ≠ l.length - 1) : ((l.set j (atI l (l.length - 1))).take (l.length - 1)).Perm (wo l (atI l j).1) := by
  have hT : (l.set j (atI l (l.length - 1))).take (l.length - 1) = (l.take (l.length - 1)).set j (atI l (l.length - 1)) := by rw [List.take_set]
  rw [hT]
  have hl : l = l.take (l.length - 1) ++ [atI l (l.length - 1)] := by
    have := take_one (l := l) (k := l.length - 1) (by omega)
    rw [show l.length - 1 + 1 = l.length by omega, List.take_length] at this
    exact this
  have hjT : j < (l.take (l.length - 1)).length := by rw [List.length_take]; omega
  have h1 := set_perm hjT (atI l (l.length - 1))
  rw [atI_take (by omega : j < l.length - 1)] at h1
  have h2 : l.Perm (atI l (l.length - 1) :: l.take (l.length - 1)) := by
    have := List.perm_append_comm (l₁ := l.take (l.length - 1)) (l₂ := [atI l (l.length - 1)])
    rw [← hl] at this
    exact this
  exact (List.perm_cons (atI l j)).1 (h1.symm.trans (h2.symm.trans (perm_wo h hj)))
theorem last_wo {l : List It} (h : (l.map (·.1)).Nodup) (hj : l.length - 1 < l.length) : (l.take (l.length - 1)).Perm (wo l (atI l (l.length - 1)).1) := by
  have hl : l = l.take (l.length - 1) ++ [atI l (l.length - 1)] := by
    have := take_one (l := l) (k := l.length - 1) (by omega)
    rw [show l.length - 1 + 1 = l.length by omega, List.take_length] at this
    exact this
  have h2 : l.Perm (atI l (l.length - 1) :: l.take (l.length - 1)) := by
    have := List.perm_append_comm (l₁ := l.take (l.length - 1)) (l₂ := [atI l (l.length - 1)])
    rw [← hl] at this
    exact this
  exact (List.perm_cons (atI l (l.length - 1))).1 (h2.symm.trans (perm_wo h hj))
theorem fndI_cases (l : List It) (z : Int) : (fndI l z = -1 ∧ hasI l z = false) ∨ ∃ j, j < l.length ∧ fndI l z = (j : Int) ∧ (atI l j).1 = z ∧ hasI l z = true := by
  cases e : l.findIdx? (fun x => x.1 == z) with
  | none =>
    left
    refine ⟨by unfold fndI; rw [e], ?_⟩
    rw [List.findIdx?_eq_none_iff] at e
    rw [Bool.eq_false_iff]
    intro hh
    obtain ⟨x, hx, h⟩ := (hasI_iff l z).1 hh
    have := e x hx
    simp [h] at this
  | some j =>
    right
    obtain ⟨hj, h1, _⟩ := List.findIdx?_eq_some_iff_getElem.1 e
    have e' : l[j] = atI l j := by unfold atI; rw [List.getD_eq_getElem?_getD, List.getElem?_eq_getElem hj]; rfl
    rw [e'] at h1
    have h2 : (atI l j).1 = z := by simpa using h1
    exact ⟨j, hj, by unfold fndI; rw [e], h2, (hasI_iff l z).2 ⟨_, List.mem_of_getElem? (atI_some hj), h2⟩⟩
theorem wo_mem {l : List It} {z : Int} {y : It} : y ∈ wo l z ↔ y ∈ l ∧ y.1 ≠ z := by
  unfold wo
  rw [List.mem_filter]
  simp
theorem wo_nodup {l : List It} (h : (l.map (·.1)).Nodup) (z : Int) : ((wo l z).map (·.1)).Nodup := by
  unfold wo
  exact h.sublist (List.filter_sublist.map _)
theorem wo_not_has (l : List It) (z : Int) : hasI (wo l z) z = false := by
  rw [Bool.eq_false_iff]
  intro hh
  obtain ⟨x, hx, h⟩ := (hasI_iff _ z).1 hh
  exact (wo_mem.1 hx).2 h
theorem chk_of_set {l l' : List It} (h : chkI l) {x : It} (hx : 0 ≤ x.1 ∧ x.1 < 64) (hp : l'.Perm (x :: wo l x.1)) (hh : heapP l') : chkI l' := by
  refine ⟨fun y hy => ?_, ?_, hh⟩
  · have := hp.mem_iff.1 hy
    rw [List.mem_cons] at this
    rcases this with rfl | h1
    · exact hx
    · exact h.1 y (wo_mem.1 h1).1
  · have h1 : (l'.map (·.1)).Perm ((x :: wo l x.1).map (·.1)) := hp.map _
    rw [h1.nodup_iff, List.map_cons, List.nodup_cons]
    refine ⟨fun hm => ?_, wo_nodup h.2.1 _⟩
    obtain ⟨y, hy, e⟩ := List.mem_map.1 hm
    exact (wo_mem.1 hy).2 e
theorem chk_of_drop {l l' : List It} (h : chkI l) {z : Int} (hp : l'.Perm (wo l z)) (hh : heapP l') : chkI l' := by
  refine ⟨fun y hy => h.1 y (wo_mem.1 (hp.mem_iff.1 hy)).1, ?_, hh⟩
  have h1 : (l'.map (·.1)).Perm ((wo l z).map (·.1)) := hp.map _
  rw [h1.nodup_iff]
  exact wo_nodup h.2.1 _
/-- What Set makes: the items, the error. -/
def SetP (l : List It) (x : It) (l' : List It) (E : Int) : Prop :=
  (¬chkI l ∧ l' = l ∧ E = 120) ∨ (chkI l ∧ ¬(0 ≤ x.1 ∧ x.1 < 64) ∧ l' = l ∧ E = 110) ∨ (chkI l ∧ (0 ≤ x.1 ∧ x.1 < 64) ∧ E = 0 ∧ chkI l' ∧ l'.Perm (x :: wo l x.1))
def DropP (l : List It) (z : Int) (l' : List It) (E : Int) : Prop :=
  (¬(chkI l ∧ hasI l z = true) ∧ l' = l ∧ E = 120) ∨ (chkI l ∧ hasI l z = true ∧ E = 0 ∧ chkI l' ∧ l'.Perm (wo l z))
end Go.Proofs.Try
