/- Heaps: items, their order, and what rising and sinking do (no program in it). -/
import Derived.Test.YtgkiijpheigpjaaBase
namespace Go.Proofs.Try
set_option linter.unusedVariables false
set_option linter.unusedSimpArgs false
/-- An item: its ID, its Pri, its Seq. -/
abbrev It := Int × Int × Int
def LtI (a b : It) : Prop := a.2.1 < b.2.1 ∨ a.2.1 = b.2.1 ∧ (a.2.2 < b.2.2 ∨ a.2.2 = b.2.2 ∧ a.1 < b.1)
instance (a b : It) : Decidable (LtI a b) := by unfold LtI; infer_instance
theorem LtI.irr (a : It) : ¬LtI a a := by unfold LtI; omega
theorem LtI.tr {a b c : It} (h : LtI a b) (k : LtI b c) : LtI a c := by unfold LtI at *; omega
theorem LtI.asy {a b : It} (h : LtI a b) : ¬LtI b a := by unfold LtI at *; omega
/-- Not ahead: it goes on. -/
theorem nlt_tr {a b c : It} (h : ¬LtI b a) (k : ¬LtI c b) : ¬LtI c a := by unfold LtI at *; omega
theorem LtI.tot {a b : It} (h : ¬LtI a b) (k : ¬LtI b a) : a = b := by
  obtain ⟨a1, a2, a3⟩ := a
  obtain ⟨b1, b2, b3⟩ := b
  unfold LtI at *
  simp only [Prod.mk.injEq] at *
  omega
def par (p : Nat) : Nat := (p - 1) / 4
theorem par_lt {p : Nat} (h : 0 < p) : par p < p := by unfold par; omega
def atI (l : List It) (j : Nat) : It := l.getD j (0, 0, 0)
theorem atI_some {l : List It} {j : Nat} (h : j < l.length) : l[j]? = some (atI l j) := by
  unfold atI
  rw [List.getD_eq_getElem?_getD, List.getElem?_eq_getElem h]; rfl
theorem atI_set {l : List It} (i j : Nat) (x : It) (hi : i < l.length) : atI (l.set i x) j = if j = i then x else atI l j := by
  unfold atI
  rw [List.getD_eq_getElem?_getD, List.getD_eq_getElem?_getD, List.getElem?_set]
  by_cases h : j = i
  · subst h; simp [hi]
  · rw [if_neg (fun e => h e.symm), if_neg h]
/-- All stand right. -/
def heapP (l : List It) : Prop := ∀ i, 0 < i → i < l.length → ¬LtI (atI l i) (atI l (par i))
/-- All but the one at p stand right. -/
def almost (l : List It) (p : Nat) : Prop := (∀ i, 0 < i → i < l.length → i ≠ p → par i ≠ p → ¬LtI (atI l i) (atI l (par i))) ∧ (0 < p → ∀ i, 0 < i → i < l.length → par i = p → ¬LtI (atI l i) (atI l (par p)))
def upP (l : List It) (p : Nat) : Prop := 0 < p → ¬LtI (atI l p) (atI l (par p))
def swapI (l : List It) (p q : Nat) : List It := (l.set p (atI l q)).set q (atI l p)
theorem swapI_len (l : List It) (p q : Nat) : (swapI l p q).length = l.length := by unfold swapI; simp
theorem swapI_at (l : List It) (p q j : Nat) (hp : p < l.length) (hq : q < l.length) : atI (swapI l p q) j = if j = q then atI l p else if j = p then atI l q else atI l j := by
  unfold swapI
  rw [atI_set _ _ _ (by simpa using hq)]
  split
  · rfl
  · rw [atI_set _ _ _ hp]
theorem set_perm {l : List It} {j : Nat} (hj : j < l.length) (x : It) : (x :: l).Perm (atI l j :: l.set j x) := by
  induction l generalizing j with
  | nil => simp at hj
  | cons y l ih =>
    cases j with
    | zero => simp [atI]; exact List.Perm.swap _ _ _
    | succ j =>
      have h := ih (j := j) (by simpa using hj)
      have e : atI (y :: l) (j + 1) = atI l j := by simp [atI]
      rw [e, List.set_cons_succ]
      exact (List.Perm.swap _ _ _).trans ((h.cons y).trans (List.Perm.swap _ _ _))
theorem swapI_perm (l : List It) (p q : Nat) (hp : p < l.length) (hq : q < l.length) : (swapI l p q).Perm l := by
  unfold swapI
  have h1 := set_perm (l := l) hp (atI l q)
  have h2 := set_perm (l := l.set p (atI l q)) (j := q) (by simpa using hq) (atI l p)
  rw [atI_set _ _ _ hp] at h2
  by_cases e : q = p
  · subst e
    rw [if_pos rfl] at h2
    rw [List.set_set]
    have : l.set q (atI l q) = l := by
      apply List.ext_getElem?
      intro i
      rw [List.getElem?_set]
      by_cases h : q = i
      · subst h; rw [if_pos rfl, if_pos hp, atI_some hp]
      · rw [if_neg h]
    rw [this]
  · rw [if_neg e] at h2
    exact (List.perm_cons _).1 (h2.symm.trans h1.symm)
theorem rise_step {l : List It} {p : Nat} (h : almost l p) (hp : 0 < p) (hpl : p < l.length) (hlt : LtI (atI l p) (atI l (par p))) : almost (swapI l p (par p)) (par p) := by
  have hq := par_lt hp
  obtain ⟨a, b⟩ := h
  have hat := fun j => swapI_at l p (par p) j hpl (by omega)
  refine ⟨fun i hi hil h1 h2 => ?_, fun hq0 i hi hil h1 => ?_⟩
  · rw [swapI_len] at hil
    rw [hat, hat, if_neg h1, if_neg h2]
    by_cases e : par i = p
    · rw [if_pos e]
      have hip : i ≠ p := by have := par_lt hi; omega
      rw [if_neg hip]
      exact b hp i hi hil e
    · rw [if_neg e]
      by_cases e2 : i = p
      · exact absurd (by rw [e2]) h2
      · rw [if_neg e2]
        exact a i hi hil e2 e
  · rw [swapI_len] at hil
    have hpp := par_lt hq0
    rw [hat, hat, if_neg (by have := par_lt hi; omega), if_neg (by omega : ¬par (par p) = par p), if_neg (by omega : ¬par (par p) = p)]
    have hqq : ¬LtI (atI l (par p)) (atI l (par (par p))) := a (par p) hq0 (by omega) (by omega) (by omega)
    by_cases e : i = p
    · rw [if_pos e]; exact hqq
    · rw [if_neg e]
      have := a i hi hil e (by omega)
      rw [h1] at this
      exact nlt_tr hqq this
theorem sink_step {l : List It} {p f : Nat} (h : almost l p) (hu : upP l p) (hf : par f = p) (hf0 : 0 < f) (hfl : f < l.length) (hlt : LtI (atI l f) (atI l p)) (hmin : ∀ i, 0 < i → i < l.length → par i = p → ¬LtI (atI l i) (atI l f)) : almost (swapI l p f) f ∧ upP (swapI l p f) f := by
  have hpf := par_lt hf0
  rw [hf] at hpf
  obtain ⟨a, b⟩ := h
  have hat := fun j => swapI_at l p f j (by omega) hfl
  refine ⟨⟨fun i hi hil h1 h2 => ?_, fun _ i hi hil h1 => ?_⟩, fun _ => ?_⟩
  · rw [swapI_len] at hil
    rw [hat, hat, if_neg h1, if_neg h2]
    by_cases e : i = p
    · subst e
      rw [if_pos rfl, if_neg (by have := par_lt hi; omega)]
      exact b hi f hf0 hfl hf
    · rw [if_neg e]
      by_cases e2 : par i = p
      · rw [if_pos e2]; exact hmin i hi hil e2
      · rw [if_neg e2]; exact a i hi hil e e2
  · rw [swapI_len] at hil
    rw [hf, hat, hat, if_neg (by have := par_lt hi; omega), if_neg (by have := par_lt hi; omega : ¬i = p), if_neg (by omega : ¬p = f), if_pos rfl]
    have := a i hi hil (by have := par_lt hi; omega) (by omega)
    rwa [h1] at this
  · rw [hf, hat, hat, if_pos rfl, if_neg (by omega : ¬p = f), if_pos rfl]
    exact hlt.asy
theorem sink_done {l : List It} {p : Nat} (h : almost l p) (hu : upP l p) (hmin : ∀ i, 0 < i → i < l.length → par i = p → ¬LtI (atI l i) (atI l p)) : heapP l := by
  intro i hi hil
  by_cases e : i = p
  · subst e; exact hu hi
  · by_cases e2 : par i = p
    · rw [e2]; exact hmin i hi hil e2
    · exact h.1 i hi hil e e2
theorem almost_set {l : List It} (h : heapP l) {p : Nat} (hp : p < l.length) (x : It) : almost (l.set p x) p := by
  refine ⟨fun i hi hil h1 h2 => ?_, fun hp0 i hi hil h1 => ?_⟩
  · rw [List.length_set] at hil
    rw [atI_set _ _ _ hp, atI_set _ _ _ hp, if_neg h1, if_neg h2]
    exact h i hi hil
  · rw [List.length_set] at hil
    rw [atI_set _ _ _ hp, atI_set _ _ _ hp, if_neg (by have := par_lt hi; omega), if_neg (by have := par_lt hp0; omega)]
    have h2 := h i hi hil
    rw [h1] at h2
    exact nlt_tr (h p hp0 hp) h2
theorem atI_app {l : List It} (x : It) {j : Nat} (hj : j < l.length) : atI (l ++ [x]) j = atI l j := by
  unfold atI
  rw [List.getD_eq_getElem?_getD, List.getD_eq_getElem?_getD, List.getElem?_append_left hj]
theorem almost_app {l : List It} (h : heapP l) (x : It) : almost (l ++ [x]) l.length := by
  refine ⟨fun i hi hil h1 h2 => ?_, fun hp0 i hi hil h1 => ?_⟩
  · rw [List.length_append] at hil
    simp at hil
    have := par_lt hi
    rw [atI_app _ (by omega), atI_app _ (by omega)]
    exact h i hi (by omega)
  · rw [List.length_append] at hil
    simp at hil
    have := par_lt hi
    omega
theorem heap_cut {l : List It} (h : heapP l) (m : Nat) (hm : m ≤ l.length) : heapP (l.take m) := by
  intro i hi hil
  rw [List.length_take] at hil
  have hp := par_lt hi
  have e : ∀ j, j < m → atI (l.take m) j = atI l j := fun j hj => by
    unfold atI
    rw [List.getD_eq_getElem?_getD, List.getD_eq_getElem?_getD, List.getElem?_take, if_pos hj]
  rw [e i (by omega), e _ (by omega)]
  exact h i hi (by omega)
end Go.Proofs.Try
