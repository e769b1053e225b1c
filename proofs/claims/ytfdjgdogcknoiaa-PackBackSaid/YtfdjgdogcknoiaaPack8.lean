/- Texts, and lists of texts, as bytes (layer 7), in theory. -/
import Derived.Test.YtfdjgdogcknoiaaPack5
namespace Go.Proofs.Try
open Go.RowKit
set_option linter.unusedVariables false

def textB (t : List UInt8) : List UInt8 := oneB t.length ++ t
def listB (ts : List (List UInt8)) : List UInt8 := ts.flatMap textB
def textsB (ts : List (List UInt8)) : List UInt8 := oneB ts.length ++ listB ts
theorem listB_app (a b : List (List UInt8)) : listB (a ++ b) = listB a ++ listB b := List.flatMap_append
theorem listB_one (t : List UInt8) : listB [t] = textB t := by simp [listB]
theorem listB_cons (t : List UInt8) (ts : List (List UInt8)) : listB (t :: ts) = textB t ++ listB ts := rfl
/-- The text that bytes begin with, and what is behind it. -/
noncomputable def takeTextL (l : List UInt8) : Option (List UInt8 × List UInt8) :=
  match takeL l with
  | none => none
  | some p => if p.1 ≤ p.2.length then some (p.2.take p.1, p.2.drop p.1) else none
/-- So many texts. -/
noncomputable def takeNL : Nat → List UInt8 → Option (List (List UInt8) × List UInt8)
  | 0, l => some ([], l)
  | k + 1, l => match takeTextL l with
    | none => none
    | some p => (takeNL k p.2).map fun q => (p.1 :: q.1, q.2)
noncomputable def takeTextsL (l : List UInt8) : Option (List (List UInt8) × List UInt8) :=
  match takeL l with
  | none => none
  | some p => takeNL p.1 p.2
theorem takeL_short (l : List UInt8) (n : Nat) (r : List UInt8) (h : takeL l = some (n, r)) : r.length < l.length := by
  have h1 := (takeL_own l n r h).1
  have h2 : 0 < (oneB n).length := List.length_pos_iff.2 (one_ne n)
  rw [h1, List.length_append]
  omega
theorem takeTextL_text (t r : List UInt8) (h : t.length < 18446744073709551616) : takeTextL (textB t ++ r) = some (t, r) := by
  unfold takeTextL textB
  rw [List.append_assoc, takeL_one _ h]
  simp
theorem takeTextL_own (l t r : List UInt8) (h : takeTextL l = some (t, r)) : l = textB t ++ r ∧ t.length < 18446744073709551616 := by
  unfold takeTextL at h
  cases hc : takeL l with
  | none => rw [hc] at h; cases h
  | some p =>
    obtain ⟨n, q⟩ := p
    rw [hc] at h
    simp only at h
    split at h
    · rename_i hn
      injection h with h
      injection h with h1 h2
      obtain ⟨e1, e2⟩ := takeL_own l n q hc
      have hl : t.length = n := by rw [← h1, List.length_take]; omega
      refine ⟨?_, by omega⟩
      unfold textB
      rw [hl, e1, List.append_assoc, ← h1, ← h2, List.take_append_drop]
    · cases h
theorem takeTextL_short (l t r : List UInt8) (h : takeTextL l = some (t, r)) : r.length < l.length := by
  have h1 := (takeTextL_own l t r h).1
  have h2 : 0 < (oneB t.length).length := List.length_pos_iff.2 (one_ne _)
  rw [h1]
  unfold textB
  rw [List.length_append, List.length_append]
  omega
theorem takeNL_list : ∀ (ts : List (List UInt8)) (r : List UInt8), (∀ t ∈ ts, t.length < 18446744073709551616) → takeNL ts.length (listB ts ++ r) = some (ts, r)
  | [], r, _ => rfl
  | t :: ts, r, h => by
    rw [List.length_cons, listB_cons, List.append_assoc, takeNL, takeTextL_text _ _ (h t (by simp))]
    simp only
    rw [takeNL_list ts r (fun x hx => h x (by simp [hx]))]
    rfl
theorem takeNL_own : ∀ (k : Nat) (l : List UInt8) (ts : List (List UInt8)) (r : List UInt8), takeNL k l = some (ts, r) → l = listB ts ++ r ∧ ts.length = k ∧ ∀ t ∈ ts, t.length < 18446744073709551616
  | 0, l, ts, r, h => by
    injection h with h
    injection h with h1 h2
    subst h1 h2
    exact ⟨rfl, rfl, by simp⟩
  | k + 1, l, ts, r, h => by
    rw [takeNL] at h
    cases hc : takeTextL l with
    | none => rw [hc] at h; cases h
    | some p =>
      obtain ⟨t, q⟩ := p
      rw [hc] at h
      simp only at h
      cases hd : takeNL k q with
      | none => rw [hd] at h; cases h
      | some z =>
        obtain ⟨us, s⟩ := z
        rw [hd] at h
        injection h with h
        injection h with h1 h2
        obtain ⟨e1, e2, e3⟩ := takeNL_own k q us s hd
        obtain ⟨f1, f2⟩ := takeTextL_own l t q hc
        subst h1
        simp only at h2
        subst h2
        refine ⟨by rw [listB_cons, List.append_assoc, ← e1, f1], by rw [List.length_cons, e2], fun x hx => ?_⟩
        rcases List.mem_cons.1 hx with rfl | hx
        · exact f2
        · exact e3 x hx
theorem takeNL_long : ∀ (k : Nat) (l : List UInt8), l.length < k → takeNL k l = none
  | 0, l, h => by omega
  | k + 1, l, h => by
    rw [takeNL]
    cases hc : takeTextL l with
    | none => rfl
    | some p =>
      obtain ⟨t, q⟩ := p
      have := takeTextL_short l t q hc
      simp only
      rw [takeNL_long k q (by omega)]
      rfl
theorem takeNL_none (k : Nat) (l : List UInt8) (h : takeTextL l = none) : takeNL (k + 1) l = none := by rw [takeNL, h]
theorem takeNL_some (k : Nat) (l t q : List UInt8) (h : takeTextL l = some (t, q)) : takeNL (k + 1) l = (takeNL k q).map fun z => (t :: z.1, z.2) := by rw [takeNL, h]
theorem takeTextsL_texts (ts : List (List UInt8)) (r : List UInt8) (h : ∀ t ∈ ts, t.length < 18446744073709551616) (hl : ts.length < 18446744073709551616) : takeTextsL (textsB ts ++ r) = some (ts, r) := by
  unfold takeTextsL textsB
  rw [List.append_assoc, takeL_one _ hl]
  exact takeNL_list ts r h
theorem takeTextsL_own (l : List UInt8) (ts : List (List UInt8)) (r : List UInt8) (h : takeTextsL l = some (ts, r)) : l = textsB ts ++ r ∧ (∀ t ∈ ts, t.length < 18446744073709551616) ∧ ts.length < 18446744073709551616 := by
  unfold takeTextsL at h
  cases hc : takeL l with
  | none => rw [hc] at h; cases h
  | some p =>
    obtain ⟨n, q⟩ := p
    rw [hc] at h
    obtain ⟨e1, e2⟩ := takeL_own l n q hc
    obtain ⟨f1, f2, f3⟩ := takeNL_own n q ts r h
    refine ⟨?_, f3, by omega⟩
    unfold textsB
    rw [f2, e1, List.append_assoc, ← f1]
/-- No beginning of what is taken whole is taken. -/
theorem takeL_cut (n k : Nat) (h : n < 18446744073709551616) (hk : k < (oneB n).length) : takeL ((oneB n).take k) = none := by
  cases hc : takeL ((oneB n).take k) with
  | none => rfl
  | some p =>
    obtain ⟨m, r⟩ := p
    obtain ⟨e1, e2⟩ := takeL_own _ m r hc
    have h1 := takeL_one n h []
    have h2 := takeL_one m e2 (r ++ (oneB n).drop k)
    rw [← List.append_assoc, ← e1, List.take_append_drop] at h2
    rw [List.append_nil, h2] at h1
    injection h1 with h1
    injection h1 with _ h1
    have := congrArg List.length h1
    rw [List.length_append, List.length_drop, List.length_nil] at this
    omega
theorem takeTextL_cut (t : List UInt8) (k : Nat) (h : t.length < 18446744073709551616) (hk : k < (textB t).length) : takeTextL ((textB t).take k) = none := by
  cases hc : takeTextL ((textB t).take k) with
  | none => rfl
  | some p =>
    obtain ⟨m, r⟩ := p
    obtain ⟨e1, e2⟩ := takeTextL_own _ m r hc
    have h1 := takeTextL_text t [] h
    have h2 := takeTextL_text m (r ++ (textB t).drop k) e2
    rw [← List.append_assoc, ← e1, List.take_append_drop] at h2
    rw [List.append_nil, h2] at h1
    injection h1 with h1
    injection h1 with _ h1
    have := congrArg List.length h1
    rw [List.length_append, List.length_drop, List.length_nil] at this
    omega
theorem takeTextsL_cut (ts : List (List UInt8)) (k : Nat) (h : ∀ t ∈ ts, t.length < 18446744073709551616) (hl : ts.length < 18446744073709551616) (hk : k < (textsB ts).length) : takeTextsL ((textsB ts).take k) = none := by
  cases hc : takeTextsL ((textsB ts).take k) with
  | none => rfl
  | some p =>
    obtain ⟨m, r⟩ := p
    obtain ⟨e1, e2, e3⟩ := takeTextsL_own _ m r hc
    have h1 := takeTextsL_texts ts [] h hl
    have h2 := takeTextsL_texts m (r ++ (textsB ts).drop k) e2 e3
    rw [← List.append_assoc, ← e1, List.take_append_drop] at h2
    rw [List.append_nil, h2] at h1
    injection h1 with h1
    injection h1 with _ h1
    have := congrArg List.length h1
    rw [List.length_append, List.length_drop, List.length_nil] at this
    omega
theorem listB_len : ∀ (ts : List (List UInt8)) (M : Nat), (∀ t ∈ ts, t.length ≤ M) → M < 18446744073709551616 → (listB ts).length ≤ (M + 10) * ts.length
  | [], M, _, _ => by simp [listB]
  | t :: ts, M, h, hM => by
    have ih := listB_len ts M (fun x hx => h x (by simp [hx])) hM
    have h1 := h t (by simp)
    have h2 := sizeB_10 t.length (by omega)
    unfold sizeB at h2
    rw [listB_cons, List.length_append, List.length_cons, Nat.mul_add, Nat.mul_one]
    unfold textB
    rw [List.length_append]
    omega
theorem textsB_snoc (ts : List (List UInt8)) (k : Nat) (h : k < ts.length) : listB (ts.take (k + 1)) = listB (ts.take k) ++ textB (ts.getD k []) := by
  have e : ts.take (k + 1) = ts.take k ++ [ts.getD k []] := by
    rw [List.take_add_one, List.getElem?_eq_getElem h, List.getD_eq_getElem?_getD, List.getElem?_eq_getElem h]; rfl
  rw [e, listB_app, listB_one]
end Go.Proofs.Try
