/- A table that may be; what a key has in it (stage 13): theory. -/
import Derived.Test.YtpjijaljdklpgaaTg
namespace Go.Proofs.Try
open Go.RowKit
set_option linter.unusedVariables false
def noP : Pl := (⟨#[]⟩, 0)
theorem toList_nil : (⟨#[]⟩ : ByteArray).toList = [] := by rw [ByteArray.toList_eq]
theorem none_noP : noneS noP.1 = true := by unfold noneS noP; dsimp only; rw [toList_nil]; rfl
/-- What a place may be. -/
def cellP (p : Pl) : Prop := (noneS p.1 = true ∧ p.2 = 0) ∨ isKey p.1 = true
structure OkL (l : List Pl) : Prop where
  len : l.length = 128
  few : fullN l ≤ 96
  cells : ∀ i, i < 128 → cellP (atP l i)
  good : GoodT 128 (hN 128) (tabL l)
theorem key_none {k : ByteArray} (h : isKey k = true) : noneS k = false := by
  unfold isKey at h
  have h1 := of_decide_eq_true h
  unfold noneS
  cases hb : (k.toList == []) with
  | false => rfl
  | true =>
    rw [beq_iff_eq] at hb
    have : k.toList.length = 0 := by rw [hb]; rfl
    rw [ByteArray.toList_eq] at this
    simp only [Array.length_toList] at this
    have h2 : k.size = 0 := this
    omega
theorem none_eq {k : ByteArray} : noneS k = true ↔ k = ⟨#[]⟩ := by
  unfold noneS
  rw [beq_iff_eq]
  constructor
  · intro h
    apply toList_inj
    rw [h, toList_nil]
  · rintro rfl
    exact toList_nil
theorem cell_noP {p : Pl} (h : cellP p) (hz : noneS p.1 = true) : p = noP := by
  rcases h with ⟨_, h2⟩ | h2
  · obtain ⟨a, b⟩ := p
    dsimp only at hz h2
    rw [h2, none_eq.1 hz]
    rfl
  · rw [key_none h2] at hz; cases hz
theorem atP_get {l : List Pl} {i : Nat} (h : i < l.length) : l[i]? = some (atP l i) := by simp [atP, List.getD_eq_getElem?_getD, List.getElem?_eq_getElem h]
theorem atP_set {l : List Pl} {i j : Nat} (hi : i < l.length) (x : Pl) : atP (l.set i x) j = if j = i then x else atP l j := by
  unfold atP
  rw [List.getD_eq_getElem?_getD, List.getElem?_set]
  by_cases h : i = j
  · subst h; simp [hi]
  · rw [if_neg h, if_neg (Ne.symm h), List.getD_eq_getElem?_getD]
theorem tab_set {l : List Pl} {i : Nat} (hi : i < l.length) (k : ByteArray) (v : Int) (hk : noneS k = false) : tabL (l.set i (k, v)) = setT (tabL l) i (some (k, v)) := by
  funext j
  unfold tabL setT
  rw [atP_set hi]
  by_cases h : j = i
  · rw [if_pos h, if_pos h, hk]; simp
  · rw [if_neg h, if_neg h]
theorem tab_unset {l : List Pl} {i : Nat} (hi : i < l.length) : tabL (l.set i noP) = setT (tabL l) i none := by
  funext j
  unfold tabL setT
  rw [atP_set hi]
  by_cases h : j = i
  · rw [if_pos h, if_pos h, none_noP]; simp
  · rw [if_neg h, if_neg h]
theorem full_set {l : List Pl} {i : Nat} (hi : i < l.length) (x : Pl) : fullN (l.set i x) + (if noneS (atP l i).1 then 0 else 1) = fullN l + (if noneS x.1 then 0 else 1) := by
  unfold fullN
  have h1 : l = l.take i ++ (atP l i :: l.drop (i + 1)) := by
    have := List.getElem?_eq_some_iff.1 (atP_get hi)
    obtain ⟨_, h⟩ := this
    rw [← h, ← List.drop_eq_getElem_cons, List.take_append_drop]
  have h2 : l.set i x = l.take i ++ (x :: l.drop (i + 1)) := by rw [List.set_eq_take_append_cons_drop, if_pos hi]
  rw [h2]
  conv => rhs; rw [h1]
  rw [List.countP_append, List.countP_append, List.countP_cons, List.countP_cons]
  cases noneS (atP l i).1 <;> cases noneS x.1 <;> simp <;> omega
/-- There is an empty place. -/
theorem OkL.empty {l : List Pl} (g : OkL l) : ∃ e, e < 128 ∧ noneS (atP l e).1 = true := by
  apply Classical.byContradiction
  intro h
  have h2 : fullN l = l.length := by
    unfold fullN
    rw [List.countP_eq_length]
    intro a ha
    obtain ⟨i, hi, rfl⟩ := List.getElem_of_mem ha
    have h3 := atP_get hi
    rw [List.getElem?_eq_getElem hi] at h3
    injection h3 with h3
    rw [h3]
    cases hb : noneS (atP l i).1 with
    | false => rfl
    | true => exact absurd ⟨i, by rw [← g.len]; exact hi, hb⟩ h
  have := g.few
  have := g.len
  omega
/-- What a key has. -/
def valL (l : List Pl) (k : ByteArray) : Option Int := if noneS k then none else (l.find? (fun p => p.1.toList == k.toList)).map (·.2)
theorem val_some {l : List Pl} (g : OkL l) {k : ByteArray} (hk : noneS k = false) (v : Int) : valL l k = some v ↔ hasT 128 (tabL l) k v := by
  unfold valL
  rw [hk, if_neg (by simp)]
  have hat : ∀ {p : Pl}, p ∈ l → ∃ i, i < 128 ∧ atP l i = p := fun {p} hp => by
    obtain ⟨i, hi, rfl⟩ := List.getElem_of_mem hp
    have h3 := atP_get hi
    rw [List.getElem?_eq_getElem hi] at h3
    injection h3 with h3
    exact ⟨i, by rw [← g.len]; exact hi, h3.symm⟩
  constructor
  · intro h
    obtain ⟨p, hp, rfl⟩ := Option.map_eq_some_iff.1 h
    have h1 := key_eq.1 (show (p.1.toList == k.toList) = true from List.find?_some (p := fun p : Pl => p.1.toList == k.toList) hp)
    obtain ⟨i, hi, he⟩ := hat (List.mem_of_find?_eq_some hp)
    refine ⟨i, hi, tabL_some.2 ⟨by rw [he, h1]; exact hk, ?_⟩⟩
    rw [he, ← h1]
  · rintro ⟨i, hi, ht⟩
    obtain ⟨h1, h2⟩ := tabL_some.1 ht
    have hm : (k, v) ∈ l := by
      have := atP_get (l := l) (i := i) (by rw [g.len]; exact hi)
      rw [h2] at this
      exact List.mem_of_getElem? this
    cases hf : l.find? (fun p => p.1.toList == k.toList) with
    | none =>
      have := List.find?_eq_none.1 hf (k, v) hm
      simp at this
    | some p =>
      have h3 := key_eq.1 (show (p.1.toList == k.toList) = true from List.find?_some (p := fun p : Pl => p.1.toList == k.toList) hf)
      obtain ⟨j, hj, he⟩ := hat (List.mem_of_find?_eq_some hf)
      have h4 : tabL l j = some (k, p.2) := tabL_some.2 ⟨by rw [he, h3]; exact hk, by rw [he, ← h3]⟩
      have h5 := g.good.one i j hi hj k v p.2 ht h4
      rw [h5, h4] at ht
      simp only [Option.some.injEq, Prod.mk.injEq] at ht
      simp [ht.2]
theorem val_none {l : List Pl} (g : OkL l) {k : ByteArray} (hk : noneS k = false) : valL l k = none ↔ ∀ v, ¬hasT 128 (tabL l) k v := by
  constructor
  · intro h v hv
    rw [(val_some g hk v).2 hv] at h
    cases h
  · intro h
    cases hv : valL l k with
    | none => rfl
    | some v => exact absurd ((val_some g hk v).1 hv) (h v)
theorem val_empty {l : List Pl} {k : ByteArray} (hk : noneS k = true) : valL l k = none := by unfold valL; rw [hk, if_pos rfl]
/-- Where a key's way ends: at its place, or it has none. -/
theorem first_there {l : List Pl} (g : OkL l) {k : ByteArray} (hk : noneS k = false) {s : Nat} (hs : FirstS l 128 k (hN 128 k) s) :
    ((atP l (posT 128 (hN 128 k) s)).1 = k ∧ valL l k = some (atP l (posT 128 (hN 128 k) s)).2) ∨ ((atP l (posT 128 (hN 128 k) s)).1 ≠ k ∧ atP l (posT 128 (hN 128 k) s) = noP ∧ valL l k = none ∧ emptyT 128 (tabL l) (hN 128 k) (posT 128 (hN 128 k) s) ∧ ∀ i, i < 128 → ∀ v, tabL l i ≠ some (k, v)) := by
  obtain ⟨e, he, hz⟩ := g.empty
  have hp : posT 128 (hN 128 k) s < 128 := posT_lt (by omega) _ _
  by_cases h : (atP l (posT 128 (hN 128 k) s)).1 = k
  · exact .inl ⟨h, (val_some g hk _).2 ⟨_, hp, tabL_some.2 ⟨by rw [h]; exact hk, Prod.ext h rfl⟩⟩⟩
  · have hno : ∀ i, i < 128 → ∀ v, tabL l i ≠ some (k, v) := fun i hi v ht => by
      obtain ⟨h1, h2⟩ := tabL_some.1 ht
      have h3 := (good_iff (n := 128) (by omega) l he hz).2 g.good i hi h1 s (by rw [h2]; exact hs)
      rw [h2] at h3
      apply h
      rw [h3, h2]
    have hz2 : noneS (atP l (posT 128 (hN 128 k) s)).1 = true := by
      have := hs.2.1
      unfold stopB at this
      rcases Bool.or_eq_true _ _ ▸ this with h1 | h1
      · exact absurd (key_eq.1 h1) h
      · exact h1
    refine .inr ⟨h, cell_noP (g.cells _ hp) hz2, (val_none g hk).2 fun v ⟨i, hi, ht⟩ => hno i hi v ht, ⟨s, hs.1, rfl, fun r hr hn => ?_, tabL_none.2 hz2⟩, hno⟩
    have := (stop_false.1 (hs.2.2 r hr)).2
    rw [tabL_none.1 hn] at this
    cases this
/-- A list of places that is new. -/
theorem at_new (i : Nat) : atP (noPl 128) i = noP := by
  unfold atP noPl noP
  rw [List.getD_eq_getElem?_getD, List.getElem?_replicate]
  by_cases h : i < 128 <;> simp [h]
theorem ok_new : OkL (noPl 128) := by
  refine ⟨by simp [noPl], ?_, fun i _ => .inl ⟨by rw [at_new]; exact none_noP, by rw [at_new]; rfl⟩, ?_⟩
  · unfold fullN noPl
    rw [List.countP_replicate]
    rw [if_neg (by rw [show noneS (⟨#[]⟩ : ByteArray) = true from none_noP]; simp)]
    omega
  · have hn : ∀ i, tabL (noPl 128) i = none := fun i => tabL_none.2 (by rw [at_new]; exact none_noP)
    exact ⟨fun i _ k v h => (by rw [hn] at h; cases h), fun i j _ _ k v u h _ => (by rw [hn] at h; cases h)⟩
theorem val_new (k : ByteArray) : valL (noPl 128) k = none := by
  cases hk : noneS k with
  | true => exact val_empty hk
  | false =>
    refine (val_none ok_new hk).2 fun v ⟨i, hi, ht⟩ => ?_
    rw [tabL_none.2 (by rw [at_new]; exact none_noP)] at ht
    cases ht
theorem full_new : fullN (noPl 128) = 0 := by
  unfold fullN noPl
  rw [List.countP_replicate, if_neg (by rw [show noneS (⟨#[]⟩ : ByteArray) = true from none_noP]; simp)]
end Go.Proofs.Try
