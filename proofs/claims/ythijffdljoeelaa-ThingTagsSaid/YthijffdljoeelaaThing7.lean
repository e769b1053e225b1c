/- Texts that rise: linhayref09.put, linhayref09.Tags, in theory. -/
import Derived.Test.YthijffdljoeelaaW9
import Derived.Sort.Walk0
namespace Go.Proofs.Try
open Go.RowKit Go.Maps Go.Sort
set_option linter.unusedVariables false

def ltT (s t : ByteArray) : Bool := Op.bytesLess s.toList t.toList
theorem ltT_iff (s t : ByteArray) : ltT s t = true ↔ bytesOf s < bytesOf t := by
  unfold ltT bytesOf
  rw [bytesLess_eq, ByteArray.toList_eq, ByteArray.toList_eq, decide_eq_true_iff]
theorem ltT_irrefl (s : ByteArray) : ltT s s = false := by
  cases h : ltT s s
  · rfl
  · exact absurd ((ltT_iff s s).1 h) (List.lt_irrefl _)
theorem ltT_trans {s t u : ByteArray} (h1 : ltT s t = true) (h2 : ltT t u = true) : ltT s u = true :=
  (ltT_iff s u).2 (List.lt_trans ((ltT_iff s t).1 h1) ((ltT_iff t u).1 h2))
theorem ltT_tri {s t : ByteArray} (h : ltT s t = false) (hne : ¬ s = t) : ltT t s = true := by
  refine (ltT_iff t s).2 ?_
  have h1 : ¬ bytesOf s < bytesOf t := fun h2 => by rw [(ltT_iff s t).2 h2] at h; cases h
  have h2 : bytesOf t ≤ bytesOf s := List.not_lt.1 h1
  by_cases h3 : bytesOf t < bytesOf s
  · exact h3
  · exact absurd (bytes_ext s t (List.le_antisymm (List.not_lt.1 h3) h2)) hne
/-- With one more, if it is not there. -/
def putL : List ByteArray → ByteArray → List ByteArray
  | [], s => [s]
  | t :: ts, s => if ltT t s = true then t :: putL ts s else if (decide (t = s)) = true then t :: ts else s :: t :: ts
theorem putL_lt (t : ByteArray) (ts : List ByteArray) (s : ByteArray) (h : ltT t s = true) : putL (t :: ts) s = t :: putL ts s := by rw [putL, if_pos h]
theorem putL_eq (ts : List ByteArray) (s : ByteArray) : putL (s :: ts) s = s :: ts := by rw [putL, if_neg (by rw [ltT_irrefl]; simp), if_pos (by simp)]
theorem putL_gt (t : ByteArray) (ts : List ByteArray) (s : ByteArray) (h : ltT t s = false) (hne : ¬ t = s) : putL (t :: ts) s = s :: t :: ts := by rw [putL, if_neg (by rw [h]; simp), if_neg (by simpa using hne)]
theorem putL_there : ∀ (l : List ByteArray) (s : ByteArray) (k : Nat), (∀ t ∈ l.take k, ltT t s = true) → k < l.length → l.getD k ⟨#[]⟩ = s → putL l s = l
  | [], s, k, _, h, _ => by simp at h
  | t :: ts, s, 0, _, _, h => by
    have : t = s := h
    subst this
    exact putL_eq _ _
  | t :: ts, s, k + 1, h1, h2, h3 => by
    rw [putL_lt t ts s (h1 t (by simp)), putL_there ts s k (fun x hx => h1 x (by simp [hx])) (by simpa using h2) (by simpa using h3)]
theorem putL_new : ∀ (l : List ByteArray) (s : ByteArray) (k : Nat), (∀ t ∈ l.take k, ltT t s = true) → k ≤ l.length → (k < l.length → ltT (l.getD k ⟨#[]⟩) s = false ∧ ¬ l.getD k ⟨#[]⟩ = s) → putL l s = (l.take k ++ [s]) ++ l.drop k
  | [], s, k, _, h, _ => by simp [putL]
  | t :: ts, s, 0, _, _, h => by
    obtain ⟨h1, h2⟩ := h (by simp)
    rw [putL_gt t ts s h1 h2]
    simp
  | t :: ts, s, k + 1, h1, h2, h3 => by
    rw [putL_lt t ts s (h1 t (by simp)), putL_new ts s k (fun x hx => h1 x (by simp [hx])) (by simpa using h2) (fun hk => by simpa using h3 (by simpa using hk))]
    simp
theorem putL_mem : ∀ (l : List ByteArray) (s x : ByteArray), x ∈ putL l s ↔ x ∈ l ∨ x = s
  | [], s, x => by simp [putL]
  | t :: ts, s, x => by
    cases h : ltT t s
    · by_cases e : t = s
      · subst e
        rw [putL_eq]
        exact ⟨.inl, fun h => h.elim id (fun e => by rw [e]; exact List.mem_cons_self)⟩
      · rw [putL_gt t ts s h e, List.mem_cons]
        exact ⟨fun h => h.elim .inr .inl, fun h => h.elim .inr .inl⟩
    · rw [putL_lt t ts s h, List.mem_cons, putL_mem ts s x, List.mem_cons, or_assoc]
theorem putL_rise : ∀ (l : List ByteArray) (s : ByteArray), l.Pairwise (fun a b => ltT a b = true) → (putL l s).Pairwise (fun a b => ltT a b = true)
  | [], s, _ => by simp [putL]
  | t :: ts, s, hp => by
    obtain ⟨h1, h2⟩ := List.pairwise_cons.1 hp
    cases h : ltT t s
    · by_cases e : t = s
      · subst e
        rw [putL_eq]
        exact hp
      · rw [putL_gt t ts s h e]
        have hs := ltT_tri h e
        refine List.pairwise_cons.2 ⟨fun x hx => ?_, hp⟩
        rcases List.mem_cons.1 hx with rfl | hx
        · exact hs
        · exact ltT_trans hs (h1 x hx)
    · rw [putL_lt t ts s h]
      refine List.pairwise_cons.2 ⟨fun x hx => ?_, putL_rise ts s h2⟩
      rcases (putL_mem ts s x).1 hx with hx | rfl
      · exact h1 x hx
      · exact h
def risen (ss : List ByteArray) : List ByteArray := ss.foldl putL []
theorem risen_snoc (ss : List ByteArray) (s : ByteArray) : risen (ss ++ [s]) = putL (risen ss) s := by unfold risen; rw [List.foldl_append]; rfl
theorem risen_fold : ∀ (ss acc : List ByteArray), acc.Pairwise (fun a b => ltT a b = true) → (ss.foldl putL acc).Pairwise (fun a b => ltT a b = true) ∧ ∀ x, x ∈ ss.foldl putL acc ↔ x ∈ acc ∨ x ∈ ss
  | [], acc, h => ⟨h, fun x => by simp⟩
  | s :: ss, acc, h => by
    obtain ⟨h1, h2⟩ := risen_fold ss (putL acc s) (putL_rise acc s h)
    rw [List.foldl_cons]
    refine ⟨h1, fun x => ?_⟩
    rw [h2 x, putL_mem, List.mem_cons, or_assoc]
theorem risen_rise (ss : List ByteArray) : (risen ss).Pairwise (fun a b => ltT a b = true) := (risen_fold ss [] List.Pairwise.nil).1
theorem risen_mem (ss : List ByteArray) (x : ByteArray) : x ∈ risen ss ↔ x ∈ ss := by
  have := (risen_fold ss [] List.Pairwise.nil).2 x
  simpa [risen] using this
theorem risen_nodup (ss : List ByteArray) : (risen ss).Nodup := (risen_rise ss).imp fun {a b} h e => by subst e; rw [ltT_irrefl] at h; cases h
theorem bytesOf_inj {a b : ByteArray} (h : bytesOf a = bytesOf b) : a = b := bytes_ext a b h
theorem tagsL_risen (ss : List ByteArray) : tagsL ss = (risen ss).map bytesOf := by
  refine tagsL_eq ss _ (List.Perm.map _ ((List.perm_ext_iff_of_nodup (dd_nodup ss) (risen_nodup ss)).2 fun x => by rw [dd_mem, risen_mem])) ?_
  refine List.pairwise_map.2 ((risen_rise ss).imp fun {a b} h => ?_)
  exact decide_eq_true (List.le_of_lt ((ltT_iff a b).1 h))
theorem risen_len (ss : List ByteArray) : (risen ss).length = (dd ss).length := same_len (risen_nodup ss) (dd_nodup ss) fun x => by rw [dd_mem, risen_mem]
theorem risen_enc (ss : List ByteArray) : (tagsL ss).map encStr = (risen ss).map Value.string := by
  rw [tagsL_risen, List.map_map]
  exact List.map_congr_left fun x _ => (enc_eq x).symm
end Go.Proofs.Try
