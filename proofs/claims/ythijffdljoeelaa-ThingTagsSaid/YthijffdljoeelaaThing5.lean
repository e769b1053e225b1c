/- Tags told: what the map holds, and what is collected. -/
import Derived.Test.YthijffdljoeelaaThing4
import Derived.Sort.KeysCollected
namespace Go.Proofs.Try
open Go.RowKit Go.Maps
set_option linter.unusedVariables false

theorem tf_in (s : ByteArray) (h : s.size ≤ 8) (i : Nat) : 0 ≤ tf s i ∧ tf s i < 256 := by
  unfold tf
  split
  · omega
  · exact bt_in s i
theorem sKey (s : ByteArray) (h : s.size ≤ 8) : keyOf Try.prog 64 (mkT (tf s)) = some (.string (kb (tf s))) := tagKey _ (tf_in s h)
theorem tf_inj (s t : ByteArray) (hs : s.size ≤ 8) (ht : t.size ≤ 8) (h : mkT (tf s) = mkT (tf t)) : s = t := by
  unfold mkT at h
  simp only [Value.agg.injEq, Array.mk.injEq, List.cons.injEq, Value.int.injEq, true_and, and_true] at h
  obtain ⟨e0, e1, e2, e3, e4, e5, e6, e7, e8⟩ := h
  have hz : s.size = t.size := by
    have : (s.size : Int) = t.size := e8
    omega
  have hb : ∀ j, j < 8 → bt s j = bt t j := fun j hj => by
    rcases (by omega : j = 0 ∨ j = 1 ∨ j = 2 ∨ j = 3 ∨ j = 4 ∨ j = 5 ∨ j = 6 ∨ j = 7) with rfl | rfl | rfl | rfl | rfl | rfl | rfl | rfl
    · exact e0
    · exact e1
    · exact e2
    · exact e3
    · exact e4
    · exact e5
    · exact e6
    · exact e7
  have zs : s.data.toList.length = s.size := by rw [← Lib.size_eq]
  have zt : t.data.toList.length = t.size := by rw [← Lib.size_eq]
  have hl : s.data.toList = t.data.toList := by
    apply List.ext_getElem (by omega)
    intro j h1 h2
    have := hb j (by omega)
    unfold bt at this
    rw [List.getD_eq_getElem?_getD, List.getD_eq_getElem?_getD, List.getElem?_eq_getElem h1, List.getElem?_eq_getElem h2] at this
    simp only [Option.getD_some] at this
    exact UInt8.toNat_inj.1 (by omega)
  cases s; cases t
  congr 1
  exact Array.toList_inj.1 hl
theorem kb_inj (s t : ByteArray) (hs : s.size ≤ 8) (ht : t.size ≤ 8) (h : kb (tf s) = kb (tf t)) : s = t :=
  tf_inj s t hs ht (tagLaw.inj (sKey s hs) (by rw [h]; exact sKey t ht))

theorem bytes_ext (a b : ByteArray) (h : a.data.toList = b.data.toList) : a = b := by
  cases a; cases b
  congr 1
  exact Array.toList_inj.1 h
instance bytesDec : DecidableEq ByteArray := fun a b => decidable_of_iff (a.data.toList = b.data.toList) ⟨bytes_ext a b, fun h => by rw [h]⟩
def addB (acc : List ByteArray) (s : ByteArray) : List ByteArray := if (acc.any fun t => decide (t = s)) = true then acc else acc ++ [s]
theorem addB_pos {acc : List ByteArray} {s : ByteArray} (h : s ∈ acc) : addB acc s = acc := if_pos (List.any_eq_true.2 ⟨s, h, by simp⟩)
theorem addB_neg {acc : List ByteArray} {s : ByteArray} (h : ¬ s ∈ acc) : addB acc s = acc ++ [s] := if_neg (fun e => by
  obtain ⟨t, ht, hd⟩ := List.any_eq_true.1 e
  exact h ((of_decide_eq_true hd) ▸ ht))
/-- Texts, each once. -/
def dd (ss : List ByteArray) : List ByteArray := ss.foldl addB []
theorem dd_fold : ∀ (ss acc : List ByteArray), acc.Nodup → (ss.foldl addB acc).Nodup ∧ ∀ x, x ∈ ss.foldl addB acc ↔ x ∈ acc ∨ x ∈ ss
  | [], acc, h => ⟨h, fun x => by simp⟩
  | s :: ss, acc, h => by
    rw [List.foldl_cons]
    by_cases e : s ∈ acc
    · rw [addB_pos e]
      obtain ⟨h1, h2⟩ := dd_fold ss acc h
      refine ⟨h1, fun x => ?_⟩
      rw [h2 x, List.mem_cons]
      constructor
      · rintro (h | h)
        · exact .inl h
        · exact .inr (.inr h)
      · rintro (h | rfl | h)
        · exact .inl h
        · exact .inl e
        · exact .inr h
    · rw [addB_neg e]
      obtain ⟨h1, h2⟩ := dd_fold ss (acc ++ [s]) (List.nodup_append.2 ⟨h, by simp, fun a ha b hb => by simp at hb; subst hb; exact fun e' => e (e' ▸ ha)⟩)
      refine ⟨h1, fun x => ?_⟩
      rw [h2 x, List.mem_append, List.mem_singleton, List.mem_cons]
      constructor
      · rintro ((h | h) | h)
        · exact .inl h
        · exact .inr (.inl h)
        · exact .inr (.inr h)
      · rintro (h | h | h)
        · exact .inl (.inl h)
        · exact .inl (.inr h)
        · exact .inr h
theorem dd_nodup (ss : List ByteArray) : (dd ss).Nodup := (dd_fold ss [] List.nodup_nil).1
theorem dd_mem (ss : List ByteArray) (x : ByteArray) : x ∈ dd ss ↔ x ∈ ss := by
  have := (dd_fold ss [] List.nodup_nil).2 x
  unfold dd
  rw [this]; simp
theorem same_len {α : Type} {a b : List α} (ha : a.Nodup) (hb : b.Nodup) (h : ∀ x, x ∈ a ↔ x ∈ b) : a.length = b.length := ((List.perm_ext_iff_of_nodup ha hb).2 h).length_eq

abbrev keyL (s : ByteArray) : Lit := .string (kb (tf s))
/-- What the map holds behind these. -/
def tagD (ss : List ByteArray) : DataW Unit := setOf (.lit (.bool true)) (ss.map keyL)
theorem tagD_snoc (ss : List ByteArray) (s : ByteArray) : tagD (ss ++ [s]) = (tagD ss).put (keyL s) (.lit (.bool true)) := by
  unfold tagD
  rw [List.map_append]; exact setOf_snoc _ _ _
theorem keyL_lit (ss : List ByteArray) : ∀ x ∈ ss.map keyL, WideAt.IsKeyLit x := by
  intro x hx
  obtain ⟨s, _, rfl⟩ := List.mem_map.1 hx
  trivial
theorem same_str (a b : List UInt8) : (Lit.string a).sameKey (.string b) = decide (a = b) := by
  unfold Lit.sameKey
  rw [Bool.eq_iff_iff]; simp
theorem tagD_has (ss : List ByteArray) (hs : ∀ s ∈ ss, s.size ≤ 8) (kl : Lit) : Maps.has (tagD ss) kl = true ↔ ∃ s ∈ ss, kl = keyL s := by
  unfold tagD
  rw [has_setOf _ _ _ (keyL_lit ss), List.any_eq_true]
  constructor
  · rintro ⟨x, hx, hk⟩
    obtain ⟨s, hs', rfl⟩ := List.mem_map.1 hx
    refine ⟨s, hs', ?_⟩
    cases kl with
    | string b => rw [same_str] at hk; exact congrArg _ (of_decide_eq_true hk).symm
    | _ => simp [Lit.sameKey] at hk
  · rintro ⟨s, hs', rfl⟩
    exact ⟨keyL s, List.mem_map.2 ⟨s, hs', rfl⟩, by rw [same_str]; simp⟩
theorem addKey_fold : ∀ (xs acc : List Lit), (∀ x ∈ xs, WideAt.IsKeyLit x) → (∀ x ∈ acc, WideAt.IsKeyLit x) → acc.Nodup → (xs.foldl addKey acc).Nodup ∧ ∀ x, x ∈ xs.foldl addKey acc ↔ x ∈ acc ∨ x ∈ xs
  | [], acc, _, _, h => ⟨h, fun x => by simp⟩
  | s :: xs, acc, h1, h2, h => by
    rw [List.foldl_cons]
    unfold addKey
    have hsk := h1 s (by simp)
    have key : (acc.any fun y => y.sameKey s) = true ↔ s ∈ acc := by
      rw [List.any_eq_true]
      constructor
      · rintro ⟨y, hy, hk⟩
        have : y = s := WideAt.sameKey_eq hk
        exact this ▸ hy
      · exact fun hs => ⟨s, hs, WideAt.sameKey_self hsk⟩
    by_cases e : s ∈ acc
    · rw [if_pos (key.2 e)]
      obtain ⟨g1, g2⟩ := addKey_fold xs acc (fun x hx => h1 x (by simp [hx])) h2 h
      refine ⟨g1, fun x => ?_⟩
      rw [show xs.foldl (fun acc x => if (acc.any fun y => y.sameKey x) = true then acc else acc ++ [x]) acc = xs.foldl addKey acc from rfl, g2 x, List.mem_cons]
      constructor
      · rintro (h | h)
        · exact .inl h
        · exact .inr (.inr h)
      · rintro (h | rfl | h)
        · exact .inl h
        · exact .inl e
        · exact .inr h
    · rw [if_neg (fun h => e (key.1 h))]
      obtain ⟨g1, g2⟩ := addKey_fold xs (acc ++ [s]) (fun x hx => h1 x (by simp [hx])) (fun x hx => by
        rcases List.mem_append.1 hx with h | h
        · exact h2 x h
        · simp at h; subst h; exact hsk) (List.nodup_append.2 ⟨h, by simp, fun a ha b hb => by simp at hb; subst hb; exact fun e' => e (e' ▸ ha)⟩)
      refine ⟨g1, fun x => ?_⟩
      rw [show xs.foldl (fun acc x => if (acc.any fun y => y.sameKey x) = true then acc else acc ++ [x]) (acc ++ [s]) = xs.foldl addKey (acc ++ [s]) from rfl, g2 x, List.mem_append, List.mem_singleton, List.mem_cons]
      constructor
      · rintro ((h | h) | h)
        · exact .inl h
        · exact .inr (.inl h)
        · exact .inr (.inr h)
      · rintro (h | h | h)
        · exact .inl (.inl h)
        · exact .inl (.inr h)
        · exact .inr h
theorem tagD_size (ss : List ByteArray) (hs : ∀ s ∈ ss, s.size ≤ 8) : Maps.size (tagD ss) = (dd ss).length := by
  unfold tagD
  rw [size_setOf _ _ (keyL_lit ss)]
  obtain ⟨g1, g2⟩ := addKey_fold (ss.map keyL) [] (keyL_lit ss) (by simp) List.nodup_nil
  have h2 : ((dd ss).map keyL).Nodup := by
    refine List.pairwise_map.2 ((dd_nodup ss).imp_of_mem fun {a b} ha hb hne e => hne ?_)
    exact kb_inj a b (hs a ((dd_mem ss a).1 ha)) (hs b ((dd_mem ss b).1 hb)) (by injection e)
  rw [same_len g1 h2 (fun x => by
    rw [g2 x, List.mem_map, List.mem_map]
    constructor
    · rintro (h | ⟨s, h1, h2⟩)
      · simp at h
      · exact ⟨s, (dd_mem ss s).2 h1, h2⟩
    · rintro ⟨s, h1, h2⟩
      exact .inr ⟨s, (dd_mem ss s).1 h1, h2⟩), List.length_map]

/-- What has been collected: each once; those that are no longer to come. -/
def Coll (ss : List ByteArray) (left : Lit → Bool) (os : List ByteArray) : Prop := os.Nodup ∧ ∀ s, s ∈ os ↔ s ∈ ss ∧ left (keyL s) = false
theorem Coll.start (ss : List ByteArray) (hs : ∀ s ∈ ss, s.size ≤ 8) : Coll ss (Maps.has (tagD ss)) [] := ⟨List.nodup_nil, fun s => by
  constructor
  · intro h; simp at h
  · rintro ⟨h1, h2⟩
    rw [(tagD_has ss hs (keyL s)).2 ⟨s, h1, rfl⟩] at h2
    cases h2⟩
theorem Coll.step {ss : List ByteArray} {left : Lit → Bool} {os : List ByteArray} (h : Coll ss left os) (hs : ∀ s ∈ ss, s.size ≤ 8) (s : ByteArray) (hin : s ∈ ss) (hl : left (keyL s) = true) :
    Coll ss (fun z => left z && !z.sameKey (keyL s)) (os ++ [s]) := by
  have hnew : s ∉ os := fun hx => by have := ((h.2 s).1 hx).2; rw [hl] at this; cases this
  refine ⟨List.nodup_append.2 ⟨h.1, by simp, fun a ha b hb => by simp at hb; subst hb; exact fun e => hnew (e ▸ ha)⟩, fun x => ?_⟩
  rw [List.mem_append, List.mem_singleton, h.2 x]
  by_cases e : x = s
  · subst e
    simp [hin, same_str]
  · constructor
    · rintro (⟨h1, h2⟩ | h1)
      · exact ⟨h1, by show (left (keyL x) && !(keyL x).sameKey (keyL s)) = false; rw [h2]; rfl⟩
      · exact absurd h1 e
    · rintro ⟨h1, h2⟩
      refine .inl ⟨h1, ?_⟩
      have hk : (keyL x).sameKey (keyL s) = false := by
        rw [same_str]
        exact decide_eq_false (fun e' => e (kb_inj x s (hs x h1) (hs s hin) e'))
      change (left (keyL x) && !(keyL x).sameKey (keyL s)) = false at h2
      rw [hk] at h2
      simpa using h2
theorem Coll.all {ss : List ByteArray} {left : Lit → Bool} {os : List ByteArray} (h : Coll ss left os) (hl : ∀ kl, left kl = false) : ∀ s, s ∈ os ↔ s ∈ ss := fun s => by rw [h.2 s, hl]; simp
end Go.Proofs.Try
