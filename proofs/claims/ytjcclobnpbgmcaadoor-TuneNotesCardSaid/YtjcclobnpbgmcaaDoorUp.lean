/- Theory of stage 21: a window with a request more. -/
import Derived.Test.YtjcclobnpbgmcaaDoorUk
namespace Go.Proofs.Tryd
set_option linter.unusedVariables false
set_option linter.unusedSimpArgs false
/-- The window with the request, by one walk over it. -/
def insN (k : ByteArray) (z : Int) : List Sn → List Sn
  | [] => [(k, z, 1)]
  | s :: r => if ltK s.1 k = true then s :: insN k z r else if s.1 = k then (k, z, s.2.2 + 1) :: r else (k, z, 1) :: s :: r
def cnI (k : ByteArray) : List Sn → Int
  | [] => 0
  | s :: r => if ltK s.1 k = true then cnI k r else if s.1 = k then s.2.2 else 0
theorem posN_cons (s : Sn) (r : List Sn) (k : ByteArray) : posN (s :: r) k = if ltK s.1 k = true then posN r k + 1 else 0 := by
  unfold posN
  rw [List.takeWhile_cons]
  split <;> rfl
theorem atN_cons (s : Sn) (r : List Sn) (i : Nat) : atN (s :: r) (i + 1) = atN r i := by
  unfold atN
  simp [List.getD_eq_getElem?_getD]
theorem atN_head (s : Sn) (r : List Sn) : atN (s :: r) 0 = s := rfl
theorem fndN_cons (s : Sn) (r : List Sn) (k : ByteArray) : fndN (s :: r) k = if ltK s.1 k = true then fndN r k else decide (s.1 = k) := by
  unfold fndN
  rw [posN_cons]
  split
  · rw [atN_cons, List.length_cons]
    simp
  · rw [atN_head, List.length_cons]
    simp
theorem updN_ins (k : ByteArray) (z : Int) : ∀ l : List Sn, updN l k z = insN k z l
  | [] => by
    unfold updN fndN posN insN
    simp
  | s :: r => by
    have ih := updN_ins k z r
    unfold updN at ih ⊢
    unfold insN
    rw [fndN_cons, posN_cons]
    by_cases h : ltK s.1 k = true
    · simp only [if_pos h]
      rw [← ih]
      by_cases hf : fndN r k = true
      · simp only [if_pos hf]
        rw [atN_cons, List.set_cons_succ]
      · simp only [if_neg hf]
        rw [List.take_succ_cons, List.drop_succ_cons]
        rfl
    · simp only [if_neg h]
      by_cases hk : s.1 = k
      · simp only [decide_eq_true hk, if_true, if_pos hk]
        rw [atN_head, List.set_cons_zero, hk]
      · simp only [decide_eq_false hk, if_neg hk]
        simp
theorem ltK_asym {a b : ByteArray} (h : ltK a b = true) : ltK b a = false := by
  cases h2 : ltK b a with
  | false => rfl
  | true => have := ltK_trans h h2; rw [ltK_irrefl] at this; cases this
theorem ltK_ne {a b : ByteArray} (h : ltK a b = true) : a ≠ b := by
  rintro rfl
  rw [ltK_irrefl] at h; cases h
theorem ltK_le {a b c : ByteArray} (h1 : ltK a b = true) (h2 : ltK c b = false) : ltK a c = true := by
  by_cases e : c = b
  · rw [e]; exact h1
  · exact ltK_trans h1 (ltK_tri h2 e)
theorem ins_comm {a b : ByteArray} (hab : a ≠ b) (n m : Int) : ∀ l : List Sn, insN b m (insN a n l) = insN a n (insN b m l)
  | [] => by
    cases h : ltK a b with
    | true => simp [insN, h, ltK_asym h, hab, hab.symm]
    | false => simp [insN, h, ltK_tri h hab, hab, hab.symm]
  | s :: r => by
    have ih := ins_comm hab n m r
    by_cases h1 : ltK s.1 a = true
    · by_cases h2 : ltK s.1 b = true
      · simp only [insN, h1, h2, if_true]
        rw [ih]
      · by_cases h3 : s.1 = b
        · subst h3
          simp [insN, h1, h2]
        · have h4 := ltK_tri (by simpa using h2) h3
          have h5 := ltK_trans h4 h1
          simp [insN, h1, h2, h3, h4, h5]
    · by_cases h0 : s.1 = a
      · subst h0
        by_cases h2 : ltK s.1 b = true
        · simp [insN, h1, h2]
        · have h4 := ltK_tri (by simpa using h2) hab
          simp [insN, h1, h2, hab, h4]
      · have h6 := ltK_tri (by simpa using h1) h0
        by_cases h2 : ltK s.1 b = true
        · have h5 := ltK_trans h6 h2
          simp [insN, h1, h2, h0, h5]
        · by_cases h3 : s.1 = b
          · subst h3
            simp [insN, h1, h2, h0, h6]
          · have h4 := ltK_tri (by simpa using h2) h3
            cases h : ltK a b with
            | true => simp [insN, h1, h2, h0, h3, h, ltK_asym h, hab, hab.symm]
            | false => simp [insN, h1, h2, h0, h3, h, ltK_tri h hab, hab, hab.symm]
theorem cnI_ins {a b : ByteArray} (hab : a ≠ b) (n : Int) : ∀ l : List Sn, cnI b (insN a n l) = cnI b l
  | [] => by
    simp [insN, cnI, hab]
  | s :: r => by
    have ih := cnI_ins hab n r
    by_cases h1 : ltK s.1 a = true
    · simp only [insN, h1, if_true, cnI]
      rw [ih]
    · by_cases h0 : s.1 = a
      · subst h0
        simp [insN, h1, cnI, hab]
      · have h6 := ltK_tri (by simpa using h1) h0
        by_cases h : ltK a b = true
        · simp [insN, h1, h0, cnI, h]
        · have h7 := ltK_tri (by simpa using h) hab
          have h8 := ltK_trans h7 h6
          have h9 := ltK_asym h8
          have h10 := (ltK_ne h8).symm
          simp [insN, h1, h0, cnI, h, hab, h9, h10]
theorem ins_len (k : ByteArray) (z : Int) : ∀ l : List Sn, l.length ≤ (insN k z l).length ∧ (insN k z l).length ≤ l.length + 1
  | [] => by simp [insN]
  | s :: r => by
    have ih := ins_len k z r
    unfold insN
    split
    · simp only [List.length_cons]; omega
    · split <;> simp only [List.length_cons] <;> omega
theorem ins_mem (k : ByteArray) (z : Int) (t : Sn) : ∀ l : List Sn, t ∈ insN k z l → t = (k, z, cnI k l + 1) ∨ t ∈ l
  | [], h => by
    unfold insN at h
    rw [List.mem_singleton] at h
    exact .inl (by rw [h]; rfl)
  | s :: r, h => by
    unfold insN at h
    unfold cnI
    split at h
    · rename_i h1
      rw [if_pos h1]
      rcases List.mem_cons.1 h with h | h
      · exact .inr (List.mem_cons.2 (.inl h))
      · rcases ins_mem k z t r h with h | h
        · exact .inl h
        · exact .inr (List.mem_cons.2 (.inr h))
    · rename_i h1
      rw [if_neg h1]
      split at h
      · rename_i h2
        rw [if_pos h2]
        rcases List.mem_cons.1 h with h | h
        · exact .inl h
        · exact .inr (List.mem_cons.2 (.inr h))
      · rename_i h2
        rw [if_neg h2]
        rcases List.mem_cons.1 h with h | h
        · exact .inl (by rw [h]; rfl)
        · exact .inr h
theorem ins_has (k : ByteArray) (z : Int) : ∀ l : List Sn, (k, z, cnI k l + 1) ∈ insN k z l
  | [] => by simp [insN, cnI]
  | s :: r => by
    have ih := ins_has k z r
    unfold insN cnI
    split
    · exact List.mem_cons.2 (.inr ih)
    · split
      · exact List.mem_cons.2 (.inl rfl)
      · exact List.mem_cons.2 (.inl rfl)
/-- Keys rise. -/
def srtN (l : List Sn) : Prop := l.Pairwise fun s t => ltK s.1 t.1 = true
theorem ins_srt (k : ByteArray) (z : Int) : ∀ l : List Sn, srtN l → srtN (insN k z l)
  | [], h => by unfold insN srtN; simp
  | s :: r, h => by
    obtain ⟨h1, h2⟩ := List.pairwise_cons.1 h
    have ih := ins_srt k z r h2
    unfold insN
    split
    · rename_i h3
      refine List.pairwise_cons.2 ⟨fun t ht => ?_, ih⟩
      rcases ins_mem k z t r ht with h4 | h4
      · rw [h4]; exact h3
      · exact h1 t h4
    · rename_i h3
      split
      · rename_i h4
        subst h4
        exact List.pairwise_cons.2 ⟨h1, h2⟩
      · rename_i h4
        have h5 := ltK_tri (by simpa using h3) h4
        refine List.pairwise_cons.2 ⟨fun t ht => ?_, h⟩
        rcases List.mem_cons.1 ht with rfl | ht
        · exact h5
        · exact ltK_trans h5 (h1 t ht)
def okV (s : Sn) : Bool := inB s.2.1 1 4096 && inB s.2.2 1 1000
theorem atN_mem {l : List Sn} {i : Nat} (h : i < l.length) : atN l i ∈ l := List.mem_of_getElem? (atN_some h)
theorem chk_is (l : List Sn) : chkN l = true ↔ l.length ≤ 1000 ∧ srtN l ∧ ∀ s ∈ l, okV s = true := by
  constructor
  · intro h
    refine ⟨(chkN_iff.1 h).1, ?_, fun s hs => ?_⟩
    · refine List.pairwise_iff_getElem.2 fun i j hi hj hij => ?_
      have h1 := chk_rise h (j - i - 1) i (by omega)
      rw [show i + (j - i - 1 + 1) = j by omega] at h1
      have e1 : atN l i = l[i] := by unfold atN; rw [List.getD_eq_getElem?_getD, List.getElem?_eq_getElem hi]; rfl
      have e2 : atN l j = l[j] := by unfold atN; rw [List.getD_eq_getElem?_getD, List.getElem?_eq_getElem hj]; rfl
      rw [e1, e2] at h1
      exact h1
    · obtain ⟨i, hi, he⟩ := List.getElem_of_mem hs
      have h1 := (chkN_iff.1 h).2 i hi
      have e1 : atN l i = l[i] := by unfold atN; rw [List.getD_eq_getElem?_getD, List.getElem?_eq_getElem hi]; rfl
      unfold okAt at h1
      rw [e1, he] at h1
      unfold okV
      simp only [Bool.and_eq_true] at h1 ⊢
      exact ⟨h1.1.2, h1.2⟩
  · rintro ⟨h1, h2, h3⟩
    refine chkN_iff.2 ⟨h1, fun i hi => ?_⟩
    have h4 := h3 _ (atN_mem hi)
    unfold okV at h4
    unfold okAt
    simp only [Bool.and_eq_true, Bool.or_eq_true, decide_eq_true_eq] at h4 ⊢
    refine ⟨⟨?_, h4.1⟩, h4.2⟩
    by_cases e : i = 0
    · exact .inl e
    · right
      have e1 : atN l (i - 1) = l[i - 1]'(by omega) := by unfold atN; rw [List.getD_eq_getElem?_getD, List.getElem?_eq_getElem (by omega)]; rfl
      have e2 : atN l i = l[i] := by unfold atN; rw [List.getD_eq_getElem?_getD, List.getElem?_eq_getElem hi]; rfl
      rw [e1, e2]
      exact List.pairwise_iff_getElem.1 h2 (i - 1) i (by omega) hi (by omega)
/-- Is the request not refused? -/
def okU (l : List Sn) (k : ByteArray) (z : Int) : Bool := okV (k, z, cnI k l + 1)
theorem chk_ins {l : List Sn} (h : chkN l = true) (hl : l.length < 1000) (k : ByteArray) (z : Int) : chkN (insN k z l) = okU l k z := by
  obtain ⟨h1, h2, h3⟩ := (chk_is l).1 h
  rw [Bool.eq_iff_iff]
  constructor
  · intro h4
    exact ((chk_is _).1 h4).2.2 _ (ins_has k z l)
  · intro h4
    refine (chk_is _).2 ⟨by have := (ins_len k z l).2; omega, ins_srt k z l h2, fun s hs => ?_⟩
    rcases ins_mem k z s l hs with rfl | h5
    · exact h4
    · exact h3 s h5
theorem note_is {l : List Sn} (h : chkN l = true) (hl : l.length < 1000) (k : ByteArray) (z : Int) : noteN l k z = if okU l k z = true then insN k z l else l := by
  unfold noteN
  rw [if_pos h, updN_ins, chk_ins h hl]
theorem note_chk {l : List Sn} (h : chkN l = true) (hl : l.length < 1000) (k : ByteArray) (z : Int) : chkN (noteN l k z) = true := by
  rw [note_is h hl]
  split
  · rename_i h1
    rw [chk_ins h hl]; exact h1
  · exact h
theorem note_len {l : List Sn} (h : chkN l = true) (hl : l.length < 1000) (k : ByteArray) (z : Int) : l.length ≤ (noteN l k z).length ∧ (noteN l k z).length ≤ l.length + 1 := by
  rw [note_is h hl]
  split
  · exact ins_len k z l
  · omega
theorem note_turns {l : List Sn} (h : chkN l = true) (hl : l.length < 900) {a b : ByteArray} (hab : a ≠ b) (n m : Int) : noteN (noteN l a n) b m = noteN (noteN l b m) a n := by
  have hla := note_len h (by omega) a n
  have hlb := note_len h (by omega) b m
  rw [note_is (note_chk h (by omega) a n) (by omega) b m, note_is (note_chk h (by omega) b m) (by omega) a n]
  rw [note_is h (by omega) a n, note_is h (by omega) b m]
  have e1 : okU (insN a n l) b m = okU l b m := by unfold okU; rw [cnI_ins hab]
  have e2 : okU (insN b m l) a n = okU l a n := by unfold okU; rw [cnI_ins hab.symm]
  cases ha : okU l a n with
  | true =>
    cases hb : okU l b m with
    | true => simp only [if_true, e1, e2, ha, hb]; exact ins_comm hab n m l
    | false => simp [e1, ha, hb]
  | false =>
    cases hb : okU l b m with
    | true => simp [e2, ha, hb]
    | false => simp [ha, hb]
end Go.Proofs.Tryd
