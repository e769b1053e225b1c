/- Stage 11, in theory: segments; which slot is next (seekL); taken, given back; how many bytes. -/
import Derived.Test.YtempamkacnjhjaaDoorBase
namespace Go.Proofs.Tryd
set_option linter.unusedVariables false
/-- A segment: its class, and which of its slots are taken. -/
abbrev Sg := Int × Nat
def slN (c : Int) : Nat := if c = 0 then 64 else if c = 1 then 32 else if c = 2 then 16 else if c = 3 then 8 else 0
def byN (c : Int) : Nat := if c = 0 then 8 else if c = 1 then 16 else if c = 2 then 32 else if c = 3 then 64 else 0
def okS (s : Sg) : Prop := (s.1 = -1 ∧ s.2 = 0) ∨ (s.1 ≠ -1 ∧ slN s.1 ≠ 0 ∧ s.2 ≠ 0 ∧ s.2 < 2 ^ slN s.1)
instance (s : Sg) : Decidable (okS s) := by unfold okS; infer_instance
def chkL (l : List Sg) : Prop := l.length ≤ 200 ∧ ∀ s, s ∈ l → okS s
instance (l : List Sg) : Decidable (chkL l) := by unfold chkL; infer_instance
def at' (l : List Sg) (i : Nat) : Sg := l.getD i (-1, 0)
/-- Is that slot taken? -/
def tkL (l : List Sg) (i k : Nat) : Bool := (at' l i).2.testBit k
/-- The least place that is not 1 (64: there is none). -/
def lz (u : Nat) : Nat → Nat
  | 0 => 64
  | n + 1 => if u.testBit (63 - n) then lz u n else 63 - n
theorem lz_le (u : Nat) : ∀ n, n ≤ 64 → lz u n ≤ 64
  | 0, _ => Nat.le_refl _
  | n + 1, h => by rw [lz]; split; exact lz_le u n (by omega); omega
theorem lz_free (u : Nat) : ∀ n, n ≤ 64 → lz u n < 64 → u.testBit (lz u n) = false
  | 0, _, h => by unfold lz at h; omega
  | n + 1, hn, h => by
    rw [lz] at h ⊢
    split
    · rename_i hb; rw [if_pos hb] at h; exact lz_free u n (by omega) h
    · rename_i hb; simpa using hb
theorem lz_below (u : Nat) : ∀ n, n ≤ 64 → ∀ k, 64 - n ≤ k → k < lz u n → u.testBit k = true
  | 0, _, k, h1, h2 => by unfold lz at h2; omega
  | n + 1, hn, k, h1, h2 => by
    rw [lz] at h2
    split at h2
    · rename_i hb
      by_cases hk : k = 63 - n
      · rw [hk]; exact hb
      · exact lz_below u n (by omega) k (by omega) h2
    · omega
/-- The slot that is taken next, from the i-th segment on. -/
def seekF (l : List Sg) (c : Int) : Nat → Option (Nat × Nat)
  | i => match l with
    | [] => none
    | s :: r => if s.1 = c ∧ lz s.2 64 < slN c then some (i, lz s.2 64) else seekF r c (i + 1)
def freeF (l : List Sg) : Nat → Option (Nat × Nat)
  | i => match l with
    | [] => none
    | s :: r => if s.1 = -1 then some (i, 0) else freeF r (i + 1)
def seekL (l : List Sg) (c : Int) : Option (Nat × Nat) := match seekF l c 0 with
  | some p => some p
  | none => freeF l 0
theorem seekF_some (c : Int) : ∀ (l : List Sg) (j i k : Nat), seekF l c j = some (i, k) → j ≤ i ∧ i - j < l.length ∧ (at' l (i - j)).1 = c ∧ k = lz (at' l (i - j)).2 64 ∧ k < slN c ∧ ∀ m, m < i - j → ¬((at' l m).1 = c ∧ lz (at' l m).2 64 < slN c)
  | [], j, i, k, h => by simp [seekF] at h
  | s :: r, j, i, k, h => by
    rw [seekF] at h
    split at h
    · rename_i hc
      injection h with h
      injection h with h1 h2
      subst h1 h2
      refine ⟨Nat.le_refl _, by simp, ?_, ?_, hc.2, fun m hm => by omega⟩ <;> simp [at', hc.1]
    · rename_i hc
      obtain ⟨a, b, e, f, g, o⟩ := seekF_some c r (j + 1) i k h
      have en : i - j = (i - (j + 1)) + 1 := by omega
      rw [en]
      refine ⟨by omega, by simp; omega, ?_, ?_, g, fun m hm => ?_⟩
      · simpa [at'] using e
      · simpa [at'] using f
      · cases m with
        | zero => simpa [at'] using hc
        | succ m => have := o m (by omega); simpa [at'] using this
theorem seekF_none (c : Int) : ∀ (l : List Sg) (j : Nat), seekF l c j = none → ∀ m, m < l.length → ¬((at' l m).1 = c ∧ lz (at' l m).2 64 < slN c)
  | [], _, _, m, hm => by simp at hm
  | s :: r, j, h, m, hm => by
    rw [seekF] at h
    split at h
    · cases h
    · rename_i hc
      cases m with
      | zero => simpa [at'] using hc
      | succ m => have := seekF_none c r (j + 1) h m (by simpa using hm); simpa [at'] using this
theorem freeF_some : ∀ (l : List Sg) (j i k : Nat), freeF l j = some (i, k) → j ≤ i ∧ i - j < l.length ∧ (at' l (i - j)).1 = -1 ∧ k = 0 ∧ ∀ m, m < i - j → (at' l m).1 ≠ -1
  | [], j, i, k, h => by simp [freeF] at h
  | s :: r, j, i, k, h => by
    rw [freeF] at h
    split at h
    · rename_i hc
      injection h with h
      injection h with h1 h2
      subst h1 h2
      refine ⟨Nat.le_refl _, by simp, ?_, rfl, fun m hm => by omega⟩
      simp [at', hc]
    · rename_i hc
      obtain ⟨a, b, e, f, o⟩ := freeF_some r (j + 1) i k h
      have en : i - j = (i - (j + 1)) + 1 := by omega
      rw [en]
      refine ⟨by omega, by simp; omega, ?_, f, fun m hm => ?_⟩
      · simpa [at'] using e
      · cases m with
        | zero => simpa [at'] using hc
        | succ m => have := o m (by omega); simpa [at'] using this
theorem freeF_none : ∀ (l : List Sg) (j : Nat), freeF l j = none → ∀ m, m < l.length → (at' l m).1 ≠ -1
  | [], _, _, m, hm => by simp at hm
  | s :: r, j, h, m, hm => by
    rw [freeF] at h
    split at h
    · cases h
    · rename_i hc
      cases m with
      | zero => simpa [at'] using hc
      | succ m => have := freeF_none r (j + 1) h m (by simpa using hm); simpa [at'] using this
/-- With the slot taken. -/
def putL (l : List Sg) (c : Int) (i k : Nat) : List Sg := l.set i (c, (at' l i).2 ||| 2 ^ k)
/-- With the slot given back. -/
def delS (s : Sg) (k : Nat) : Sg := if s.2 ^^^ 2 ^ k = 0 then (-1, 0) else (s.1, s.2 ^^^ 2 ^ k)
def delL (l : List Sg) (i k : Nat) : List Sg := l.set i (delS (at' l i) k)
theorem at_set (l : List Sg) (i j : Nat) (s : Sg) (hi : i < l.length) : at' (l.set i s) j = if j = i then s else at' l j := by
  unfold at'
  rw [List.getD_eq_getElem?_getD, List.getD_eq_getElem?_getD, List.getElem?_set]
  by_cases h : i = j
  · subst h; simp [hi]
  · rw [if_neg h, if_neg (fun e => h e.symm)]
theorem or_bit (u k j : Nat) : (u ||| 2 ^ k).testBit j = (u.testBit j || decide (k = j)) := by
  rw [Nat.testBit_or, Nat.testBit_two_pow]
theorem xor_bit (u k j : Nat) : (u ^^^ 2 ^ k).testBit j = (u.testBit j ^^ decide (k = j)) := by
  rw [Nat.testBit_xor, Nat.testBit_two_pow]
theorem or_xor (u k : Nat) (h : u.testBit k = false) : (u ||| 2 ^ k) ^^^ 2 ^ k = u := by
  apply Nat.eq_of_testBit_eq
  intro j
  rw [xor_bit, or_bit]
  by_cases hj : k = j
  · subst hj; simp [h]
  · simp [hj]
theorem ok_free (s : Sg) (h : okS s) (hb : s.1 = -1) : s = (-1, 0) := by
  unfold okS at h
  obtain ⟨a, b⟩ := s
  simp at h hb ⊢
  omega
theorem ok_at (l : List Sg) (h : chkL l) (i : Nat) (hi : i < l.length) : okS (at' l i) := by
  apply h.2
  unfold at'
  rw [List.getD_eq_getElem?_getD, List.getElem?_eq_getElem hi]
  exact List.getElem_mem _
theorem slN_le (c : Int) : slN c ≤ 64 := by
  unfold slN
  repeat' split
  all_goals omega
/-- What a slot taken next is: of the class, or of a free segment's first place; it is not taken; taken and given back all is as it was. -/
theorem seek_is (l : List Sg) (c : Int) (h : chkL l) (hc : slN c ≠ 0) (i k : Nat) (hs : seekL l c = some (i, k)) :
    i < l.length ∧ k < slN c ∧ tkL l i k = false ∧ ((at' l i).1 = c ∨ at' l i = (-1, 0) ∧ k = 0) := by
  unfold seekL at hs
  have hc1 : c ≠ -1 := fun e => hc (by rw [e]; rfl)
  cases hf : seekF l c 0 with
  | some p =>
    rw [hf] at hs
    simp at hs
    subst hs
    obtain ⟨a, b, e, f, g, o⟩ := seekF_some c l 0 i k hf
    have h64 := slN_le c
    simp only [Nat.sub_zero] at b e f o
    refine ⟨by simpa using b, g, ?_, .inl (by simpa using e)⟩
    unfold tkL
    rw [f]
    exact lz_free _ 64 (by omega) (by rw [← f]; omega)
  | none =>
    rw [hf] at hs
    simp at hs
    obtain ⟨a, b, e, f, o⟩ := freeF_some l 0 i k hs
    have e' := ok_free _ (ok_at l h i (by simpa using b)) (by simpa using e)
    refine ⟨by simpa using b, by omega, ?_, .inr ⟨e', f⟩⟩
    unfold tkL
    rw [e']
    simp
theorem put_ok (l : List Sg) (c : Int) (h : chkL l) (hc : slN c ≠ 0) (i k : Nat) (hi : i < l.length) (hk : k < slN c) (hs : (at' l i).1 = c ∨ at' l i = (-1, 0) ∧ k = 0) : chkL (putL l c i k) := by
  have hc1 : c ≠ -1 := fun e => hc (by rw [e]; rfl)
  refine ⟨by unfold putL; rw [List.length_set]; exact h.1, fun s hs' => ?_⟩
  unfold putL at hs'
  rcases List.mem_or_eq_of_mem_set hs' with hm | rfl
  · exact h.2 s hm
  · right
    refine ⟨hc1, hc, ?_, ?_⟩
    · intro e
      have := or_bit (at' l i).2 k k
      simp only at e
      rw [e] at this
      simp at this
    · show (at' l i).2 ||| 2 ^ k < 2 ^ slN c
      apply Nat.or_lt_two_pow
      · rcases hs with e | ⟨e, _⟩
        · rcases ok_at l h i hi with ⟨a, b⟩ | ⟨a, b, d, f⟩
          · omega
          · rw [← e]; exact f
        · rw [e]; exact Nat.two_pow_pos _
      · exact Nat.pow_lt_pow_right (by omega) hk
theorem put_del (l : List Sg) (c : Int) (h : chkL l) (hc : slN c ≠ 0) (i k : Nat) (hi : i < l.length) (hn : tkL l i k = false) (hs : (at' l i).1 = c ∨ at' l i = (-1, 0) ∧ k = 0) : delL (putL l c i k) i k = l := by
  have hc1 : c ≠ -1 := fun e => hc (by rw [e]; rfl)
  have ha : at' (putL l c i k) i = (c, (at' l i).2 ||| 2 ^ k) := by unfold putL; rw [at_set _ _ _ _ hi, if_pos rfl]
  unfold delL
  rw [ha]
  unfold delS
  simp only
  rw [or_xor _ _ hn]
  unfold putL
  rw [List.set_set]
  have hself : ∀ s, s = at' l i → l.set i s = l := by
    intro s e
    subst e
    apply List.ext_getElem?
    intro j
    rw [List.getElem?_set]
    by_cases hj : i = j
    · subst hj
      rw [if_pos rfl, if_pos hi]
      unfold at'
      rw [List.getD_eq_getElem?_getD, List.getElem?_eq_getElem hi]
      rfl
    · rw [if_neg hj]
  apply hself
  rcases hs with e | ⟨e, _⟩
  · rcases ok_at l h i hi with ⟨a, b⟩ | ⟨a, b, d, f⟩
    · omega
    · rw [if_neg d, ← e]
  · rw [e]; rfl
theorem put_tk (l : List Sg) (c : Int) (i k j m : Nat) (hi : i < l.length) : tkL (putL l c i k) j m = (tkL l j m || decide (j = i ∧ m = k)) := by
  unfold tkL putL
  rw [at_set _ _ _ _ hi]
  by_cases hj : j = i
  · subst hj
    rw [if_pos rfl, or_bit]
    congr 1
    simp only [true_and, eq_comm]
  · simp [hj]
theorem del_tk (l : List Sg) (i k j m : Nat) (hi : i < l.length) (ht : tkL l i k = true) : tkL (delL l i k) j m = (tkL l j m && !decide (j = i ∧ m = k)) := by
  unfold tkL at *
  unfold delL
  rw [at_set _ _ _ _ hi]
  by_cases hj : j = i
  · subst hj
    rw [if_pos rfl]
    have hx := xor_bit (at' l j).2 k m
    have e : (delS (at' l j) k).2 = (at' l j).2 ^^^ 2 ^ k := by
      unfold delS
      split
      · rename_i h; rw [h]
      · rfl
    rw [e, hx]
    by_cases hm : k = m
    · subst hm; simp [ht]
    · simp [hm]
      exact fun _ e => hm e.symm
  · simp [hj]
theorem del_ok (l : List Sg) (h : chkL l) (i k : Nat) (hi : i < l.length) (ht : tkL l i k = true) : chkL (delL l i k) := by
  refine ⟨by unfold delL; rw [List.length_set]; exact h.1, fun s hs' => ?_⟩
  unfold delL at hs'
  rcases List.mem_or_eq_of_mem_set hs' with hm | rfl
  · exact h.2 s hm
  · unfold delS
    split
    · exact .inl ⟨rfl, rfl⟩
    · rename_i hne
      have ho := ok_at l h i hi
      unfold tkL at ht
      rcases ho with ⟨a, b⟩ | ⟨a, b, d, f⟩
      · rw [b] at ht; simp at ht
      · refine .inr ⟨a, b, hne, ?_⟩
        apply Nat.xor_lt_two_pow f
        apply Nat.pow_lt_pow_right (by omega)
        apply Nat.lt_of_not_le
        intro hk
        rw [Nat.testBit_lt_two_pow (Nat.lt_of_lt_of_le f (Nat.pow_le_pow_right (by omega) hk))] at ht
        cases ht
/-- How many places below n are 1. -/
def pc (u : Nat) : Nat → Nat
  | 0 => 0
  | n + 1 => pc u n + if u.testBit n then 1 else 0
theorem pc_le (u : Nat) : ∀ n, pc u n ≤ n
  | 0 => Nat.le_refl _
  | n + 1 => by have := pc_le u n; rw [pc]; split <;> omega
theorem pc_zero : ∀ n, pc 0 n = 0
  | 0 => rfl
  | n + 1 => by rw [pc, pc_zero n]; simp
theorem pc_or (u k : Nat) (h : u.testBit k = false) : ∀ n, pc (u ||| 2 ^ k) n = pc u n + if k < n then 1 else 0
  | 0 => by simp [pc]
  | n + 1 => by
    rw [pc, pc, pc_or u k h n, or_bit]
    by_cases hk : k = n
    · subst hk
      simp [h]
    · have e : decide (k = n) = false := by simp [hk]
      rw [e, Bool.or_false]
      by_cases h2 : k < n
      · rw [if_pos h2, if_pos (show k < n + 1 by omega)]; omega
      · rw [if_neg h2, if_neg (show ¬k < n + 1 by omega)]; omega
/-- How many bytes are taken. -/
def byS (s : Sg) : Nat := pc s.2 64 * byN s.1
def tknL (l : List Sg) : Nat := (l.map byS).sum
def heldL (l : List Sg) : Nat := (l.map fun s => if s.1 = -1 then 0 else 512).sum
theorem sum_set (f : Sg → Nat) : ∀ (l : List Sg) (i : Nat) (s : Sg), i < l.length → ((l.set i s).map f).sum + f (at' l i) = (l.map f).sum + f s
  | [], i, s, h => by simp at h
  | a :: r, 0, s, _ => by simp [at']; omega
  | a :: r, i + 1, s, h => by
    have := sum_set f r i s (by simpa using h)
    have e : at' (a :: r) (i + 1) = at' r i := by simp [at']
    rw [e]
    simp only [List.set_cons_succ, List.map_cons, List.sum_cons]
    omega
theorem tkn_put (l : List Sg) (c : Int) (i k : Nat) (hi : i < l.length) (hk : k < 64) (hn : tkL l i k = false) (hs : (at' l i).1 = c ∨ at' l i = (-1, 0) ∧ k = 0) : tknL (putL l c i k) = tknL l + byN c := by
  have := sum_set byS l i (c, (at' l i).2 ||| 2 ^ k) hi
  unfold tknL putL
  have e1 : byS (c, (at' l i).2 ||| 2 ^ k) = (pc (at' l i).2 64 + 1) * byN c := by
    unfold byS
    simp only
    rw [pc_or _ _ hn, if_pos hk]
  have e2 : byS (at' l i) = pc (at' l i).2 64 * byN c := by
    unfold byS
    rcases hs with e | ⟨e, _⟩
    · rw [e]
    · rw [e]; simp [pc_zero]
  rw [e1, e2, Nat.add_mul] at this
  omega
theorem del_put (s : Sg) (k : Nat) (ht : s.2.testBit k = true) : (s.2 ^^^ 2 ^ k) ||| 2 ^ k = s.2 ∧ (s.2 ^^^ 2 ^ k).testBit k = false := by
  constructor
  · apply Nat.eq_of_testBit_eq
    intro j
    rw [or_bit, xor_bit]
    by_cases hj : k = j
    · subst hj; simp [ht]
    · simp [hj]
  · rw [xor_bit]; simp [ht]
theorem tkn_del (l : List Sg) (i k : Nat) (hi : i < l.length) (hk : k < 64) (ht : tkL l i k = true) : tknL (delL l i k) + byN (at' l i).1 = tknL l := by
  have := sum_set byS l i (delS (at' l i) k) hi
  unfold tknL delL
  obtain ⟨d1, d2⟩ := del_put (at' l i) k ht
  have p := pc_or _ _ d2 64
  rw [d1, if_pos hk] at p
  have e1 : byS (delS (at' l i) k) = pc ((at' l i).2 ^^^ 2 ^ k) 64 * byN (at' l i).1 := by
    unfold byS delS
    split
    · rename_i h; rw [h]; simp [pc_zero]
    · rfl
  have e2 : byS (at' l i) = (pc ((at' l i).2 ^^^ 2 ^ k) 64 + 1) * byN (at' l i).1 := by unfold byS; rw [p]
  rw [e1, e2, Nat.add_mul] at this
  omega
theorem tk_lt (l : List Sg) (h : chkL l) (i k : Nat) (ht : tkL l i k = true) : i < l.length ∧ k < slN (at' l i).1 ∧ (at' l i).1 ≠ -1 := by
  unfold tkL at ht
  have hi : i < l.length := by
    apply Nat.lt_of_not_le
    intro hle
    unfold at' at ht
    rw [List.getD_eq_getElem?_getD, List.getElem?_eq_none hle] at ht
    simp at ht
  rcases ok_at l h i hi with ⟨a, b⟩ | ⟨a, b, d, f⟩
  · rw [b] at ht; simp at ht
  · refine ⟨hi, ?_, a⟩
    apply Nat.lt_of_not_le
    intro hk
    rw [Nat.testBit_lt_two_pow (Nat.lt_of_lt_of_le f (Nat.pow_le_pow_right (by omega) hk))] at ht
    cases ht
theorem delS_two (s : Sg) (k m : Nat) (hne : k ≠ m) (h1 : s.2.testBit k = true) (h2 : s.2.testBit m = true) : delS (delS s k) m = (if s.2 ^^^ 2 ^ k ^^^ 2 ^ m = 0 then (-1, 0) else (s.1, s.2 ^^^ 2 ^ k ^^^ 2 ^ m)) := by
  have e : s.2 ^^^ 2 ^ k ≠ 0 := by
    intro e
    have := xor_bit s.2 k m
    rw [e, h2] at this
    simp [hne] at this
  unfold delS
  rw [if_neg e]
theorem del_comm (l : List Sg) (h : chkL l) (i k j m : Nat) (hne : ¬(i = j ∧ k = m)) (h1 : tkL l i k = true) (h2 : tkL l j m = true) : delL (delL l i k) j m = delL (delL l j m) i k := by
  obtain ⟨hi, _⟩ := tk_lt l h i k h1
  obtain ⟨hj, _⟩ := tk_lt l h j m h2
  unfold delL
  rw [at_set _ _ _ _ hi, at_set _ _ _ _ hj]
  by_cases e : i = j
  · subst e
    rw [if_pos rfl, if_pos rfl, List.set_set, List.set_set]
    have hkm : k ≠ m := fun e => hne ⟨rfl, e⟩
    rw [delS_two _ k m hkm h1 h2, delS_two _ m k (Ne.symm hkm) h2 h1]
    have ec : (at' l i).2 ^^^ 2 ^ k ^^^ 2 ^ m = (at' l i).2 ^^^ 2 ^ m ^^^ 2 ^ k := by
      rw [Nat.xor_assoc, Nat.xor_comm (2 ^ k), ← Nat.xor_assoc]
    rw [ec]
  · rw [if_neg (Ne.symm e), if_neg e, List.set_comm _ _ e]
theorem held_ge (l : List Sg) (h : chkL l) : tknL l ≤ heldL l := by
  unfold tknL heldL
  have : ∀ (r : List Sg), (∀ s, s ∈ r → okS s) → (r.map byS).sum ≤ (r.map fun s => if s.1 = -1 then 0 else 512).sum := by
    intro r
    induction r with
    | nil => intro _; simp
    | cons s r ih =>
      intro hr
      have i1 := ih (fun x hx => hr x (List.mem_cons_of_mem _ hx))
      have i2 : byS s ≤ if s.1 = -1 then 0 else 512 := by
        rcases hr s (List.mem_cons_self ..) with ⟨a, b⟩ | ⟨a, b, d, f⟩
        · unfold byS; rw [b, pc_zero]; simp
        · rw [if_neg a]
          have hp : ∀ n, slN s.1 ≤ n → pc s.2 n ≤ slN s.1 := by
            intro n
            induction n with
            | zero => intro hn; have := pc_le s.2 0; omega
            | succ n ihn =>
              intro hn
              by_cases hq : slN s.1 = n + 1
              · rw [hq]; exact pc_le _ _
              · rw [pc, Nat.testBit_lt_two_pow (Nat.lt_of_lt_of_le f (Nat.pow_le_pow_right (by omega) (show slN s.1 ≤ n by omega)))]
                have := ihn (by omega)
                simpa using this
          have hq := hp 64 (slN_le _)
          have hm := Nat.mul_le_mul_right (byN s.1) hq
          have hb : slN s.1 * byN s.1 ≤ 512 := by
            unfold slN byN
            repeat' split
            all_goals omega
          unfold byS
          omega
      simp only [List.map_cons, List.sum_cons]
      omega
  exact this l h.2
theorem held_le (l : List Sg) : heldL l ≤ 512 * l.length := by
  unfold heldL
  induction l with
  | nil => simp
  | cons s r ih =>
    simp only [List.map_cons, List.sum_cons, List.length_cons]
    split <;> omega
end Go.Proofs.Tryd
