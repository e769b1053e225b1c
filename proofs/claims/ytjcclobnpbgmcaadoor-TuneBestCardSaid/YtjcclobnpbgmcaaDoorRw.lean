/- Rows of elements of k cells each, told by a list and how one is told in cells. -/
import Derived.Test.YtjcclobnpbgmcaaDoorOwn2
namespace Go.Proofs.Tryd
open Go.RowKit
set_option linter.unusedVariables false
set_option linter.unusedSimpArgs false
section
variable {α : Type} (enc : α → List Value) (k : Nat)
/-- The cells of elements, one behind the other. -/
def flat : List α → List Value
  | [] => []
  | x :: l => enc x ++ flat l
variable {enc} {k}
theorem flat_len (hk : ∀ x, (enc x).length = k) (l : List α) : (flat enc l).length = l.length * k := by
  induction l with
  | nil => simp [flat]
  | cons x l ih => simp only [flat, List.length_append, hk, ih, List.length_cons, Nat.add_mul, Nat.one_mul]; omega
theorem flat_app (a b : List α) : flat enc (a ++ b) = flat enc a ++ flat enc b := by
  induction a with
  | nil => rfl
  | cons x a ih => simp [flat, ih]
theorem flat_take (hk : ∀ x, (enc x).length = k) (l : List α) (m : Nat) : (flat enc l).take (m * k) = flat enc (l.take m) := by
  induction l generalizing m with
  | nil => simp [flat]
  | cons x l ih =>
    cases m with
    | zero => simp [flat]
    | succ m =>
      rw [show (m + 1) * k = (enc x).length + m * k by rw [hk, Nat.add_mul, Nat.one_mul, Nat.add_comm]]
      simp only [flat, List.take_succ_cons]
      rw [List.take_length_add_append, ih]
theorem flat_drop (hk : ∀ x, (enc x).length = k) (l : List α) (m : Nat) : (flat enc l).drop (m * k) = flat enc (l.drop m) := by
  induction l generalizing m with
  | nil => simp [flat]
  | cons x l ih =>
    cases m with
    | zero => simp [flat]
    | succ m =>
      rw [show (m + 1) * k = (enc x).length + m * k by rw [hk, Nat.add_mul, Nat.one_mul, Nat.add_comm]]
      simp only [flat, List.drop_succ_cons]
      rw [List.drop_length_add_append, ih]
theorem flat_get (hk : ∀ x, (enc x).length = k) {l : List α} {j : Nat} {x : α} (hj : l[j]? = some x) {i : Nat} (hi : i < k) : (flat enc l)[j * k + i]? = (enc x)[i]? := by
  induction l generalizing j with
  | nil => simp at hj
  | cons y l ih =>
    cases j with
    | zero =>
      simp at hj
      subst hj
      rw [Nat.zero_mul, Nat.zero_add, flat, List.getElem?_append_left (by rw [hk]; exact hi)]
    | succ j =>
      rw [flat, List.getElem?_append_right (by rw [hk, Nat.add_mul]; omega), hk, show (j + 1) * k + i - k = j * k + i by rw [Nat.add_mul]; omega]
      exact ih (by simpa using hj)
theorem flat_one (h1 : ∀ x, ∀ u ∈ enc x, u.oneCell' = true) (l : List α) : ∀ u ∈ flat enc l, u.oneCell' = true := by
  induction l with
  | nil => intro u hu; cases hu
  | cons x l ih =>
    intro u hu
    rw [flat, List.mem_append] at hu
    rcases hu with hu | hu
    · exact h1 x u hu
    · exact ih u hu
theorem flat_set2 (hk : ∀ x, (enc x).length = 2) (l : List α) (j : Nat) (x : α) {a b : Value} (hx : enc x = [a, b]) (hj : j < l.length) : flat enc (l.set j x) = ((flat enc l).set (j * 2) a).set (j * 2 + 1) b := by
  induction l generalizing j with
  | nil => simp at hj
  | cons y l ih =>
    obtain ⟨p, q, hy⟩ : ∃ p q, enc y = [p, q] := by
      have h := hk y
      match he : enc y, h with
      | [p, q], _ => exact ⟨p, q, rfl⟩
    cases j with
    | zero => simp [flat, hx, hy]
    | succ j =>
      rw [show (j + 1) * 2 = j * 2 + 1 + 1 by omega]
      simp only [List.set_cons_succ, flat, hy, List.cons_append, List.nil_append]
      rw [ih j (by simpa using hj)]
theorem flat_set3 (hk : ∀ x, (enc x).length = 3) (l : List α) (j : Nat) (x : α) {a b c : Value} (hx : enc x = [a, b, c]) (hj : j < l.length) : flat enc (l.set j x) = (((flat enc l).set (j * 3) a).set (j * 3 + 1) b).set (j * 3 + 2) c := by
  induction l generalizing j with
  | nil => simp at hj
  | cons y l ih =>
    obtain ⟨p, q, r, hy⟩ : ∃ p q r, enc y = [p, q, r] := by
      have h := hk y
      match he : enc y, h with
      | [p, q, r], _ => exact ⟨p, q, r, rfl⟩
    cases j with
    | zero => simp [flat, hx, hy]
    | succ j =>
      rw [show (j + 1) * 3 = j * 3 + 1 + 1 + 1 by omega]
      simp only [List.set_cons_succ, flat, hy, List.cons_append, List.nil_append]
      rw [ih j (by simpa using hj)]
/-- An element of a slice that is read. -/
theorem Sees.el (hk : ∀ x, (enc x).length = k) {w : World} {n b off : Nat} {l : List α} (h : Sees w k (some ⟨b, off, none⟩) n (flat enc l)) {j : Nat} {x : α} (hj : l[j]? = some x) {i : Nat} {v : Value} (hv : (enc x)[i]? = some v) : w.cell? ⟨b, off + j * k + i, none⟩ = some v := by
  have hi : i < k := by
    have := (List.getElem?_eq_some_iff.1 hv).1
    rwa [hk] at this
  have hjl : j < l.length := (List.getElem?_eq_some_iff.1 hj).1
  have hl : l.length * k = n * k := by rw [← flat_len hk l]; exact h.1
  have hjk : j * k + k ≤ l.length * k := by
    have := Nat.mul_le_mul_right k (show j + 1 ≤ l.length from hjl)
    rw [Nat.add_mul, Nat.one_mul] at this
    exact this
  obtain ⟨u, hu, hc⟩ := h.cell (j := j * k + i) (by omega)
  rw [flat_get hk hj hi, hv] at hu
  injection hu with hu
  rw [Nat.add_assoc, hc, hu]
theorem Sees.elen (hk : ∀ x, (enc x).length = k) (h0 : 0 < k) {w : World} {n : Nat} {A : Option Addr} {l : List α} (h : Sees w k A n (flat enc l)) : l.length = n := by
  have := h.1
  rw [flat_len hk] at this
  exact Nat.eq_of_mul_eq_mul_right h0 this
/-- The value is a slice of these elements. -/
def Rows (enc : α → List Value) (k : Nat) (w : World) (v : Value) (n : Nat) (l : List α) : Prop := ∃ A c, v = .slice A n c ∧ CapOk A n c ∧ n ≤ 100000 ∧ l.length = n ∧ Sees w k A n (flat enc l)
section
variable {w w' : World} {v : Value} {n : Nat} {l : List α}
theorem Rows.below (h : Rows enc k w v n l) (hb : Below w.heap.size w w') : Rows enc k w' v n l := by
  obtain ⟨A, c, rfl, hc, hn, hl, hs⟩ := h
  exact ⟨A, c, rfl, hc, hn, hl, hs.below hb⟩
theorem Rows.len (h : Rows enc k w v n l) : l.length = n := by
  obtain ⟨A, c, rfl, hc, hn, hl, hs⟩ := h
  exact hl
theorem Rows.nil (enc : α → List Value) (k : Nat) (w : World) : Rows enc k w (.slice none 0 0) 0 [] := ⟨none, 0, rfl, cap_none, by omega, rfl, Sees.empty _ _ _⟩
theorem Rows.of_own {base : Nat} {e : TypeId} (h : w.ownsRow base e k v n (flat enc l)) (hl : l.length = n) (hn : n ≤ 100000) : Rows enc k w v n l := by
  obtain ⟨A, c, rfl, hc, hs⟩ := Sees.of_own h
  exact ⟨A, c, rfl, hc, hn, hl, hs⟩
/-- Where there is an element, there is memory. -/
theorem Rows.some {A : Option Addr} (h : Sees w k A n (flat enc l)) (hn : n ≠ 0) : ∃ b off, A = some ⟨b, off, none⟩ ∧ b < w.heap.size := by
  rcases h.2 with h0 | ⟨b, off, hA, hb, _⟩
  · exact absurd h0 hn
  · exact ⟨b, off, hA, hb⟩
end
end
section
variable {w : World} {base : Nat} {e : TypeId} {size n : Nat} {xs : List Value}
/-- A row of the call's own is cut behind its first m. -/
theorem own_cut {g cap : Nat} (h : w.ownsRow base e size (.slice (some ⟨g, 0, none⟩) n cap) n xs) (m : Nat) (hm : m ≤ n) : w.ownsRow base e size (.slice (some ⟨g, 0, none⟩) m cap) m (xs.take (m * size)) := by
  have hms : m * size ≤ n * size := Nat.mul_le_mul_right size hm
  refine ⟨by rw [List.length_take, h.1]; omega, .inr ?_⟩
  rcases h.2 with ⟨h', _⟩ | ⟨g', cap', cur, h', hb, hg, hnc, hcm, hcs, ht⟩
  · simp at h'
  · simp only [Value.slice.injEq, Option.some.injEq, Addr.mk.injEq, and_true, true_and] at h'
    obtain ⟨rfl, rfl⟩ := h'
    refine ⟨g, cap, cur, rfl, hb, hg, by omega, hcm, hcs, ?_⟩
    rw [← ht, List.take_take, Nat.min_eq_left hms]
theorem own_mono' {base' : Nat} {v : Value} (h : w.ownsRow base e size v n xs) (hb : base' ≤ base) : w.ownsRow base' e size v n xs := by
  refine ⟨h.1, h.2.imp id ?_⟩
  rintro ⟨g, cap, cur, rfl, h1, h2, h3⟩
  exact ⟨g, cap, cur, rfl, Nat.le_trans hb h1, h2, h3⟩
theorem own_below' {w' : World} {v : Value} (h : w.ownsRow base e size v n xs) (hb : Below w.heap.size w w') : w'.ownsRow base e size v n xs := by
  refine ⟨h.1, h.2.imp id ?_⟩
  rintro ⟨g, cap, cur, rfl, h1, h2, h3⟩
  exact ⟨g, cap, cur, rfl, h1, (hb.block g (Array.getElem?_eq_some_iff.1 h2).1).trans h2, h3⟩
end
theorem grown_below {w w' : World} {row : Option Nat} (h : Below w.heap.size w w') : w.grownBy w' row := ⟨h.os, h.tape, h.output, h.size, fun k hk _ => h.block k hk⟩
end Go.Proofs.Tryd
