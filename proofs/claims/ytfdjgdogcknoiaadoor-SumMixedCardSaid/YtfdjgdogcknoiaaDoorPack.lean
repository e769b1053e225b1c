/- The bytes of a number (layer 7), in theory. -/
import Derived.Test.YtfdjgdogcknoiaaDoorBase
namespace Go.Proofs.Tryd
open Go.RowKit
set_option linter.unusedVariables false

/-- The bytes of a number. -/
def oneB (n : Nat) : List UInt8 := if h : n < 128 then [UInt8.ofNat n] else UInt8.ofNat (n % 128 + 128) :: oneB (n / 128)
termination_by n
decreasing_by omega
theorem oneB_low (n : Nat) (h : n < 128) : oneB n = [UInt8.ofNat n] := by rw [oneB, dif_pos h]
theorem oneB_high (n : Nat) (h : ¬ n < 128) : oneB n = UInt8.ofNat (n % 128 + 128) :: oneB (n / 128) := by rw [oneB, dif_neg h]
/-- What bytes are worth. -/
def val : List UInt8 → Nat
  | [] => 0
  | x :: xs => x.toNat % 128 + 128 * val xs
theorem u8_of (n : Nat) (h : n < 256) : (UInt8.ofNat n).toNat = n := by
  have : (UInt8.ofNat n).toNat = n % 256 := by simp
  omega
theorem val_one (n : Nat) : val (oneB n) = n := by
  induction n using Nat.strongRecOn with
  | _ n ih =>
    by_cases h : n < 128
    · rw [oneB_low n h, val, val, u8_of n (by omega)]
      omega
    · rw [oneB_high n h, val, ih (n / 128) (by omega), u8_of _ (by omega)]
      omega
/-- Bytes that are a number's. -/
def GoodL : List UInt8 → Prop
  | [] => False
  | [x] => x.toNat < 128
  | x :: y :: ys => 128 ≤ x.toNat ∧ GoodL (y :: ys) ∧ y :: ys ≠ [0]
theorem one_ne (n : Nat) : oneB n ≠ [] := by
  by_cases h : n < 128
  · rw [oneB_low n h]; simp
  · rw [oneB_high n h]; simp
theorem one_zero (n : Nat) (h : oneB n = [0]) : n = 0 := by
  have := val_one n
  rw [h] at this
  simp [val] at this
  exact this.symm
theorem one_good (n : Nat) : GoodL (oneB n) := by
  induction n using Nat.strongRecOn with
  | _ n ih =>
    by_cases h : n < 128
    · rw [oneB_low n h]
      show (UInt8.ofNat n).toNat < 128
      rw [u8_of n (by omega)]
      exact h
    · rw [oneB_high n h]
      have hi := ih (n / 128) (by omega)
      have hz : oneB (n / 128) ≠ [0] := fun e => by have := one_zero _ e; omega
      cases hc : oneB (n / 128) with
      | nil => exact absurd hc (one_ne _)
      | cons y ys =>
        rw [hc] at hi hz
        exact ⟨by rw [u8_of _ (by omega)]; omega, hi, hz⟩
theorem u8_ext (x : UInt8) (n : Nat) (h : x.toNat = n) : UInt8.ofNat n = x := by
  subst h
  simp
theorem good_one : ∀ l : List UInt8, GoodL l → oneB (val l) = l
  | [], h => h.elim
  | [x], h => by
    have hx : x.toNat < 128 := h
    have : val [x] = x.toNat := by
      show x.toNat % 128 + 128 * 0 = _
      omega
    rw [this, oneB_low _ hx]
    congr 1
    exact u8_ext x _ rfl
  | x :: y :: ys, ⟨h1, h2, h3⟩ => by
    have ih := good_one (y :: ys) h2
    have hx : x.toNat < 256 := UInt8.toNat_lt x
    have hv : val (y :: ys) ≠ 0 := fun e => by
      rw [e] at ih
      exact h3 (by rw [← ih, oneB_low 0 (by omega)]; rfl)
    have e : val (x :: y :: ys) = x.toNat % 128 + 128 * val (y :: ys) := rfl
    rw [e, oneB_high _ (by omega)]
    have e1 : (x.toNat % 128 + 128 * val (y :: ys)) % 128 + 128 = x.toNat := by omega
    have e2 : (x.toNat % 128 + 128 * val (y :: ys)) / 128 = val (y :: ys) := by omega
    rw [e1, e2, ih]
    congr 1
    exact u8_ext x _ rfl
theorem val_app (a b : List UInt8) : val (a ++ b) = val a + 128 ^ a.length * val b := by
  induction a with
  | nil => simp [val]
  | cons x xs ih =>
    rw [List.cons_append, val, ih, val, List.length_cons, Nat.pow_succ]
    rw [Nat.mul_add, Nat.add_assoc, ← Nat.mul_assoc, Nat.mul_comm 128 (128 ^ xs.length)]
theorem val_lt (a : List UInt8) : val a < 128 ^ a.length := by
  induction a with
  | nil => simp [val]
  | cons x xs ih =>
    rw [val, List.length_cons, Nat.pow_succ]
    have : x.toNat % 128 < 128 := Nat.mod_lt _ (by omega)
    omega
/-- How many bytes a number has. -/
def sizeB (n : Nat) : Nat := (oneB n).length
theorem sizeB_low (n : Nat) (h : n < 128) : sizeB n = 1 := by unfold sizeB; rw [oneB_low n h]; rfl
theorem sizeB_high (n : Nat) (h : ¬ n < 128) : sizeB n = sizeB (n / 128) + 1 := by unfold sizeB; rw [oneB_high n h]; rfl
theorem sizeB_pos (n : Nat) : 1 ≤ sizeB n := List.length_pos_iff.2 (one_ne n)
theorem sizeB_le (k : Nat) : ∀ n, n < 128 ^ (k + 1) → sizeB n ≤ k + 1 := by
  induction k with
  | zero => intro n h; rw [sizeB_low n (by simpa using h)]; omega
  | succ k ih =>
    intro n h
    by_cases h1 : n < 128
    · rw [sizeB_low n h1]; omega
    · rw [sizeB_high n h1]
      have := ih (n / 128) (by rw [Nat.div_lt_iff_lt_mul (by omega)]; rw [Nat.pow_succ] at h; exact h)
      omega
theorem sizeB_mono (a : Nat) : ∀ b, a ≤ b → sizeB a ≤ sizeB b := by
  induction a using Nat.strongRecOn with
  | _ a ih =>
    intro b h
    by_cases h1 : a < 128
    · rw [sizeB_low a h1]; exact sizeB_pos b
    · rw [sizeB_high a h1, sizeB_high b (by omega)]
      have := ih (a / 128) (by omega) (b / 128) (Nat.div_le_div_right h)
      omega
theorem sizeB_more (a : Nat) (h : 1 ≤ a) : sizeB (128 * a) = sizeB a + 1 := by
  rw [sizeB_high _ (by omega), Nat.mul_div_cancel_left a (by omega)]
theorem sizeB_10 (n : Nat) (h : n < 18446744073709551616) : sizeB n ≤ 10 := sizeB_le 9 n (Nat.lt_of_lt_of_le h (by decide))
/-- Up to the first byte below 128, and what is behind it. -/
def cutL : List UInt8 → Option (List UInt8 × List UInt8)
  | [] => none
  | x :: xs => if x.toNat < 128 then some ([x], xs) else (cutL xs).map fun p => (x :: p.1, p.2)
theorem cutL_at : ∀ (l : List UInt8) (i : Nat), (∀ j, j < i → 128 ≤ (l.getD j 0).toNat) → i < l.length → (l.getD i 0).toNat < 128 → cutL l = some (l.take (i + 1), l.drop (i + 1))
  | [], i, _, h, _ => by simp at h
  | x :: xs, 0, _, _, h => by
    rw [cutL, if_pos (by simpa using h)]
    simp
  | x :: xs, i + 1, h1, h2, h3 => by
    have hx : ¬ x.toNat < 128 := by have := h1 0 (by omega); simp at this; omega
    rw [cutL, if_neg hx, cutL_at xs i (fun j hj => by simpa using h1 (j + 1) (by omega)) (by simpa using h2) (by simpa using h3)]
    simp
theorem cutL_none : ∀ (l : List UInt8), (∀ j, j < l.length → 128 ≤ (l.getD j 0).toNat) → cutL l = none
  | [], _ => rfl
  | x :: xs, h => by
    have hx : ¬ x.toNat < 128 := by have := h 0 (by simp); simp at this; omega
    rw [cutL, if_neg hx, cutL_none xs (fun j hj => by simpa using h (j + 1) (by simpa using hj))]
    rfl
theorem good_at : ∀ (l : List UInt8) (i : Nat), (∀ j, j < i → 128 ≤ (l.getD j 0).toNat) → i < l.length → (l.getD i 0).toNat < 128 → (GoodL (l.take (i + 1)) ↔ i = 0 ∨ (l.getD i 0).toNat ≠ 0)
  | [], i, _, h, _ => by simp at h
  | x :: xs, 0, _, _, h => by
    constructor
    · exact fun _ => .inl rfl
    · intro _
      have hx : x.toNat < 128 := by simpa using h
      exact hx
  | x :: xs, i + 1, h1, h2, h3 => by
    have hx : 128 ≤ x.toNat := by have := h1 0 (by omega); simpa using this
    have hi : i < xs.length := by simpa using h2
    have ih := good_at xs i (fun j hj => by simpa using h1 (j + 1) (by omega)) hi (by simpa using h3)
    cases xs with
    | nil => simp at hi
    | cons y ys =>
      have e : (x :: y :: ys).take (i + 1 + 1) = x :: y :: ys.take i := by simp
      have e2 : (y :: ys).take (i + 1) = y :: ys.take i := by simp
      have e3 : (x :: y :: ys).getD (i + 1) 0 = (y :: ys).getD i 0 := rfl
      rw [e2] at ih
      rw [e, e3]
      constructor
      · rintro ⟨_, hg, hz⟩
        refine .inr ?_
        rcases ih.1 hg with rfl | h
        · intro h0
          apply hz
          have hy : y.toNat = 0 := by simpa using h0
          have : y = 0 := UInt8.toNat_inj.1 (by rw [hy]; rfl)
          subst this
          simp
        · exact h
      · rintro (h | h)
        · omega
        · refine ⟨hx, ih.2 (.inr h), fun hz => ?_⟩
          injection hz with hy ht
          cases i with
          | zero => subst hy; exact h rfl
          | succ i =>
            have hl : (ys.take (i + 1)).length = 0 := by rw [ht]; rfl
            rw [List.length_take] at hl
            simp at hi
            omega
/-- The number that bytes begin with, and what is behind it. -/
noncomputable def takeL (l : List UInt8) : Option (Nat × List UInt8) :=
  open Classical in
  match cutL l with
  | none => none
  | some p => if GoodL p.1 ∧ val p.1 < 18446744073709551616 then some (val p.1, p.2) else none
theorem cutL_good : ∀ (p r : List UInt8), GoodL p → cutL (p ++ r) = some (p, r)
  | [], r, h => h.elim
  | [x], r, h => by
    have hx : x.toNat < 128 := h
    rw [List.cons_append, cutL, if_pos hx]; rfl
  | x :: y :: ys, r, ⟨h1, h2, h3⟩ => by
    rw [List.cons_append, cutL, if_neg (by omega), cutL_good (y :: ys) r h2]; rfl
theorem takeL_one (n : Nat) (h : n < 18446744073709551616) (r : List UInt8) : takeL (oneB n ++ r) = some (n, r) := by
  unfold takeL
  rw [cutL_good _ _ (one_good n)]
  simp only
  split
  · rw [val_one]
  · rename_i hn
    exact absurd ⟨one_good n, by rw [val_one]; exact h⟩ hn
theorem cutL_app : ∀ (l p r : List UInt8), cutL l = some (p, r) → l = p ++ r
  | [], p, r, h => by cases h
  | x :: xs, p, r, h => by
    rw [cutL] at h
    split at h
    · injection h with h; injection h with h1 h2; subst h1 h2; rfl
    · cases hc : cutL xs with
      | none => rw [hc] at h; cases h
      | some q =>
        rw [hc] at h
        injection h with h
        injection h with h1 h2
        subst h1 h2
        rw [List.cons_append, ← cutL_app xs q.1 q.2 hc]
/-- What is taken is the number's own bytes. -/
theorem takeL_own (l : List UInt8) (n : Nat) (r : List UInt8) (h : takeL l = some (n, r)) : l = oneB n ++ r ∧ n < 18446744073709551616 := by
  unfold takeL at h
  cases hc : cutL l with
  | none => rw [hc] at h; cases h
  | some q =>
    rw [hc] at h
    simp only at h
    split at h
    · rename_i hg
      injection h with h
      injection h with h1 h2
      subst h1 h2
      rw [good_one _ hg.1]
      exact ⟨cutL_app l q.1 q.2 hc, hg.2⟩
    · cases h
end Go.Proofs.Tryd
