/- The contract of linhayref03.Least. -/
import Derived.Test.YtjkjnpcikddoaaaRat4
namespace Go.Proofs.Try
open Go.RowKit
set_option linter.unusedVariables false

theorem rcV_at (an ad bn bd : Int) (h1 : ad ≠ 0) (h2 : bd ≠ 0) : rcV an ad bn bd = cmpI (an * bd) (bn * ad) := by unfold rcV; rw [if_neg (by omega)]
theorem rcV_lt (an ad bn bd : Int) (h1 : ad ≠ 0) (h2 : bd ≠ 0) : rcV an ad bn bd < 0 ↔ an * bd < bn * ad := by
  rw [rcV_at an ad bn bd h1 h2]; unfold cmpI; (repeat' split) <;> omega
theorem cr_trans (an ad bn bd cn cd : Int) (ha : 0 < ad) (hb : 0 < bd) (hc : 0 < cd) (h1 : an * bd < bn * ad) (h2 : bn * cd ≤ cn * bd) : an * cd < cn * ad := by
  have e1 : an * bd * cd < bn * ad * cd := Int.mul_lt_mul_of_pos_right h1 hc
  have e2 : bn * cd * ad ≤ cn * bd * ad := Int.mul_le_mul_of_nonneg_right h2 (by omega)
  have e3 : an * bd * cd = an * cd * bd := by rw [Int.mul_assoc, Int.mul_comm bd cd, ← Int.mul_assoc]
  have e4 : bn * ad * cd = bn * cd * ad := by rw [Int.mul_assoc, Int.mul_comm ad cd, ← Int.mul_assoc]
  have e5 : cn * bd * ad = cn * ad * bd := by rw [Int.mul_assoc, Int.mul_comm bd ad, ← Int.mul_assoc]
  have e6 : an * cd * bd < cn * ad * bd := by rw [← e3, ← e5]; omega
  exact Int.lt_of_mul_lt_mul_right e6 (by omega)

/-- How the j-th ratio stands beside the i-th. -/
def lV (l : List (Int × Int)) (j i : Nat) : Int := rcV (l.getD j (0, 0)).1 (l.getD j (0, 0)).2 (l.getD i (0, 0)).1 (l.getD i (0, 0)).2
def lD (l : List (Int × Int)) (j : Nat) : Int := (l.getD j (0, 0)).2
theorem lV_lt (l : List (Int × Int)) (j i : Nat) (h1 : lD l j ≠ 0) (h2 : lD l i ≠ 0) : lV l j i < 0 ↔ (l.getD j (0, 0)).1 * lD l i < (l.getD i (0, 0)).1 * lD l j := rcV_lt _ _ _ _ h1 h2
theorem lV_self (l : List (Int × Int)) (j : Nat) (h : lD l j ≠ 0) : 0 ≤ lV l j j := by
  have := lV_lt l j j h h
  omega
def LstOk (l : List (Int × Int)) (k : Nat) (s : Nat × Bool) : Prop :=
  (s.2 = false ∧ s.1 = 0 ∧ ∀ j, j < k → lD l j = 0) ∨ (s.2 = true ∧ s.1 < k ∧ lD l s.1 ≠ 0 ∧ (∀ j, j < k → lD l j ≠ 0 → 0 ≤ lV l j s.1) ∧ ∀ j, j < s.1 → lD l j ≠ 0 → lV l s.1 j < 0)
theorem lst_ok (l : List (Int × Int)) (hr : R64 l) (k : Nat) : LstOk l k (lstS l k) := by
  induction k with
  | zero => exact .inl ⟨rfl, rfl, fun j hj => by omega⟩
  | succ k ih =>
    obtain ⟨n1, n2, n3, n4⟩ := lstS_next l k (lstS l k).1 (lstS l k).2 rfl
    have next : ∀ j, j < k + 1 → j < k ∨ j = k := fun j h => by omega
    by_cases hd : lD l k = 0
    · rw [n1 hd]
      rcases ih with ⟨a, b, c⟩ | ⟨a, b, c, d, e⟩
      · exact .inl ⟨a, b, fun j hj => (next j hj).elim (c j) (fun h => by rw [h]; exact hd)⟩
      · exact .inr ⟨a, by omega, c, fun j hj h => (next j hj).elim (fun g => d j g h) (fun g => absurd (g ▸ hd) h), e⟩
    · rcases ih with ⟨a, b, c⟩ | ⟨a, b, c, d, e⟩
      · rw [n2 hd a]
        refine .inr ⟨rfl, by simp, hd, fun j hj h => ?_, fun j hj h => absurd (c j hj) h⟩
        rcases next j hj with g | g
        · exact absurd (c j g) h
        · subst g
          exact lV_self l j h
      · have pos : ∀ j, lD l j ≠ 0 → 0 < lD l j := fun j h => by have := (hr j).2.2.1; unfold lD at *; omega
        by_cases hv : lV l k (lstS l k).1 < 0
        · rw [n3 hd a hv]
          have key : ∀ j, j < k → lD l j ≠ 0 → lV l k j < 0 := fun j hj h => by
            have h1 := (lV_lt l _ _ hd c).1 hv
            have h2 : ¬ lV l j (lstS l k).1 < 0 := by have := d j hj h; omega
            exact (lV_lt l _ _ hd h).2 (cr_trans _ _ _ _ _ _ (pos k hd) (pos _ c) (pos j h) h1 (Int.not_lt.1 fun q => h2 ((lV_lt l _ _ h c).2 q)))
          refine .inr ⟨rfl, by simp, hd, fun j hj h => ?_, fun j hj h => key j hj h⟩
          rcases next j hj with g | g
          · have h1 := (lV_lt l _ _ hd h).1 (key j g h)
            have h2 : ¬ lV l j k < 0 := fun q => by have := (lV_lt l _ _ h hd).1 q; omega
            show 0 ≤ lV l j k
            omega
          · subst g
            exact lV_self l j h
        · rw [n4 hd a hv]
          exact .inr ⟨a, by omega, c, fun j hj h => (next j hj).elim (fun g => d j g h) (fun g => by subst g; show 0 ≤ lV l j (lstS l j).1; omega), e⟩

/-- No one of the first k is below the i-th, which is a ratio. -/
def preB (l : List (Int × Int)) (i : Nat) : Nat → Bool
  | 0 => decide (0 < lD l i)
  | k + 1 => preB l i k && (decide (rcE (lD l k) (lD l i) ≠ 0) || decide (0 ≤ lV l k i))
theorem preB_spec (l : List (Int × Int)) (i k : Nat) : preB l i k = true ↔ 0 < lD l i ∧ ∀ j, j < k → lD l j = 0 ∨ lD l i = 0 ∨ 0 ≤ lV l j i := by
  induction k with
  | zero => simp [preB]
  | succ k ih =>
    have e : rcE (lD l k) (lD l i) ≠ 0 ↔ lD l k = 0 ∨ lD l i = 0 := by unfold rcE; split <;> simp_all
    rw [preB, Bool.and_eq_true, ih, Bool.or_eq_true, decide_eq_true_eq, decide_eq_true_eq, e]
    constructor
    · rintro ⟨⟨h1, h2⟩, h3⟩
      refine ⟨h1, fun j hj => ?_⟩
      rcases (by omega : j < k ∨ j = k) with g | g
      · exact h2 j g
      · subst g; rcases h3 with (h3 | h3) | h3 <;> simp [h3]
    · rintro ⟨h1, h2⟩
      refine ⟨⟨h1, fun j hj => h2 j (by omega)⟩, ?_⟩
      rcases h2 k (by omega) with h | h | h <;> simp [h]
theorem pre_yes (l : List (Int × Int)) (hr : R64 l) (n i : Nat) (hi : i < n) (h : preB l i n = true) (ha : ∀ j, j < i → preB l j n = false) : lstS l n = (i, true) := by
  obtain ⟨p1, p2⟩ := (preB_spec l i n).1 h
  have hs : lstS l n = ((lstS l n).1, (lstS l n).2) := rfl
  rcases lst_ok l hr n with ⟨a, b, c⟩ | ⟨a, b, c, d, e⟩
  · have := c i hi; omega
  · have pos : 0 < lD l (lstS l n).1 := by have := (hr (lstS l n).1).2.2.1; unfold lD at *; omega
    have hfull : preB l (lstS l n).1 n = true := (preB_spec l _ n).2 ⟨pos, fun j hj => by
      by_cases hz : lD l j = 0
      · exact .inl hz
      · exact .inr (.inr (d j hj hz))⟩
    have h1 : ¬ (lstS l n).1 < i := fun q => by have := ha _ q; rw [hfull] at this; cases this
    have h2 : ¬ i < (lstS l n).1 := fun q => by
      have h3 := e i q (by omega)
      rcases p2 (lstS l n).1 b with g | g | g <;> omega
    rw [hs, a, show (lstS l n).1 = i by omega]
theorem pre_no (l : List (Int × Int)) (hr : R64 l) (n : Nat) (ha : ∀ j, j < n → preB l j n = false) : lstS l n = (0, false) := by
  have hs : lstS l n = ((lstS l n).1, (lstS l n).2) := rfl
  rcases lst_ok l hr n with ⟨a, b, c⟩ | ⟨a, b, c, d, e⟩
  · rw [hs, a, b]
  · have pos : 0 < lD l (lstS l n).1 := by have := (hr (lstS l n).1).2.2.1; unfold lD at *; omega
    have hfull : preB l (lstS l n).1 n = true := (preB_spec l _ n).2 ⟨pos, fun j hj => by
      by_cases hz : lD l j = 0
      · exact .inl hz
      · exact .inr (.inr (d j hj hz))⟩
    have := ha _ b
    rw [hfull] at this
    cases this

end Go.Proofs.Try
