/- Halving and doubling all counts: theory. -/
import Derived.Test.YtjkjnpcikddoaaaLhd8
namespace Go.Proofs.Try
open Go.RowKit
set_option linter.unusedVariables false
set_option linter.unusedSimpArgs false
/-- Counts at ages below k, twice; the others nought. -/
def twTo (l : List Nat) (k : Nat) : List Nat := (List.range 16).map fun j => if j % 8 < k then 2 * l.getD j 0 else 0
theorem tw_len (l : List Nat) (k : Nat) : (twTo l k).length = 16 := by unfold twTo; simp
theorem tw_at (l : List Nat) (k j : Nat) (hj : j < 16) : (twTo l k).getD j 0 = if j % 8 < k then 2 * l.getD j 0 else 0 := by
  unfold twTo
  rw [List.getD_eq_getElem?_getD, List.getElem?_map, List.getElem?_range hj]
  rfl
theorem tw_zero (l : List Nat) : twTo l 0 = z16 := by unfold twTo z16; rfl
theorem tw_more (l : List Nat) (k : Nat) (hk : k < 8) : ((twTo l k).set k (2 * l.getD k 0)).set (8 + k) (2 * l.getD (8 + k) 0) = twTo l (k + 1) := by
  refine ext16 _ _ (by simp [tw_len]) (tw_len _ _) (fun j hj => ?_)
  rw [getD_set' _ _ _ _ (by rw [List.length_set, tw_len]; omega), getD_set' _ _ _ _ (by rw [tw_len]; omega), tw_at l k j hj, tw_at l (k + 1) j hj]
  by_cases h1 : j = 8 + k
  · subst h1; rw [if_pos rfl, if_pos (by omega)]
  · rw [if_neg h1]
    by_cases h2 : j = k
    · subst h2; rw [if_pos rfl, if_pos (by omega)]
    · rw [if_neg h2]
      by_cases h3 : j % 8 < k
      · rw [if_pos h3, if_pos (by omega)]
      · rw [if_neg h3, if_neg (by omega)]
/-- The counts at ages below k are small. -/
def SmTo (l : List Nat) (k : Nat) : Prop := ∀ j, j < 16 → j % 8 < k → l.getD j 0 < 1125899906842624
theorem sm_more (l : List Nat) (k : Nat) (hk : k < 8) (h : SmTo l k) (h0 : l.getD k 0 < 1125899906842624) (h1 : l.getD (8 + k) 0 < 1125899906842624) : SmTo l (k + 1) := by
  intro j hj hj2
  by_cases e : j = k
  · rw [e]; exact h0
  · by_cases e2 : j = 8 + k
    · rw [e2]; exact h1
    · exact h j hj (by omega)
theorem Rk.tw {l : List Nat} (h : Rk l) (hs : SmTo l 8) : Rk (twTo l 8) := by
  refine ⟨tw_len l 8, fun j => ?_⟩
  by_cases hj : j < 16
  · rw [tw_at l 8 j hj, if_pos (by omega)]
    have := hs j hj (by omega)
    omega
  · rw [List.getD_eq_getElem?_getD, List.getElem?_eq_none (by rw [tw_len]; omega)]
    simp
theorem tw_fade (l : List Nat) (h : l.length = 16) : fadeL (twTo l 8) = l := by
  refine ext16 _ _ (fade_len _ _) h (fun j hj => ?_)
  unfold fadeL
  rw [fade_at _ _ _ hj, if_pos (by omega), tw_at l 8 j hj, if_pos (by omega)]
  omega
/-- Halved some times. -/
def fadeN (l : List Nat) : Nat → List Nat
  | 0 => l
  | n + 1 => fadeL (fadeN l n)
theorem fadeN_rk (l : List Nat) (h : Rk l) : ∀ n, Rk (fadeN l n)
  | 0 => h
  | n + 1 => (fadeN_rk l h n).fade 8
theorem fadeN_at (l : List Nat) (j : Nat) (hj : j < 16) : ∀ n, (fadeN l n).getD j 0 = l.getD j 0 / 2 ^ n
  | 0 => by simp [fadeN]
  | n + 1 => by
    rw [show fadeN l (n + 1) = fadeTo (fadeN l n) 8 from rfl, fade_at _ _ _ hj, if_pos (by omega), fadeN_at l j hj n, Nat.div_div_eq_div_mul, Nat.pow_succ]
theorem fade50 (l : List Nat) (h : Rk l) (hs : SmTo l 8) : fadeN l 50 = z16 := by
  refine ext16 _ _ (fadeN_rk l h 50).1 rfl (fun j hj => ?_)
  rw [fadeN_at l j hj, z16_at j hj]
  exact Nat.div_eq_of_lt (by have := hs j hj (by omega); have e : (2 : Nat) ^ 50 = 1125899906842624 := by decide +kernel
                             omega)
theorem hShl_sm (x k : Nat) (hk : k < 8) (hx : x < 9007199254740992) : hShl x k = x * 2 ^ k ∧ x * 2 ^ k ≤ 128 * x := by
  have h : x * 2 ^ k ≤ 128 * x := by
    have : (2 : Nat) ^ k ≤ 2 ^ 7 := Nat.pow_le_pow_right (by omega) (by omega)
    have h2 := Nat.mul_le_mul_left x this
    rw [show (2 : Nat) ^ 7 = 128 by decide] at h2
    omega
  refine ⟨?_, h⟩
  unfold hShl
  rw [if_pos (by omega)]
theorem hs_tw (l : List Nat) (hs : SmTo l 8) (a : Nat) : ∀ k, k ≤ 8 → hsA (twTo l 8) a k = 2 * hsA l a k ∧ hsA l a k ≤ k * 1125899906842624
  | 0, _ => by rw [show hsA (twTo l 8) a 0 = 0 from rfl, show hsA l a 0 = 0 from rfl]; omega
  | k + 1, hk => by
    obtain ⟨h1, h2⟩ := hs_tw l hs a k (by omega)
    rw [hs_succ, hs_succ, tw_at l 8 k (by omega), if_pos (show k % 8 < 8 by omega), h1]
    have h3 := hs k (by omega) (by omega)
    by_cases c : k < a
    · rw [if_pos c, if_pos c]; omega
    · rw [if_neg c, if_neg c]
      unfold hAdd
      rw [if_pos (by omega), if_pos (by omega)]
      omega
theorem ts_tw (l : List Nat) (hs : SmTo l 8) (a : Nat) : ∀ k, k ≤ 8 → tsA (twTo l 8) a k = 2 * tsA l a k ∧ tsA l a k ≤ k * 288230376151711744
  | 0, _ => by rw [show tsA (twTo l 8) a 0 = 0 from rfl, show tsA l a 0 = 0 from rfl]; omega
  | k + 1, hk => by
    obtain ⟨h1, h2⟩ := ts_tw l hs a k (by omega)
    rw [ts_succ, ts_succ, tw_at l 8 k (by omega), tw_at l 8 (8 + k) (by omega), if_pos (show k % 8 < 8 by omega), if_pos (show (8 + k) % 8 < 8 by omega), h1]
    have h3 := hs k (by omega) (by omega)
    have h4 := hs (8 + k) (by omega) (by omega)
    by_cases c : k < a
    · rw [if_pos c, if_pos c]; omega
    · rw [if_neg c, if_neg c]
      have e1 : hAdd (l.getD k 0) (l.getD (8 + k) 0) = l.getD k 0 + l.getD (8 + k) 0 := by unfold hAdd; rw [if_pos (by omega)]
      have e2 : hAdd (2 * l.getD k 0) (2 * l.getD (8 + k) 0) = 2 * (l.getD k 0 + l.getD (8 + k) 0) := by unfold hAdd; rw [if_pos (by omega)]; omega
      rw [e1, e2]
      have hx : l.getD k 0 + l.getD (8 + k) 0 < 2251799813685248 := by omega
      generalize l.getD k 0 + l.getD (8 + k) 0 = x at *
      obtain ⟨g1, g2⟩ := hShl_sm x k (by omega) (by omega)
      obtain ⟨g3, _⟩ := hShl_sm (2 * x) k (by omega) (by omega)
      rw [g1, g3, Nat.mul_assoc]
      generalize x * 2 ^ k = y at *
      unfold hAdd
      rw [if_pos (by omega), if_pos (by omega)]
      omega
theorem dnF_tw (H T : Nat) : dnF (2 * H) (2 * T) = dnF H T := by
  unfold dnF
  by_cases h : T = 0
  · rw [if_pos (by omega), if_pos h]
  · rw [if_neg (by omega), if_neg h, Nat.mul_assoc, Nat.mul_div_mul_left _ _ (by omega)]
theorem dens_tw (l : List Nat) (h : Rk l) (hs : SmTo l 8) (a : Nat) (ha : a < 8) : dens (twTo l 8) (a : Int) = dens l (a : Int) := by
  rw [dens_formN _ (h.tw hs) a ha, dens_formN l h a ha, (hs_tw l hs a 8 (by omega)).1, (ts_tw l hs a 8 (by omega)).1, dnF_tw]
end Go.Proofs.Try
