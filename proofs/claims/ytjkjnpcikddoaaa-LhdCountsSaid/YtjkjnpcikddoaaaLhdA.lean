/- One count more; evictions without hits; hits at age nought alone: theory. -/
import Derived.Test.YtjkjnpcikddoaaaLhd9
namespace Go.Proofs.Try
open Go.RowKit
set_option linter.unusedVariables false
set_option linter.unusedSimpArgs false
def hsE (l : List Nat) (a : Nat) : Nat → Nat
  | 0 => 0
  | k + 1 => if k < a then hsE l a k else hsE l a k + l.getD k 0
def tsE (l : List Nat) (a : Nat) : Nat → Nat
  | 0 => 0
  | k + 1 => if k < a then tsE l a k else tsE l a k + (l.getD k 0 + l.getD (8 + k) 0) * 2 ^ k
theorem hsE_succ (l : List Nat) (a k : Nat) : hsE l a (k + 1) = if k < a then hsE l a k else hsE l a k + l.getD k 0 := rfl
theorem tsE_succ (l : List Nat) (a k : Nat) : tsE l a (k + 1) = if k < a then tsE l a k else tsE l a k + (l.getD k 0 + l.getD (8 + k) 0) * 2 ^ k := rfl
def Sm2 (l : List Nat) : Prop := ∀ j, j < 16 → l.getD j 0 < 2251799813685248
theorem hs_E (l : List Nat) (h : Sm2 l) (a : Nat) : ∀ k, k ≤ 8 → hsA l a k = hsE l a k ∧ hsE l a k ≤ k * 2251799813685248
  | 0, _ => by rw [show hsA l a 0 = 0 from rfl, show hsE l a 0 = 0 from rfl]; omega
  | k + 1, hk => by
    obtain ⟨h1, h2⟩ := hs_E l h a k (by omega)
    rw [hs_succ, hsE_succ, h1]
    have h3 := h k (by omega)
    by_cases c : k < a
    · rw [if_pos c, if_pos c]; omega
    · rw [if_neg c, if_neg c]
      unfold hAdd
      rw [if_pos (by omega)]
      omega
theorem ts_E (l : List Nat) (h : Sm2 l) (a : Nat) : ∀ k, k ≤ 8 → tsA l a k = tsE l a k ∧ tsE l a k ≤ k * 576460752303423488
  | 0, _ => by rw [show tsA l a 0 = 0 from rfl, show tsE l a 0 = 0 from rfl]; omega
  | k + 1, hk => by
    obtain ⟨h1, h2⟩ := ts_E l h a k (by omega)
    rw [ts_succ, tsE_succ, h1]
    have h3 := h k (by omega)
    have h4 := h (8 + k) (by omega)
    by_cases c : k < a
    · rw [if_pos c, if_pos c]; omega
    · rw [if_neg c, if_neg c]
      have e1 : hAdd (l.getD k 0) (l.getD (8 + k) 0) = l.getD k 0 + l.getD (8 + k) 0 := by unfold hAdd; rw [if_pos (by omega)]
      have hx : l.getD k 0 + l.getD (8 + k) 0 < 4503599627370496 := by omega
      rw [e1]
      generalize l.getD k 0 + l.getD (8 + k) 0 = x at *
      obtain ⟨g1, g2⟩ := hShl_sm x k (by omega) (by omega)
      rw [g1]
      generalize x * 2 ^ k = y at *
      unfold hAdd
      rw [if_pos (by omega)]
      omega
theorem hsE_up (l l' : List Nat) (k x : Nat) (h : ∀ j, j < 8 → l'.getD j 0 = l.getD j 0 + if j = k then x else 0) (a : Nat) : ∀ m, m ≤ 8 → hsE l' a m = hsE l a m + if a ≤ k ∧ k < m then x else 0
  | 0, _ => by rw [if_neg (by omega)]; rfl
  | m + 1, hm => by
    rw [hsE_succ, hsE_succ, hsE_up l l' k x h a m (by omega), h m (by omega)]
    by_cases c : m < a
    · rw [if_pos c, if_pos c]
      by_cases e : a ≤ k ∧ k < m
      · omega
      · rw [if_neg e, if_neg (by omega)]
    · rw [if_neg c, if_neg c]
      by_cases e : m = k
      · rw [if_pos e, if_neg (by omega), if_pos (by omega)]; omega
      · rw [if_neg e]
        by_cases f : a ≤ k ∧ k < m
        · rw [if_pos f, if_pos (by omega)]; omega
        · rw [if_neg f, if_neg (by omega)]; omega
theorem tsE_up (l l' : List Nat) (k x y : Nat) (h : ∀ j, j < 8 → l'.getD j 0 = l.getD j 0 + if j = k then x else 0) (h' : ∀ j, j < 8 → l'.getD (8 + j) 0 = l.getD (8 + j) 0 + if j = k then y else 0) (a : Nat) : ∀ m, m ≤ 8 → tsE l' a m = tsE l a m + if a ≤ k ∧ k < m then (x + y) * 2 ^ k else 0
  | 0, _ => by rw [if_neg (by omega)]; rfl
  | m + 1, hm => by
    rw [tsE_succ, tsE_succ, tsE_up l l' k x y h h' a m (by omega), h m (by omega), h' m (by omega)]
    by_cases c : m < a
    · rw [if_pos c, if_pos c]
      by_cases e : a ≤ k ∧ k < m
      · omega
      · rw [if_neg e, if_neg (by omega)]
    · rw [if_neg c, if_neg c]
      by_cases e : m = k
      · subst e
        rw [if_pos rfl, if_pos rfl, if_neg (by omega), if_pos (by omega), show l.getD m 0 + x + (l.getD (8 + m) 0 + y) = (l.getD m 0 + l.getD (8 + m) 0) + (x + y) by omega, Nat.add_mul]
        omega
      · rw [if_neg e, if_neg e]
        by_cases f : a ≤ k ∧ k < m
        · rw [if_pos f, if_pos (by omega), Nat.add_zero, Nat.add_zero]; omega
        · rw [if_neg f, if_neg (by omega)]; rfl
theorem dnF_out (H T p : Nat) (h : H ≤ T) (hp : 0 < p) : dnF H (T + p) ≤ dnF H T := by
  unfold dnF
  rw [if_neg (by omega)]
  by_cases e : T = 0
  · rw [if_pos e, show H = 0 by omega, Nat.zero_mul, Nat.zero_div]; omega
  · rw [if_neg e]
    exact Nat.div_le_div_left (by omega) (by omega)
theorem dnF_hit (H T : Nat) (h : H ≤ T) : dnF H T ≤ dnF (H + 1) (T + 1) ∨ dnF H T = 4294967296 := by
  by_cases e : T = 0
  · right; unfold dnF; rw [if_pos e]
  · left
    have hq := dnF_le H T h
    unfold dnF at hq ⊢
    rw [if_neg e] at hq ⊢
    rw [if_neg (by omega)]
    rw [Nat.le_div_iff_mul_le (by omega)]
    have h1 : H * 4294967296 / T * T ≤ H * 4294967296 := Nat.div_mul_le_self _ _
    generalize H * 4294967296 / T = q at *
    rw [Nat.mul_add, Nat.add_mul]
    omega
theorem Sm2.of {l : List Nat} (h : SmTo l 8) : Sm2 l := fun j hj => by have := h j hj (by omega); omega
/-- What a hit, and an eviction, does to a density. -/
theorem counts_law (l : List Nat) (hl : Rk l) (hs : SmTo l 8) (k n : Nat) (hk : k < 8) (hn : n < 8) (dv hv ov : Nat) (e1 : dens l (n : Int) = dv) (e2 : dens (hitL l (k : Int)) (n : Int) = hv) (e3 : dens (outL l (k : Int)) (n : Int) = ov) :
    (k < n → hv = dv ∧ ov = dv) ∧ (n ≤ k → ov ≤ dv ∧ dv ≤ 4294967296 ∧ (k = 0 → dv ≤ hv ∨ dv = 4294967296)) := by
  have sm := Sm2.of hs
  have hh := hitL l (k : Int)
  have hup : hitL l (k : Int) = upL l k := by unfold hitL; rw [if_pos (by omega), Int.toNat_natCast]
  have oup : outL l (k : Int) = upL l (8 + k) := by unfold outL; rw [if_pos (by omega), Int.toNat_natCast]
  have at1 : ∀ j, j < 16 → (hitL l (k : Int)).getD j 0 = l.getD j 0 + if j = k then 1 else 0 := fun j hj => by
    rw [hup]; unfold upL
    rw [getD_set' _ _ _ _ (by rw [hl.1]; omega)]
    have := sm k (by omega)
    by_cases e : j = k
    · rw [if_pos e, if_pos e, e]; unfold hAdd; rw [if_pos (by omega)]
    · rw [if_neg e, if_neg e]; rfl
  have at2 : ∀ j, j < 16 → (outL l (k : Int)).getD j 0 = l.getD j 0 + if j = 8 + k then 1 else 0 := fun j hj => by
    rw [oup]; unfold upL
    rw [getD_set' _ _ _ _ (by rw [hl.1]; omega)]
    have := sm (8 + k) (by omega)
    by_cases e : j = 8 + k
    · rw [if_pos e, if_pos e, e]; unfold hAdd; rw [if_pos (by omega)]
    · rw [if_neg e, if_neg e]; rfl
  have s1 : Sm2 (hitL l (k : Int)) := fun j hj => by rw [at1 j hj]; have := hs j hj (by omega); split <;> omega
  have s2 : Sm2 (outL l (k : Int)) := fun j hj => by rw [at2 j hj]; have := hs j hj (by omega); split <;> omega
  rw [dens_formN l hl n hn, (hs_E l sm n 8 (by omega)).1, (ts_E l sm n 8 (by omega)).1] at e1
  rw [dens_formN _ (hl.hit _) n hn, (hs_E _ s1 n 8 (by omega)).1, (ts_E _ s1 n 8 (by omega)).1,
    hsE_up l _ k 1 (fun j hj => at1 j (by omega)) n 8 (by omega), tsE_up l _ k 1 0 (fun j hj => at1 j (by omega)) (fun j hj => by rw [at1 _ (by omega), if_neg (by omega)]; split <;> rfl) n 8 (by omega)] at e2
  rw [dens_formN _ (hl.out _) n hn, (hs_E _ s2 n 8 (by omega)).1, (ts_E _ s2 n 8 (by omega)).1,
    hsE_up l _ k 0 (fun j hj => by rw [at2 _ (by omega), if_neg (by omega)]; split <;> rfl) n 8 (by omega), tsE_up l _ k 0 1 (fun j hj => by rw [at2 _ (by omega), if_neg (by omega)]; split <;> rfl) (fun j hj => by rw [at2 _ (by omega)]; congr 1; by_cases e : j = k; rw [if_pos (by omega), if_pos e]; rw [if_neg (by omega), if_neg e]) n 8 (by omega)] at e3
  have hle := hs_le l hl n 8
  rw [(hs_E l sm n 8 (by omega)).1, (ts_E l sm n 8 (by omega)).1] at hle
  generalize hsE l n 8 = Hh at *
  generalize tsE l n 8 = Tt at *
  constructor
  · intro c
    rw [if_neg (by omega), if_neg (by omega), Nat.add_zero, Nat.add_zero] at e2
    rw [if_neg (by omega), if_neg (by omega), Nat.add_zero, Nat.add_zero] at e3
    exact ⟨by rw [← e2, ← e1], by rw [← e3, ← e1]⟩
  · intro c
    rw [if_pos (by omega), if_pos (by omega)] at e2
    rw [if_pos (by omega), if_pos (by omega), Nat.add_zero, Nat.zero_add, Nat.one_mul] at e3
    refine ⟨?_, ?_, ?_⟩
    · rw [← e3, ← e1]
      exact dnF_out _ _ _ hle (Nat.two_pow_pos k)
    · rw [← e1]; exact dnF_le _ _ hle
    · intro k0
      subst k0
      rw [← e1, ← e2]
      exact dnF_hit _ _ hle
/-- Evictions without hits. -/
def lostL (l : List Nat) : List Nat := z8 ++ l.drop 8
theorem lost_at (l : List Nat) (j : Nat) : (lostL l).getD j 0 = if j < 8 then 0 else l.getD j 0 := by
  unfold lostL
  rw [List.getD_eq_getElem?_getD]
  by_cases h : j < 8
  · rw [if_pos h, List.getElem?_append_left (by show j < 8; exact h)]
    have : j = 0 ∨ j = 1 ∨ j = 2 ∨ j = 3 ∨ j = 4 ∨ j = 5 ∨ j = 6 ∨ j = 7 := by omega
    rcases this with rfl | rfl | rfl | rfl | rfl | rfl | rfl | rfl <;> rfl
  · rw [if_neg h, List.getElem?_append_right (by show 8 ≤ j; omega), List.getElem?_drop, show z8.length = 8 from rfl, show 8 + (j - 8) = j by omega, List.getD_eq_getElem?_getD]
theorem Rk.lost {l : List Nat} (h : Rk l) : Rk (lostL l) := ⟨by unfold lostL; rw [List.length_append, List.length_drop, h.1]; rfl, fun j => by rw [lost_at]; split; omega; exact h.2 j⟩
def anyO (l : List Nat) (k : Nat) : Nat → Bool
  | 0 => false
  | m + 1 => anyO l k m || (decide (k ≤ m) && decide (0 < l.getD (8 + m) 0))
theorem anyO_start (l : List Nat) (k : Nat) : ∀ m, m ≤ k → anyO l k m = false
  | 0, _ => rfl
  | m + 1, h => by
    rw [show anyO l k (m + 1) = (anyO l k m || (decide (k ≤ m) && decide (0 < l.getD (8 + m) 0))) from rfl, anyO_start l k m (by omega), show decide (k ≤ m) = false by simp; omega]
    rfl
theorem hs_lost (l : List Nat) (a : Nat) : ∀ k, k ≤ 8 → hsA (lostL l) a k = 0
  | 0, _ => rfl
  | k + 1, hk => by
    rw [hs_succ, hs_lost l a k (by omega), lost_at, if_pos (show k < 8 by omega), hAdd_zero 0 (by omega)]
    split <;> rfl
theorem ts_lost (l : List Nat) (h : Rk l) (a : Nat) : ∀ k, k ≤ 8 → (tsA (lostL l) a k = 0 ↔ anyO l a k = false)
  | 0, _ => ⟨fun _ => rfl, fun _ => rfl⟩
  | k + 1, hk => by
    have ih := ts_lost l h a k (by omega)
    have h8 := h.2 (8 + k)
    rw [ts_succ, show anyO l a (k + 1) = (anyO l a k || (decide (a ≤ k) && decide (0 < l.getD (8 + k) 0))) from rfl, lost_at, lost_at, if_pos (show k < 8 by omega), if_neg (show ¬8 + k < 8 by omega)]
    have e0 : hAdd 0 (l.getD (8 + k) 0) = l.getD (8 + k) 0 := by unfold hAdd; rw [if_pos (by omega)]; omega
    rw [e0]
    by_cases c : k < a
    · rw [if_pos c, show decide (a ≤ k) = false by simp; omega]
      simpa using ih
    · rw [if_neg c, show decide (a ≤ k) = true by simp; omega]
      generalize l.getD (8 + k) 0 = x at *
      have g := hShl_ge x k h8
      constructor
      · intro e
        obtain ⟨e1, e2⟩ := hAdd_eq0 _ _ e
        rw [ih.1 e1]
        simp
        omega
      · intro e
        simp at e
        obtain ⟨e1, e2⟩ := e
        rw [ih.2 e1, e2, hShl_zero]
        rfl
theorem dens_lost (l : List Nat) (h : Rk l) (a : Nat) (ha : a < 8) : dens (lostL l) (a : Int) = if anyO l a 8 = true then 0 else 4294967296 := by
  rw [dens_formN _ h.lost a ha, hs_lost l a 8 (by omega)]
  unfold dnF
  have := ts_lost l h a 8 (by omega)
  cases hc : anyO l a 8 with
  | false => rw [if_pos (this.2 hc), if_neg (by simp)]
  | true => rw [if_neg (fun e => by rw [this.1 e] at hc; cases hc), if_pos rfl, Nat.zero_mul, Nat.zero_div]
/-- Hits at the age nought alone. -/
def oneL (n : Nat) : List Nat := z16.set 0 n
theorem one_at (n j : Nat) (hj : j < 16) : (oneL n).getD j 0 = if j = 0 then n else 0 := by
  unfold oneL
  rw [getD_set' _ _ _ _ (by decide), z16_at j hj]
theorem rk_one (n : Nat) (h : n < 18446744073709551616) : Rk (oneL n) := rk_z16.set 0 n (by omega) h
theorem hs_one (n a : Nat) (h : n < 18446744073709551616) : ∀ k, k ≤ 8 → hsA (oneL n) a k = if a = 0 ∧ 0 < k then n else 0
  | 0, _ => by rw [if_neg (by omega)]; rfl
  | k + 1, hk => by
    rw [hs_succ, hs_one n a h k (by omega), one_at n k (by omega)]
    by_cases c : k < a
    · rw [if_pos c, if_neg (by omega), if_neg (by omega)]
    · rw [if_neg c]
      by_cases e : k = 0
      · rw [if_pos e, if_neg (by omega), if_pos (by omega)]; unfold hAdd; rw [if_pos (by omega)]; omega
      · rw [if_neg e]
        by_cases f : a = 0 ∧ 0 < k
        · rw [if_pos f, if_pos (by omega), hAdd_zero _ h]
        · rw [if_neg f, if_neg (by omega), hAdd_zero _ (by omega)]
theorem ts_one (n a : Nat) (h : n < 18446744073709551616) : ∀ k, k ≤ 8 → tsA (oneL n) a k = if a = 0 ∧ 0 < k then n else 0
  | 0, _ => by rw [if_neg (by omega)]; rfl
  | k + 1, hk => by
    rw [ts_succ, ts_one n a h k (by omega), one_at n k (by omega), one_at n (8 + k) (by omega), if_neg (show ¬8 + k = 0 by omega)]
    by_cases c : k < a
    · rw [if_pos c, if_neg (by omega), if_neg (by omega)]
    · rw [if_neg c]
      by_cases e : k = 0
      · subst e
        rw [if_pos rfl, if_neg (by omega), if_pos (by omega), hAdd_zero _ h]
        unfold hShl hAdd
        rw [Nat.pow_zero, Nat.mul_one, if_pos h, if_pos (by omega)]; omega
      · rw [if_neg e, hAdd_zero 0 (by omega), hShl_zero]
        by_cases f : a = 0 ∧ 0 < k
        · rw [if_pos f, if_pos (by omega), hAdd_zero _ h]
        · rw [if_neg f, if_neg (by omega), hAdd_zero _ (by omega)]
theorem dens_oneL (n a : Nat) (h : n < 18446744073709551616) (ha : a < 8) : dens (oneL n) (a : Int) = 4294967296 := by
  rw [dens_formN _ (rk_one n h) a ha, hs_one n a h 8 (by omega), ts_one n a h 8 (by omega)]
  unfold dnF
  by_cases e : (if a = 0 ∧ 0 < 8 then n else 0) = 0
  · rw [if_pos e]
  · rw [if_neg e]
    generalize (if a = 0 ∧ 0 < 8 then n else 0) = x at *
    exact Nat.mul_div_cancel_left _ (by omega)
end Go.Proofs.Try
