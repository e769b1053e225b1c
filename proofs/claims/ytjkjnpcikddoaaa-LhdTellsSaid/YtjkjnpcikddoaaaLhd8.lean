/- How dense hits are: theory. -/
import Derived.Test.YtjkjnpcikddoaaaLhd3
import Derived.Test.YtjkjnpcikddoaaaLhd6
namespace Go.Proofs.Try
open Go.RowKit
set_option linter.unusedVariables false
set_option linter.unusedSimpArgs false
/-- The hits from an age on. -/
def hsA (l : List Nat) (a : Nat) : Nat → Nat
  | 0 => 0
  | k + 1 => if k < a then hsA l a k else hAdd (hsA l a k) (l.getD k 0)
/-- The times from an age on. -/
def tsA (l : List Nat) (a : Nat) : Nat → Nat
  | 0 => 0
  | k + 1 => if k < a then tsA l a k else hAdd (tsA l a k) (hShl (hAdd (l.getD k 0) (l.getD (8 + k) 0)) k)
theorem hs_succ (l : List Nat) (a k : Nat) : hsA l a (k + 1) = if k < a then hsA l a k else hAdd (hsA l a k) (l.getD k 0) := rfl
theorem ts_succ (l : List Nat) (a k : Nat) : tsA l a (k + 1) = if k < a then tsA l a k else hAdd (tsA l a k) (hShl (hAdd (l.getD k 0) (l.getD (8 + k) 0)) k) := rfl
theorem hAdd_zero (x : Nat) (h : x < 18446744073709551616) : hAdd x 0 = x := by unfold hAdd; rw [if_pos (by omega)]; omega
theorem hShl_zero (k : Nat) : hShl 0 k = 0 := by unfold hShl; rw [Nat.zero_mul, if_pos (by omega)]
theorem hAdd_eq0 (x y : Nat) (h : hAdd x y = 0) : x = 0 ∧ y = 0 := by unfold hAdd at h; split at h <;> omega
theorem hShl_ge (x k : Nat) (h : x < 18446744073709551616) : x ≤ hShl x k := by
  unfold hShl
  have : x * 1 ≤ x * 2 ^ k := Nat.mul_le_mul_left x (Nat.one_le_two_pow)
  split <;> omega
theorem hAdd_mono (a b c d : Nat) (h1 : a ≤ c) (h2 : b ≤ d) (h3 : d < 18446744073709551616) : hAdd a b ≤ hAdd c d := by unfold hAdd; split <;> split <;> omega
theorem hs_lt (l : List Nat) (h : Rk l) (a : Nat) : ∀ k, hsA l a k < 18446744073709551616
  | 0 => by unfold hsA; omega
  | k + 1 => by
    rw [hs_succ]
    split
    · exact hs_lt l h a k
    · exact hAdd_lt _ _ (hs_lt l h a k) (h.2 k)
theorem ts_lt (l : List Nat) (a : Nat) : ∀ k, tsA l a k < 18446744073709551616
  | 0 => by unfold tsA; omega
  | k + 1 => by
    rw [ts_succ]
    split
    · exact ts_lt l a k
    · exact hAdd_lt _ _ (ts_lt l a k) (hShl_lt _ _)
theorem hs_bh (l : List Nat) (h : Rk l) (a : Nat) (ha : a < 8) : ∀ k, k ≤ 8 → hS (bhL l a) k = hsA l a k
  | 0, _ => rfl
  | k + 1, hk => by
    rw [hs_succ, show hS (bhL l a) (k + 1) = hAdd (hS (bhL l a) k) ((bhL l a).getD k 0) from rfl, hs_bh l h a ha k (by omega), bh_at l h.1 a k ha (by omega)]
    by_cases c : k < a
    · rw [if_pos (by omega), if_pos c, hAdd_zero _ (hs_lt l h a k)]
    · rw [if_neg (by omega), if_neg c]
theorem tm_bh (l : List Nat) (h : Rk l) (a : Nat) (ha : a < 8) (k : Nat) (hk : k < 8) : (tmTo (bhL l a) 8).getD k 0 = if k < a then 0 else hShl (hAdd (l.getD k 0) (l.getD (8 + k) 0)) k := by
  rw [tm_at _ _ _ hk, if_pos hk]
  unfold tmv
  rw [bh_at l h.1 a k ha (by omega), bh_at l h.1 a (8 + k) ha (by omega)]
  by_cases c : k < a
  · rw [if_pos (by omega), if_pos (by omega), if_pos c, hAdd_zero 0 (by omega), hShl_zero]
  · rw [if_neg (by omega), if_neg (by omega), if_neg c]
theorem ts_bh (l : List Nat) (h : Rk l) (a : Nat) (ha : a < 8) : ∀ k, k ≤ 8 → hS (tmTo (bhL l a) 8) k = tsA l a k
  | 0, _ => rfl
  | k + 1, hk => by
    rw [ts_succ, show hS (tmTo (bhL l a) 8) (k + 1) = hAdd (hS (tmTo (bhL l a) 8) k) ((tmTo (bhL l a) 8).getD k 0) from rfl, ts_bh l h a ha k (by omega), tm_bh l h a ha k (by omega)]
    by_cases c : k < a
    · rw [if_pos c, if_pos c, hAdd_zero _ (ts_lt l a k)]
    · rw [if_neg c, if_neg c]
theorem hS_eq0 (l : List Nat) : ∀ k, hS l k = 0 → ∀ j, j < k → l.getD j 0 = 0
  | 0, _, j, hj => by omega
  | k + 1, h, j, hj => by
    have := hAdd_eq0 _ _ (show hAdd (hS l k) (l.getD k 0) = 0 from h)
    by_cases e : j = k
    · rw [e]; exact this.2
    · exact hS_eq0 l k this.1 j (by omega)
theorem z16_at (j : Nat) (hj : j < 16) : z16.getD j 0 = 0 := by
  have : j = 0 ∨ j = 1 ∨ j = 2 ∨ j = 3 ∨ j = 4 ∨ j = 5 ∨ j = 6 ∨ j = 7 ∨ j = 8 ∨ j = 9 ∨ j = 10 ∨ j = 11 ∨ j = 12 ∨ j = 13 ∨ j = 14 ∨ j = 15 := by omega
  rcases this with rfl | rfl | rfl | rfl | rfl | rfl | rfl | rfl | rfl | rfl | rfl | rfl | rfl | rfl | rfl | rfl <;> rfl
theorem bh_zero (l : List Nat) (h : Rk l) (a : Nat) (ha : a < 8) : bhL l a = z16 ↔ tsA l a 8 = 0 := by
  rw [← ts_bh l h a ha 8 (by omega)]
  constructor
  · intro e
    rw [e]
    decide +kernel
  · intro e
    have e1 := hS_eq0 _ 8 e
    have e2 : ∀ k, k < 8 → (bhL l a).getD k 0 = 0 ∧ (bhL l a).getD (8 + k) 0 = 0 := by
      intro k hk
      have e3 := e1 k hk
      rw [tm_at _ _ _ hk, if_pos hk] at e3
      unfold tmv at e3
      have e4 := hShl_ge (hAdd ((bhL l a).getD k 0) ((bhL l a).getD (8 + k) 0)) k (hAdd_lt _ _ ((h.bh a ha).2 k) ((h.bh a ha).2 (8 + k)))
      exact hAdd_eq0 _ _ (by omega)
    refine ext16 _ _ (bh_len l a h.1 ha) rfl (fun j hj => ?_)
    rw [z16_at j hj]
    by_cases h8 : j < 8
    · exact (e2 j h8).1
    · have := (e2 (j - 8) (by omega)).2
      rwa [show 8 + (j - 8) = j by omega] at this
theorem hs_le (l : List Nat) (h : Rk l) (a : Nat) : ∀ k, hsA l a k ≤ tsA l a k
  | 0 => Nat.le_refl _
  | k + 1 => by
    rw [hs_succ, ts_succ]
    split
    · exact hs_le l h a k
    · refine hAdd_mono _ _ _ _ (hs_le l h a k) ?_ (hShl_lt _ _)
      have h1 := h.2 k
      have h2 := h.2 (8 + k)
      have h3 := hAdd_lt _ _ h1 h2
      have h4 := hShl_ge (hAdd (l.getD k 0) (l.getD (8 + k) 0)) k h3
      have h5 : l.getD k 0 ≤ hAdd (l.getD k 0) (l.getD (8 + k) 0) := by unfold hAdd; split <;> omega
      omega
/-- A density, from the hits and the times. -/
def dnF (H T : Nat) : Nat := if T = 0 then 4294967296 else H * 4294967296 / T
theorem dnF_le (H T : Nat) (h : H ≤ T) : dnF H T ≤ 4294967296 := by
  unfold dnF
  split
  · omega
  · rename_i hT
    exact Nat.div_le_of_le_mul (by rw [Nat.mul_comm T]; rw [Nat.mul_comm H]; exact Nat.mul_le_mul_left _ h)
theorem dens_form (l : List Nat) (h : Rk l) (a : Nat) (ha : a < 8) : densN l (a : Int) = ((dnF (hsA l a 8) (tsA l a 8) : Nat) : Int) := by
  have hle := hs_le l h a 8
  have hd := dnF_le _ _ hle
  unfold densN
  rw [if_pos (by omega), Int.toNat_natCast]
  by_cases e : bhL l a = z16
  · rw [if_pos e]
    unfold dnF
    rw [if_pos ((bh_zero l h a ha).1 e)]
    rfl
  · rw [if_neg e]
    have e0 : ¬tsA l a 8 = 0 := fun x => e ((bh_zero l h a ha).2 x)
    unfold dnN
    rw [hs_bh l h a ha 8 (by omega), ts_bh l h a ha 8 (by omega)]
    unfold dnF at hd ⊢
    rw [if_neg e0] at hd ⊢
    unfold fl
    have c : ((hsA l a 8 : Nat) : Int) * 4294967296 / ((tsA l a 8 : Nat) : Int) = ((hsA l a 8 * 4294967296 / tsA l a 8 : Nat) : Int) := by simp
    rw [c, if_neg (by omega), if_pos (by omega)]
theorem dens_formN (l : List Nat) (h : Rk l) (a : Nat) (ha : a < 8) : dens l (a : Int) = dnF (hsA l a 8) (tsA l a 8) := by
  unfold dens
  rw [dens_form l h a ha, Int.toNat_natCast]
theorem dens_one (l : List Nat) (h : Rk l) (a : Nat) (ha : a < 8) : dens l (a : Int) ≤ 4294967296 := by
  rw [dens_formN l h a ha]
  exact dnF_le _ _ (hs_le l h a 8)
end Go.Proofs.Try
