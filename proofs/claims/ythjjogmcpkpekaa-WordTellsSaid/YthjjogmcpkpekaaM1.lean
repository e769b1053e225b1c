/- Plain arithmetic for the laws of layer 1. -/
import Derived.Test.YthjjogmcpkpekaaWord
namespace Go.Proofs.Try
set_option linter.unusedVariables false
theorem q_addc (a b : Int) : (wAdd a b == wAdd b a) = true := by rw [beq_iff_eq]; unfold wAdd; split <;> split <;> omega
theorem q_mulc (a b : Int) : (wMul a b == wMul b a) = true := by rw [beq_iff_eq]; unfold wMul; rw [Int.mul_comm]
theorem q_adda (a b c : Int) (ha : 0 ≤ a) (hb : 0 ≤ b) (hc : 0 ≤ c) : (wAdd (wAdd a b) c == wAdd a (wAdd b c)) = true := by
  rw [beq_iff_eq]; unfold wAdd; (repeat' split) <;> omega
theorem q_addm (a b c : Int) (h : a ≤ b) : wAdd a c ≤ wAdd b c := by unfold wAdd; (repeat' split) <;> omega
theorem q_mulm (a b c : Int) (h : a ≤ b) (hc : 0 ≤ c) : wMul a c ≤ wMul b c := by
  have := Int.mul_le_mul_of_nonneg_right h hc
  unfold wMul; (repeat' split) <;> omega
theorem q_subm (a b c : Int) (h : a ≤ b) : wSub a c ≤ wSub b c := by unfold wSub; (repeat' split) <;> omega
theorem q_subn (a b c : Int) (h : a ≤ b) : wSub c b ≤ wSub c a := by unfold wSub; (repeat' split) <;> omega
theorem q_minmax (a b : Int) : min a b ≤ max a b := by omega
theorem q_plus (a b : Int) (ha : 0 ≤ a) (hb : 0 ≤ b) (h : a + b < 18446744073709551616) : wPlus a b = a + b ∧ wPlusE a b = 0 ∧ wAdd a b = a + b ∧ wSub (a + b) b = a ∧ wSub (a + b) a = b := by
  unfold wPlus wPlusE wAdd wSub; (repeat' split) <;> omega
theorem q_plus' (a b : Int) (h : ¬ a + b < 18446744073709551616) : wPlus a b = 0 ∧ wPlusE a b = 10 ∧ wAdd a b = 18446744073709551615 := by
  unfold wPlus wPlusE wAdd; (repeat' split) <;> omega
theorem q_shr_shl (a n : Int) (ha : 0 ≤ a) (h : a * 2 ^ n.toNat < 18446744073709551616) : wShr (wShl a n) n = a := by
  have hp := pow_pos' n.toNat
  have e : wShl a n = a * 2 ^ n.toNat := by unfold wShl; rw [if_pos h]
  rw [e]; unfold wShr; rw [Int.mul_ediv_cancel _ (by omega)]
theorem q_shl_big (a n : Int) (h : ¬ a * 2 ^ n.toNat < 18446744073709551616) : wShl a n = 18446744073709551615 := by
  unfold wShl; rw [if_neg h]
theorem q_shl_shr (a n : Int) (ha : 0 ≤ a) (ha' : a ≤ 18446744073709551615) : wShl (wShr a n) n ≤ a := by
  have hp := pow_pos' n.toNat
  have h := Int.mul_ediv_add_emod a (2 ^ n.toNat)
  have h2 := Int.emod_nonneg a (show (2 : Int) ^ n.toNat ≠ 0 by omega)
  rw [Int.mul_comm] at h
  unfold wShl wShr
  split <;> omega
theorem pow_add' (k l : Int) (hk : 0 ≤ k) (hl : 0 ≤ l) : (2 : Int) ^ (k + l).toNat = 2 ^ k.toNat * 2 ^ l.toNat := by
  rw [Int.toNat_add hk hl, Int.pow_add]
theorem q_shr_shr (a k l : Int) (hk : 0 ≤ k) (hl : 0 ≤ l) : (wShr (wShr a k) l == wShr a (k + l)) = true := by
  rw [beq_iff_eq]; unfold wShr
  rw [pow_add' k l hk hl, Int.ediv_ediv_of_nonneg (by have := pow_pos' k.toNat; omega)]
theorem q_shl_shl (a k l : Int) (ha : 0 ≤ a) (hk : 0 ≤ k) (hl : 0 ≤ l) (ha' : a < 18446744073709551616) : (wShl (wShl a k) l == wShl a (k + l)) = true := by
  rw [beq_iff_eq]
  have hp := pow_pos' k.toNat
  have hq := pow_pos' l.toNat
  have h0 : 0 ≤ a * 2 ^ k.toNat := Int.mul_nonneg ha (by omega)
  unfold wShl
  rw [pow_add' k l hk hl, ← Int.mul_assoc]
  by_cases h : a * 2 ^ k.toNat < 18446744073709551616
  · rw [if_pos h]
  · rw [if_neg h]
    have h1 : a * 2 ^ k.toNat * 1 ≤ a * 2 ^ k.toNat * 2 ^ l.toNat := Int.mul_le_mul_of_nonneg_left (by omega) h0
    rw [if_neg (show ¬ a * 2 ^ k.toNat * 2 ^ l.toNat < 18446744073709551616 by omega)]
    have h2 : 18446744073709551615 * 1 ≤ 18446744073709551615 * (2 : Int) ^ l.toNat := Int.mul_le_mul_of_nonneg_left (by omega) (by omega)
    by_cases g : 18446744073709551615 * (2 : Int) ^ l.toNat < 18446744073709551616
    · rw [if_pos g]; omega
    · rw [if_neg g]
theorem q_shl_mul (a k : Int) : (wShl a k == wMul a (2 ^ k.toNat)) = true := by
  rw [beq_iff_eq]; rfl
theorem q_shr_div (a k : Int) : (wShr a k == a / 2 ^ k.toNat) = true := by
  rw [beq_iff_eq]; rfl
theorem q_kinds1 (a : Int) (h : ¬ a ≤ 9223372036854775807) : (wInt a == 9223372036854775807) = true := by rw [beq_iff_eq]; unfold wInt; split <;> omega
theorem q_kinds2 (a : Int) (h0 : 0 ≤ a) (h : a ≤ 9223372036854775807) : (wOf (wInt a) == a) = true := by rw [beq_iff_eq]; unfold wInt wOf; (repeat' split) <;> omega
theorem q_kinds3 (i : Int) (h : i ≤ 9223372036854775807) : (wInt (wOf i) == max i 0) = true := by rw [beq_iff_eq]; unfold wInt wOf; (repeat' split) <;> omega
theorem q_kinds4 (a b : Int) (h : a ≤ b) : wInt a ≤ wInt b := by unfold wInt; (repeat' split) <;> omega
theorem q_kinds5 (a : Int) (h : 0 ≤ a) : 0 ≤ wInt a := by unfold wInt; (repeat' split) <;> omega
theorem wInt_hi (a : Int) : wInt a ≤ 9223372036854775807 := by unfold wInt; (repeat' split) <;> omega
theorem wOf_lo (a : Int) : 0 ≤ wOf a := by unfold wOf; (repeat' split) <;> omega
theorem wOf_hi (a : Int) (h : a ≤ 9223372036854775807) : wOf a ≤ 9223372036854775807 := by unfold wOf; (repeat' split) <;> omega
theorem wSub_lo (a b : Int) : 0 ≤ wSub a b := by unfold wSub; split <;> omega
theorem wSub_hi (a b : Int) (ha : 0 ≤ a) (hb : 0 ≤ b) : wSub a b ≤ a := by unfold wSub; split <;> omega
theorem wMul_lo (a b : Int) (ha : 0 ≤ a) (hb : 0 ≤ b) : 0 ≤ wMul a b := by
  have := Int.mul_nonneg ha hb
  unfold wMul; split <;> omega
theorem wMul_hi (a b : Int) : wMul a b < 18446744073709551616 := by unfold wMul; split <;> omega
end Go.Proofs.Try
