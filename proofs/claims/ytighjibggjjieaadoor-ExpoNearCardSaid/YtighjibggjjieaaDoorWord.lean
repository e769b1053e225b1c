/- Contracts of the package word and of linhayref01. -/
import Derived.Test.YtighjibggjjieaaDoorShelf
import Derived.Test.YtighjibggjjieaaDoorBase
import Derived.Handy
import Derived.Lib.Hide
import Derived.Shelf.Spec.BitsCarry
import Derived.Deep.QuietTactic
import Derived.BigQuiet
namespace Go.Proofs.Tryd
open Go.RowKit
set_option linter.unusedVariables false

theorem add64_run (x y c : Int) (hx : 0 ≤ x) (hy : 0 ≤ y) (hc0 : 0 ≤ c) (hc : c ≤ 1) (w : World) :
    (callFunc 38 #[.int .u64 x, .int .u64 y, .int .u64 c]).run Tryd.prog w =
      .ok (.value (.tuple #[.int .u64 ((x + y + c) % 18446744073709551616), .int .u64 ((x + y + c) / 18446744073709551616)])) w := by
  rw [run_callFunc_extern Tryd.func38 (by kernel_rfl) (by kernel_rfl) (by kernel_rfl) (e := add64Entry) (by kernel_rfl), run_add64 x y c hx hy hc0 hc]
  rfl

theorem mul64_c (x y : Int) (hx : 0 ≤ x) (hy : 0 ≤ y) (hx' : x < 18446744073709551616) (hy' : y < 18446744073709551616) (w : World) :
    Calls Tryd.prog 27 #[.int .u64 x, .int .u64 y] w fun e w' => e = .returned (.tuple #[.int .u64 (x * y / 18446744073709551616), .int .u64 (x * y % 18446744073709551616)]) ∧ w = w' := by
  obtain ⟨n, rfl⟩ := Int.eq_ofNat_of_zero_le hx
  obtain ⟨m, rfl⟩ := Int.eq_ofNat_of_zero_le hy
  refine (Tryd.bits_Mul64 n m (by omega) (by omega) w).mono ?_
  rintro e w' ⟨rfl, rfl⟩
  exact ⟨by rw [Int.natCast_ediv, Int.natCast_emod, Int.natCast_mul]; rfl, rfl⟩

def wAdd (a b : Int) : Int := if a + b < 18446744073709551616 then a + b else 18446744073709551615
def wSub (a b : Int) : Int := if a < b then 0 else a - b
def wMul (a b : Int) : Int := if a * b < 18446744073709551616 then a * b else 18446744073709551615
def wPlus (a b : Int) : Int := if a + b < 18446744073709551616 then a + b else 0
def wPlusE (a b : Int) : Int := if a + b < 18446744073709551616 then 0 else 10
def wTimes (a b : Int) : Int := if a * b < 18446744073709551616 then a * b else 0
def wTimesE (a b : Int) : Int := if a * b < 18446744073709551616 then 0 else 10
def wShl (a n : Int) : Int := if a * 2 ^ n.toNat < 18446744073709551616 then a * 2 ^ n.toNat else 18446744073709551615
def wShr (a n : Int) : Int := a / 2 ^ n.toNat
def wOf (n : Int) : Int := if n < 0 then 0 else n
def wInt (a : Int) : Int := if a < 9223372036854775808 then a else 9223372036854775807

theorem pow_min (n : Nat) : (2 : Int) ^ min n 64 = if n < 64 then 2 ^ n else 18446744073709551616 := by
  split
  · rw [Nat.min_eq_left (by omega)]
  · rw [Nat.min_eq_right (by omega)]; rfl
theorem pow_pos' (n : Nat) : (0 : Int) < 2 ^ n := Int.pow_pos (by omega)
theorem pow_big (n : Nat) (h : 64 ≤ n) : (18446744073709551616 : Int) ≤ 2 ^ n := by
  obtain ⟨k, rfl⟩ := Nat.exists_eq_add_of_le h
  rw [Int.pow_add]
  have := pow_pos' k
  have e : (2 : Int) ^ 64 = 18446744073709551616 := rfl
  rw [e]; omega

theorem shl_lost (a : Int) (n : Nat) (ha : 0 ≤ a) (ha' : a < 18446744073709551616) : ((IntKind.u64.wrap (a * 2 ^ min n 64) / 2 ^ min n 64 != a) = true ↔ ¬ a * 2 ^ n < 18446744073709551616) := by
  rw [bne_iff_ne, IntKind.wrap_u64, pow_min]
  have hp := pow_pos' n
  split
  · have hn : 0 ≤ a * 2 ^ n := Int.mul_nonneg ha (by omega)
    constructor
    · intro h h'
      apply h
      rw [Int.emod_eq_of_lt hn h', Int.mul_ediv_cancel _ (by omega)]
    · intro h h'
      have h1 := Int.mul_ediv_add_emod (a * 2 ^ n % 18446744073709551616) (2 ^ n)
      rw [h'] at h1
      have h2 : 0 ≤ a * 2 ^ n % 18446744073709551616 % 2 ^ n := Int.emod_nonneg _ (by omega)
      rw [Int.mul_comm] at h1
      omega
  · rename_i h
    have hb := pow_big n (by omega)
    constructor
    · intro h1 h2
      apply h1
      by_cases h0 : a = 0
      · subst h0; rfl
      · have : 1 * 2 ^ n ≤ a * 2 ^ n := Int.mul_le_mul_of_nonneg_right (by omega) (by omega)
        omega
    · intro h1 h2
      apply h1
      have : a = 0 := by omega
      subst this
      omega

/-! linhayref01 -/
theorem mul_div_lt (a b : Int) (hb : 0 < b) : (18446744073709551615 / b < a) ↔ ¬ a * b < 18446744073709551616 := by
  rw [Int.ediv_lt_iff_lt_mul hb]; omega

theorem wAdd_lo (a b : Int) (ha : 0 ≤ a) (hb : 0 ≤ b) : 0 ≤ wAdd a b := by unfold wAdd; split <;> omega
theorem wAdd_hi (a b : Int) : wAdd a b < 18446744073709551616 := by unfold wAdd; split <;> omega
theorem wShl_lo (a n : Int) (ha : 0 ≤ a) : 0 ≤ wShl a n := by
  unfold wShl; split
  · exact Int.mul_nonneg ha (by have := pow_pos' n.toNat; omega)
  · omega
theorem wShl_hi (a n : Int) : wShl a n < 18446744073709551616 := by unfold wShl; split <;> omega
theorem wShl_zero (a : Int) (ha' : a < 18446744073709551616) : wShl a 0 = a := by
  unfold wShl; simp; intro h; omega
theorem wShl_succ (a : Int) (k : Nat) (ha : 0 ≤ a) : wAdd (wShl a k) (wShl a k) = wShl a ((k : Int) + 1) := by
  have e : ((k : Int) + 1).toNat = k + 1 := by omega
  have e2 : ((k : Int)).toNat = k := by omega
  have hp := pow_pos' k
  have hq : 0 ≤ a * 2 ^ k := Int.mul_nonneg ha (by omega)
  unfold wShl wAdd
  rw [e, e2, Int.pow_succ, ← Int.mul_assoc]
  split <;> split <;> (try split) <;> omega
theorem wShl_big (a : Int) (n : Int) (ha : 0 ≤ a) (hn : 64 ≤ n) : wShl a 64 = wShl a n := by
  have hb := pow_big n.toNat (by omega)
  have e : (64 : Int).toNat = 64 := rfl
  unfold wShl
  rw [e, show (2 : Int) ^ 64 = 18446744073709551616 from rfl]
  by_cases h0 : a = 0
  · subst h0; simp
  · have h1 : 1 * 2 ^ n.toNat ≤ a * 2 ^ n.toNat := Int.mul_le_mul_of_nonneg_right (by omega) (by omega)
    rw [if_neg (by omega), if_neg (by omega)]

theorem wShr_zero (a : Int) : wShr a 0 = a := by unfold wShr; simp
theorem wShr_lo (a n : Int) (ha : 0 ≤ a) : 0 ≤ wShr a n := by
  unfold wShr; exact Int.ediv_nonneg ha (by have := pow_pos' n.toNat; omega)
theorem wShr_hi (a n : Int) (ha : 0 ≤ a) : wShr a n ≤ a := by
  unfold wShr; have := pow_pos' n.toNat; exact Int.ediv_le_self _ ha
theorem wShr_succ (a : Int) (k : Nat) : wShr a k / 2 = wShr a ((k : Int) + 1) := by
  have e : ((k : Int) + 1).toNat = k + 1 := by omega
  have e2 : ((k : Int)).toNat = k := by omega
  unfold wShr
  rw [e, e2, Int.pow_succ, Int.ediv_ediv_of_nonneg (by have := pow_pos' k; omega)]
theorem wShr_big (a n : Int) (ha : 0 ≤ a) (ha' : a < 18446744073709551616) (hn : 64 ≤ n) : wShr a n = 0 := by
  have hb := pow_big n.toNat (by omega)
  unfold wShr; rw [Int.ediv_eq_zero_of_lt ha (by omega)]

end Go.Proofs.Tryd
