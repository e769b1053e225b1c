/- Contracts of the package word and of linhayref01. -/
import Derived.Test.YtjcclobnpbgmcaaDoorShelf
import Derived.Test.YtjcclobnpbgmcaaDoorBase
import Derived.Handy
import Derived.Lib.Hide
import Derived.Shelf.Spec.BitsCarry
import Derived.Deep.QuietTactic
import Derived.BigQuiet
namespace Go.Proofs.Tryd
open Go.RowKit
set_option linter.unusedVariables false

theorem add64_run (x y c : Int) (hx : 0 ≤ x) (hy : 0 ≤ y) (hc0 : 0 ≤ c) (hc : c ≤ 1) (w : World) :
    (callFunc 70 #[.int .u64 x, .int .u64 y, .int .u64 c]).run Tryd.prog w =
      .ok (.value (.tuple #[.int .u64 ((x + y + c) % 18446744073709551616), .int .u64 ((x + y + c) / 18446744073709551616)])) w := by
  rw [run_callFunc_extern Tryd.func70 (by kernel_rfl) (by kernel_rfl) (by kernel_rfl) (e := add64Entry) (by kernel_rfl), run_add64 x y c hx hy hc0 hc]
  rfl

theorem mul64_c (x y : Int) (hx : 0 ≤ x) (hy : 0 ≤ y) (hx' : x < 18446744073709551616) (hy' : y < 18446744073709551616) (w : World) :
    Calls Tryd.prog 58 #[.int .u64 x, .int .u64 y] w fun e w' => e = .returned (.tuple #[.int .u64 (x * y / 18446744073709551616), .int .u64 (x * y % 18446744073709551616)]) ∧ w = w' := by
  obtain ⟨n, rfl⟩ := Int.eq_ofNat_of_zero_le hx
  obtain ⟨m, rfl⟩ := Int.eq_ofNat_of_zero_le hy
  refine (Tryd.bits_Mul64 n m (by omega) (by omega) w).mono ?_
  rintro e w' ⟨rfl, rfl⟩
  exact ⟨by rw [Int.natCast_ediv, Int.natCast_emod, Int.natCast_mul]; rfl, rfl⟩

theorem held_u (n e : Int) (p : Bool) (w : World) :
    Calls Tryd.prog 59 #[.int .u64 n, .bool p, .int .u64 e] w fun r w' => r = .returned (.int .u64 (pik p e n)) ∧ w = w' := by
  cases p
  all_goals
    go_enter Tryd.func59, Tryd.ntmps59
    go_wp2
    go_ret
    exact ⟨rfl, rfl⟩

def wAdd (a b : Int) : Int := if a + b < 18446744073709551616 then a + b else 18446744073709551615
def wSub (a b : Int) : Int := if a < b then 0 else a - b
def wMul (a b : Int) : Int := if a * b < 18446744073709551616 then a * b else 18446744073709551615
def wPlus (a b : Int) : Int := if a + b < 18446744073709551616 then a + b else 0
def wPlusE (a b : Int) : Int := if a + b < 18446744073709551616 then 0 else 10
def wTimes (a b : Int) : Int := if a * b < 18446744073709551616 then a * b else 0
def wTimesE (a b : Int) : Int := if a * b < 18446744073709551616 then 0 else 10
def wShl (a n : Int) : Int := if a * 2 ^ n.toNat < 18446744073709551616 then a * 2 ^ n.toNat else 18446744073709551615
def wShr (a n : Int) : Int := a / 2 ^ n.toNat
def wOf (n : Int) : Int := if n < 0 then 0 else n
def wInt (a : Int) : Int := if a < 9223372036854775808 then a else 9223372036854775807

theorem add_c (a b : Int) (ha : 0 ≤ a) (hb : 0 ≤ b) (ha' : a < 18446744073709551616) (hb' : b < 18446744073709551616) (w : World) :
    Calls Tryd.prog 55 #[.int .u64 a, .int .u64 b] w fun r w' => r = .returned (.int .u64 (wAdd a b)) ∧ w = w' := by
  have hA := add64_run a b 0 ha hb (by omega) (by omega)
  go_enter Tryd.func55, Tryd.ntmps55
  go_wp2_with fail
  refine (held_u _ _ _ _).mono ?_
  rintro e w' ⟨rfl, rfl⟩
  go_wp2
  go_ret
  exact ⟨ret_i (by unfold wAdd pik; split <;> split <;> rename_i h g <;> simp at h <;> omega), rfl⟩

theorem mul_c (a b : Int) (ha : 0 ≤ a) (hb : 0 ≤ b) (ha' : a < 18446744073709551616) (hb' : b < 18446744073709551616) (w : World) :
    Calls Tryd.prog 43 #[.int .u64 a, .int .u64 b] w fun r w' => r = .returned (.int .u64 (wMul a b)) ∧ w = w' := by
  have hp : 0 ≤ a * b := Int.mul_nonneg ha hb
  go_enter Tryd.func43, Tryd.ntmps43
  go_wp2_with fail
  refine (mul64_c _ _ ha hb ha' hb' _).mono ?_
  rintro e w' ⟨rfl, rfl⟩
  go_wp2_with fail
  refine (held_u _ _ _ _).mono ?_
  rintro e w' ⟨rfl, rfl⟩
  go_wp2
  go_ret
  exact ⟨ret_i (by unfold wMul pik; split <;> split <;> rename_i h g <;> simp at h <;> omega), rfl⟩

theorem pow_min (n : Nat) : (2 : Int) ^ min n 64 = if n < 64 then 2 ^ n else 18446744073709551616 := by
  split
  · rw [Nat.min_eq_left (by omega)]
  · rw [Nat.min_eq_right (by omega)]; rfl
theorem pow_pos' (n : Nat) : (0 : Int) < 2 ^ n := Int.pow_pos (by omega)
theorem pow_big (n : Nat) (h : 64 ≤ n) : (18446744073709551616 : Int) ≤ 2 ^ n := by
  obtain ⟨k, rfl⟩ := Nat.exists_eq_add_of_le h
  rw [Int.pow_add]
  have := pow_pos' k
  have e : (2 : Int) ^ 64 = 18446744073709551616 := rfl
  rw [e]; omega

theorem shl_lost (a : Int) (n : Nat) (ha : 0 ≤ a) (ha' : a < 18446744073709551616) : ((IntKind.u64.wrap (a * 2 ^ min n 64) / 2 ^ min n 64 != a) = true ↔ ¬ a * 2 ^ n < 18446744073709551616) := by
  rw [bne_iff_ne, IntKind.wrap_u64, pow_min]
  have hp := pow_pos' n
  split
  · have hn : 0 ≤ a * 2 ^ n := Int.mul_nonneg ha (by omega)
    constructor
    · intro h h'
      apply h
      rw [Int.emod_eq_of_lt hn h', Int.mul_ediv_cancel _ (by omega)]
    · intro h h'
      have h1 := Int.mul_ediv_add_emod (a * 2 ^ n % 18446744073709551616) (2 ^ n)
      rw [h'] at h1
      have h2 : 0 ≤ a * 2 ^ n % 18446744073709551616 % 2 ^ n := Int.emod_nonneg _ (by omega)
      rw [Int.mul_comm] at h1
      omega
  · rename_i h
    have hb := pow_big n (by omega)
    constructor
    · intro h1 h2
      apply h1
      by_cases h0 : a = 0
      · subst h0; rfl
      · have : 1 * 2 ^ n ≤ a * 2 ^ n := Int.mul_le_mul_of_nonneg_right (by omega) (by omega)
        omega
    · intro h1 h2
      apply h1
      have : a = 0 := by omega
      subst this
      omega

theorem of_c (n : Int) (h : -9223372036854775808 ≤ n) (h' : n ≤ 9223372036854775807) (w : World) :
    Calls Tryd.prog 56 #[.int .i64 n] w fun r w' => r = .returned (.int .u64 (wOf n)) ∧ w = w' := by
  go_enter Tryd.func56, Tryd.ntmps56
  go_wp2_with fail
  refine (held_u _ _ _ _).mono ?_
  rintro e w' ⟨rfl, rfl⟩
  go_wp2
  go_ret
  exact ⟨ret_i (by unfold wOf pik; split <;> split <;> rename_i h g <;> simp at h <;> first | omega | (rw [IntKind.wrap_u64]; omega)), rfl⟩

/-! linhayref01 -/
theorem rplus_c (a b : Int) (ha : 0 ≤ a) (hb : 0 ≤ b) (ha' : a < 18446744073709551616) (hb' : b < 18446744073709551616) (w : World) :
    Calls Tryd.prog 57 #[.int .u64 a, .int .u64 b] w fun r w' => r = .returned (.tuple #[.int .u64 (wPlus a b), .int .i64 (wPlusE a b)]) ∧ w = w' := by
  by_cases h : a + b < 18446744073709551616
  all_goals
    go_enter Tryd.func57, Tryd.ntmps57
    go_wp2
    go_ret2
    first
    | exact ⟨ret_ii (by rw [wPlus, if_pos (by omega)]) (by rw [wPlusE, if_pos (by omega)]), rfl⟩
    | exact ⟨ret_ii (by rw [wPlus, if_neg (by omega)]) (by rw [wPlusE, if_neg (by omega)]), rfl⟩

theorem mul_div_lt (a b : Int) (hb : 0 < b) : (18446744073709551615 / b < a) ↔ ¬ a * b < 18446744073709551616 := by
  rw [Int.ediv_lt_iff_lt_mul hb]; omega

theorem rtimes_c (a b : Int) (ha : 0 ≤ a) (hb : 0 ≤ b) (ha' : a < 18446744073709551616) (hb' : b < 18446744073709551616) (w : World) :
    Calls Tryd.prog 51 #[.int .u64 a, .int .u64 b] w fun r w' => r = .returned (.tuple #[.int .u64 (wTimes a b), .int .i64 (wTimesE a b)]) ∧ w = w' := by
  have hp : 0 ≤ a * b := Int.mul_nonneg ha hb
  by_cases h0 : b = 0
  · subst h0
    go_enter Tryd.func51, Tryd.ntmps51
    go_wp2
    go_ret2
    exact ⟨ret_ii (by simp [wTimes]) (by simp [wTimesE]), rfl⟩
  · have h0' : 1 ≤ b := by omega
    have hd := mul_div_lt a b (by omega)
    by_cases h : a * b < 18446744073709551616
    · have hn : decide (18446744073709551615 / b < a) = false := by
        simp only [decide_eq_false_iff_not]; exact fun k => absurd h (hd.1 k)
      clear hd
      go_enter Tryd.func51, Tryd.ntmps51
      go_wp2
      go_ret2
      exact ⟨ret_ii (by rw [wTimes, if_pos (by omega)]) (by rw [wTimesE, if_pos (by omega)]), rfl⟩
    · have hn : decide (18446744073709551615 / b < a) = true := by
        simp only [decide_eq_true_eq]; exact hd.2 h
      clear hd
      go_enter Tryd.func51, Tryd.ntmps51
      go_wp2
      go_ret2
      exact ⟨ret_ii (by rw [wTimes, if_neg (by omega)]) (by rw [wTimesE, if_neg (by omega)]), rfl⟩

theorem radd_c (a b : Int) (ha : 0 ≤ a) (hb : 0 ≤ b) (ha' : a < 18446744073709551616) (hb' : b < 18446744073709551616) (w : World) :
    Calls Tryd.prog 41 #[.int .u64 a, .int .u64 b] w fun r w' => r = .returned (.int .u64 (wAdd a b)) ∧ w = w' := by
  by_cases h : a + b < 18446744073709551616
  · have h1 : (wPlusE a b != 0) = false := by rw [wPlusE, if_pos (by omega)]; rfl
    go_enter Tryd.func41, Tryd.ntmps41
    go_wp2_with (refine (rplus_c _ _ ha hb ha' hb' _).mono ?_; rintro e w' ⟨rfl, rfl⟩)
    go_ret
    exact ⟨ret_i (by rw [wPlus, wAdd, if_pos (by omega), if_pos (by omega)]), rfl⟩
  · have h1 : (wPlusE a b != 0) = true := by rw [wPlusE, if_neg (by omega)]; rfl
    go_enter Tryd.func41, Tryd.ntmps41
    go_wp2_with (refine (rplus_c _ _ ha hb ha' hb' _).mono ?_; rintro e w' ⟨rfl, rfl⟩)
    go_ret
    exact ⟨ret_i (by rw [wAdd, if_neg (by omega)]), rfl⟩

theorem rmul_c (a b : Int) (ha : 0 ≤ a) (hb : 0 ≤ b) (ha' : a < 18446744073709551616) (hb' : b < 18446744073709551616) (w : World) :
    Calls Tryd.prog 36 #[.int .u64 a, .int .u64 b] w fun r w' => r = .returned (.int .u64 (wMul a b)) ∧ w = w' := by
  by_cases h : a * b < 18446744073709551616
  · have h1 : (wTimesE a b != 0) = false := by rw [wTimesE, if_pos (by omega)]; rfl
    go_enter Tryd.func36, Tryd.ntmps36
    go_wp2_with (refine (rtimes_c _ _ ha hb ha' hb' _).mono ?_; rintro e w' ⟨rfl, rfl⟩)
    go_ret
    exact ⟨ret_i (by rw [wTimes, wMul, if_pos (by omega), if_pos (by omega)]), rfl⟩
  · have h1 : (wTimesE a b != 0) = true := by rw [wTimesE, if_neg (by omega)]; rfl
    go_enter Tryd.func36, Tryd.ntmps36
    go_wp2_with (refine (rtimes_c _ _ ha hb ha' hb' _).mono ?_; rintro e w' ⟨rfl, rfl⟩)
    go_ret
    exact ⟨ret_i (by rw [wMul, if_neg (by omega)]), rfl⟩

theorem rof_c (n : Int) (h : -9223372036854775808 ≤ n) (h' : n ≤ 9223372036854775807) (w : World) :
    Calls Tryd.prog 42 #[.int .i64 n] w fun r w' => r = .returned (.int .u64 (wOf n)) ∧ w = w' := by
  by_cases h : n < 0
  all_goals
    go_enter Tryd.func42, Tryd.ntmps42
    go_wp2
    go_ret
    first
    | exact ⟨ret_i (by rw [wOf, if_pos (by omega)]), rfl⟩
    | exact ⟨ret_i (by rw [wOf, if_neg (by omega)]), rfl⟩

theorem wAdd_lo (a b : Int) (ha : 0 ≤ a) (hb : 0 ≤ b) : 0 ≤ wAdd a b := by unfold wAdd; split <;> omega
theorem wAdd_hi (a b : Int) : wAdd a b < 18446744073709551616 := by unfold wAdd; split <;> omega
theorem wShl_lo (a n : Int) (ha : 0 ≤ a) : 0 ≤ wShl a n := by
  unfold wShl; split
  · exact Int.mul_nonneg ha (by have := pow_pos' n.toNat; omega)
  · omega
theorem wShl_hi (a n : Int) : wShl a n < 18446744073709551616 := by unfold wShl; split <;> omega
theorem wShl_zero (a : Int) (ha' : a < 18446744073709551616) : wShl a 0 = a := by
  unfold wShl; simp; intro h; omega
theorem wShl_succ (a : Int) (k : Nat) (ha : 0 ≤ a) : wAdd (wShl a k) (wShl a k) = wShl a ((k : Int) + 1) := by
  have e : ((k : Int) + 1).toNat = k + 1 := by omega
  have e2 : ((k : Int)).toNat = k := by omega
  have hp := pow_pos' k
  have hq : 0 ≤ a * 2 ^ k := Int.mul_nonneg ha (by omega)
  unfold wShl wAdd
  rw [e, e2, Int.pow_succ, ← Int.mul_assoc]
  split <;> split <;> (try split) <;> omega
theorem wShl_big (a : Int) (n : Int) (ha : 0 ≤ a) (hn : 64 ≤ n) : wShl a 64 = wShl a n := by
  have hb := pow_big n.toNat (by omega)
  have e : (64 : Int).toNat = 64 := rfl
  unfold wShl
  rw [e, show (2 : Int) ^ 64 = 18446744073709551616 from rfl]
  by_cases h0 : a = 0
  · subst h0; simp
  · have h1 : 1 * 2 ^ n.toNat ≤ a * 2 ^ n.toNat := Int.mul_le_mul_of_nonneg_right (by omega) (by omega)
    rw [if_neg (by omega), if_neg (by omega)]

theorem rshl_c (a n : Int) (ha : 0 ≤ a) (ha' : a < 18446744073709551616) (hn : 0 ≤ n) (hn' : n < 18446744073709551616) (w : World) :
    Calls Tryd.prog 60 #[.int .u64 a, .int .u64 n] w fun r w' => r = .returned (.int .u64 (wShl a n)) ∧ w = w' := by
  have H0 := Lib.hid (wShl_zero a ha')
  go_enter Tryd.func60, Tryd.ntmps60
  go_wp2_with fail
  go_loop [0, 5] (fun x i => ∃ k : Nat, k ≤ 64 ∧ (k : Int) ≤ n ∧ i = .int .u64 k ∧ x = .int .u64 (wShl a k)) (fun _ i => 64 - (intOf i).toNat)
  case atStart => exact ⟨0, by omega, by omega, rfl, by rw [show ((0 : Nat) : Int) = 0 from rfl, H0.out]⟩
  case round =>
    obtain ⟨k, hk, hkn, rfl, rfl⟩ := hrel
    have hlo := wShl_lo a k ha
    have hhi := wShl_hi a k
    have HS := Lib.hid (wShl_succ a k ha)
    have HB := Lib.hid (wShl_big a n ha)
    by_cases h1 : (k : Int) < n
    · by_cases h2 : k < 64
      · go_wp2_with (refine (radd_c _ _ hlo hlo hhi hhi _).mono ?_; rintro e w' ⟨rfl, rfl⟩)
        go_round
        case rel => exact ⟨k + 1, by omega, by omega, by go_num, by rw [HS.out]; go_num⟩
        case measure => simp [intOf]; omega
      · go_wp2
        go_ret
        obtain rfl : k = 64 := by omega
        exact ⟨ret_i (HB.out (by omega)), rfl⟩
    · go_wp2
      go_ret
      obtain rfl : n = k := by omega
      exact ⟨rfl, rfl⟩

theorem wShr_zero (a : Int) : wShr a 0 = a := by unfold wShr; simp
theorem wShr_lo (a n : Int) (ha : 0 ≤ a) : 0 ≤ wShr a n := by
  unfold wShr; exact Int.ediv_nonneg ha (by have := pow_pos' n.toNat; omega)
theorem wShr_hi (a n : Int) (ha : 0 ≤ a) : wShr a n ≤ a := by
  unfold wShr; have := pow_pos' n.toNat; exact Int.ediv_le_self _ ha
theorem wShr_succ (a : Int) (k : Nat) : wShr a k / 2 = wShr a ((k : Int) + 1) := by
  have e : ((k : Int) + 1).toNat = k + 1 := by omega
  have e2 : ((k : Int)).toNat = k := by omega
  unfold wShr
  rw [e, e2, Int.pow_succ, Int.ediv_ediv_of_nonneg (by have := pow_pos' k; omega)]
theorem wShr_big (a n : Int) (ha : 0 ≤ a) (ha' : a < 18446744073709551616) (hn : 64 ≤ n) : wShr a n = 0 := by
  have hb := pow_big n.toNat (by omega)
  unfold wShr; rw [Int.ediv_eq_zero_of_lt ha (by omega)]

end Go.Proofs.Tryd
