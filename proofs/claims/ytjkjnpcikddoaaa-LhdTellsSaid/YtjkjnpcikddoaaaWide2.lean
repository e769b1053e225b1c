/- Contracts of wide.Div and wide.Shr. -/
import Derived.Test.YtjkjnpcikddoaaaWide
import Derived.Test.YtjkjnpcikddoaaaDiv
import Derived.WalkMore
namespace Go.Proofs.Try
open Go.RowKit
set_option linter.unusedVariables false

theorem ret_a3 {a b c d e f g h : Int} (h1 : a = b) (h2 : c = d) (h3 : e = f) (h4 : g = h) : Ending.returned (.tuple #[.agg #[.int .u64 a, .int .u64 c], .int .u64 e, .int .i64 g]) = .returned (.tuple #[.agg #[.int .u64 b, .int .u64 d], .int .u64 f, .int .i64 h]) := by rw [h1, h2, h3, h4]

def dHi (xh d : Int) : Int := xh / d
def dLo (xh xl d : Int) : Int := (xh % d * 18446744073709551616 + xl) / d
def dRest (xh xl d : Int) : Int := if d = 0 then 0 else (xh % d * 18446744073709551616 + xl) % d
def dE (d : Int) : Int := if d = 0 then 20 else 0

theorem div64_z (lo y : Int) (h2 : 0 ≤ lo) (h3 : 0 < y) (g2 : lo < 18446744073709551616) (g3 : y < 18446744073709551616) (w : World) :
    Calls Try.prog 105 #[.int .u64 0, .int .u64 lo, .int .u64 y] w fun r w' => r = .returned (.tuple #[.int .u64 (lo / y), .int .u64 (lo % y)]) ∧ ∃ n, w' = w.drewN n := by
  have e1 : (y == 0) = false := by simp; omega
  have h3' : 1 ≤ y := by omega
  go_enter Try.func105, Try.ntmps105
  go_wp2_with fail
  go_quiet (fail)
  go_wp2_with fail
  go_ret2
  exact ⟨rfl, _, rfl⟩

theorem div64_any (hi lo y : Int) (h1 : 0 ≤ hi) (h2 : 0 ≤ lo) (h3 : hi < y) (g2 : lo < 18446744073709551616) (g3 : y < 18446744073709551616) (w : World) :
    Calls Try.prog 105 #[.int .u64 hi, .int .u64 lo, .int .u64 y] w fun r w' => r = .returned (.tuple #[.int .u64 ((hi * 18446744073709551616 + lo) / y), .int .u64 ((hi * 18446744073709551616 + lo) % y)]) ∧ ∃ n, w' = w.drewN n := by
  by_cases h : hi = 0
  · subst h
    rw [Int.zero_mul, Int.zero_add]
    exact div64_z lo y h2 h3 g2 g3 w
  · refine (div64_c hi lo y (by omega) h2 h3 g2 g3 w).mono ?_
    rintro e w' ⟨rfl, rfl⟩
    exact ⟨rfl, 0, rfl⟩

/-- A contract whose callee draws, met inside a quiet region. -/
theorem quiet_drew {P : Program} {f : FuncId} {args : Array Value} {w : World} {n : Nat} {v : Value}
    (h : Calls P f args (w.drewN n) fun e w' => e = .returned v ∧ ∃ m, w' = (w.drewN n).drewN m) : Calls P f args (w.drewN n) fun e w'' => e = .returned v ∧ ∃ m, w'' = w.drewN m :=
  h.mono fun _ _ ⟨he, m, hm⟩ => ⟨he, n + m, by rw [hm, World.drewN_drewN]⟩

theorem wdiv_c (xh xl d : Int) (h1 : 0 ≤ xh) (h2 : 0 ≤ xl) (h3 : 0 ≤ d) (g1 : xh < 18446744073709551616) (g2 : xl < 18446744073709551616) (g3 : d < 18446744073709551616) (w : World) :
    Calls Try.prog 98 #[.agg #[.int .u64 xh, .int .u64 xl], .int .u64 d] w fun r w' => r = .returned (.tuple #[.agg #[.int .u64 (dHi xh d), .int .u64 (dLo xh xl d)], .int .u64 (dRest xh xl d), .int .i64 (dE d)]) ∧ Below w.heap.size w w' := by
  by_cases h : d = 0
  · subst h
    go_enter Try.func98, Try.ntmps98
    go_wp2
    go_returns
    exact ⟨ret_a3 (by simp [dHi]) (by simp [dLo]) (by simp [dRest]) (by simp [dE]), by go_grown⟩
  · have h1' : 1 ≤ d := by omega
    have e1 : (d == 0) = false := by simp; omega
    have r0 := Int.emod_nonneg xh (show d ≠ 0 by omega)
    have r1 := Int.emod_lt_of_pos xh (show 0 < d by omega)
    go_enter Try.func98, Try.ntmps98
    go_wp2_with fail
    go_quiet ((go_at_call 105; exact quiet_drew (div64_any _ _ _ (by omega) (by omega) (by omega) (by omega) (by omega) _)))
    go_wp2_with fail
    go_returns
    exact ⟨ret_a3 rfl rfl (by rw [dRest, if_neg (by omega)]) (by rw [dE, if_neg (by omega)]), by (repeat' (first | (with_reducible exact Below.refl _ _) | (with_reducible assumption) | (with_reducible refine Below.alloc ?_ ?_ _) | (with_reducible refine Below.drew ?_) | (with_reducible refine Below_drewN ?_ _) | (with_reducible refine Below.setCell ?_ ?_ _) | (with_reducible refine Below.trans ?_ (Below.mono (by with_reducible assumption) ?_)) | go_size))⟩


def wN (xh xl n : Int) : Int := (xh * 18446744073709551616 + xl) / 2 ^ n.toNat
def shHi (xh xl n : Int) : Int := wN xh xl n / 18446744073709551616
def shLo (xh xl n : Int) : Int := wN xh xl n % 18446744073709551616

theorem wN_zero (xh xl : Int) : wN xh xl 0 = xh * 18446744073709551616 + xl := by unfold wN; simp
theorem wN_big (xh xl n : Int) (h1 : 0 ≤ xh) (h2 : 0 ≤ xl) (g1 : xh < 18446744073709551616) (g2 : xl < 18446744073709551616) (hn : 128 ≤ n) : wN xh xl n = 0 := by
  unfold wN
  have hp : (340282366920938463463374607431768211456 : Int) ≤ 2 ^ n.toNat := by
    obtain ⟨k, hk⟩ := Nat.exists_eq_add_of_le (show 128 ≤ n.toNat by omega)
    rw [hk, Int.pow_add]
    have := pow_pos' k
    have e : (2 : Int) ^ 128 = 340282366920938463463374607431768211456 := rfl
    rw [e]; omega
  exact Int.ediv_eq_zero_of_lt (by omega) (by omega)
theorem wN_add (xh xl k l : Int) (hk : 0 ≤ k) (hl : 0 ≤ l) : wN xh xl (k + l) = wN xh xl k / 2 ^ l.toNat := by
  unfold wN
  rw [Int.toNat_add hk hl, Int.pow_add, Int.ediv_ediv_of_nonneg (by have := pow_pos' k.toNat; omega)]

/-- One step of 64 places. -/
theorem wN_step (xh xl : Int) (k : Nat) (h l : Int) (hl0 : 0 ≤ l) (hl1 : l < 18446744073709551616) (e : h * 18446744073709551616 + l = wN xh xl (64 * k)) : h = wN xh xl (64 * ((k : Int) + 1)) := by
  rw [show 64 * ((k : Int) + 1) = 64 * k + 64 by omega, wN_add xh xl _ _ (by omega) (by omega), ← e]
  rw [show (2 : Int) ^ (64 : Int).toNat = 18446744073709551616 from rfl]
  omega
theorem wN_lost (xh xl : Int) (k n : Int) (hk : 0 ≤ k) (hkn : k ≤ n) (e : wN xh xl k = 0) : wN xh xl n = 0 := by
  rw [show n = k + (n - k) by omega, wN_add xh xl _ _ hk (by omega), e]; simp

/-- A shift by less than a word, as its bits. -/
theorem shr_bits (h l : Int) (m : Nat) (hm : m < 64) (hh0 : 0 ≤ h) (hh1 : h < 18446744073709551616) (hl0 : 0 ≤ l) (hl1 : l < 18446744073709551616) :
    h / 2 ^ m = (h * 18446744073709551616 + l) / 2 ^ m / 18446744073709551616 ∧ bits .or .u64 (l / 2 ^ m) (IntKind.u64.wrap (h * 2 ^ (64 - m))) = (h * 18446744073709551616 + l) / 2 ^ m % 18446744073709551616 := by
  obtain ⟨a, rfl⟩ := Int.eq_ofNat_of_zero_le hh0
  obtain ⟨b, rfl⟩ := Int.eq_ofNat_of_zero_le hl0
  have p1 : 0 < 2 ^ m := Nat.pow_pos (by omega)
  have p2 : 0 < 2 ^ (64 - m) := Nat.pow_pos (by omega)
  have p3 : 2 ^ m * 2 ^ (64 - m) = 18446744073709551616 := by rw [← Nat.pow_add, show m + (64 - m) = 64 by omega]
  have c1 : ((a : Int) * 2 ^ (64 - m)) = ((a * 2 ^ (64 - m) : Nat) : Int) := by simp
  have c2 : ((b : Int) / 2 ^ m) = ((b / 2 ^ m : Nat) : Int) := by simp
  have c3 : ((a : Int) / 2 ^ m) = ((a / 2 ^ m : Nat) : Int) := by simp
  have c4 : (((a : Int) * 18446744073709551616 + b) / 2 ^ m) = (((a * 18446744073709551616 + b) / 2 ^ m : Nat) : Int) := by
    rw [show ((2 : Int) ^ m) = ((2 ^ m : Nat) : Int) by simp, show (a : Int) * 18446744073709551616 + b = ((a * 18446744073709551616 + b : Nat) : Int) by omega, Int.natCast_ediv]
  have e1 : (a * 18446744073709551616 + b) / 2 ^ m = a * 2 ^ (64 - m) + b / 2 ^ m := by
    rw [← p3, ← Nat.mul_assoc, Nat.mul_comm a, Nat.mul_assoc, Nat.mul_add_div p1]
  have d1 := Nat.div_add_mod a (2 ^ m)
  have d2 := Nat.mod_lt a p1
  have e2 : a * 2 ^ (64 - m) = a / 2 ^ m * 18446744073709551616 + a % 2 ^ m * 2 ^ (64 - m) := by
    conv => lhs; rw [← d1, Nat.add_mul, Nat.mul_comm (2 ^ m), Nat.mul_assoc, p3]
  have e3 : (a % 2 ^ m + 1) * 2 ^ (64 - m) ≤ 18446744073709551616 := by
    rw [← p3]; exact Nat.mul_le_mul_right _ (by omega)
  rw [Nat.add_mul] at e3
  have e4 : b / 2 ^ m < 2 ^ (64 - m) := by
    rw [Nat.div_lt_iff_lt_mul p1, Nat.mul_comm, p3]; omega
  have e5 : IntKind.u64.wrap ((a : Int) * 2 ^ (64 - m)) = ((a % 2 ^ m * 2 ^ (64 - m) : Nat) : Int) := by
    rw [c1, IntKind.wrap_u64, e2]; omega
  have e6 : a % 2 ^ m * 2 ^ (64 - m) < 18446744073709551616 := by omega
  have e7 : b / 2 ^ m < 18446744073709551616 := by have := Nat.div_le_self b (2 ^ m); omega
  rw [c4, e1, e5, c2, c3, bits_or_u64_nat _ _ e7 e6, Nat.or_comm, or_add _ _ _ e4, e2]
  clear c1 c2 c3 c4 e1 e5 e2 d1
  generalize a % 2 ^ m * 2 ^ (64 - m) = X at *
  generalize b / 2 ^ m = Z at *
  generalize a / 2 ^ m = A at *
  generalize 2 ^ (64 - m) = R at *
  constructor <;> omega

end Go.Proofs.Try
