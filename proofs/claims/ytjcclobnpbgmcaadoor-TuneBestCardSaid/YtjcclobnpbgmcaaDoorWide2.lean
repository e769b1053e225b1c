/- Contracts of wide.Div and wide.Shr. -/
import Derived.Test.YtjcclobnpbgmcaaDoorWide
import Derived.Test.YtjcclobnpbgmcaaDoorDiv
import Derived.WalkMore
namespace Go.Proofs.Tryd
open Go.RowKit
set_option linter.unusedVariables false

theorem ret_a3 {a b c d e f g h : Int} (h1 : a = b) (h2 : c = d) (h3 : e = f) (h4 : g = h) : Ending.returned (.tuple #[.agg #[.int .u64 a, .int .u64 c], .int .u64 e, .int .i64 g]) = .returned (.tuple #[.agg #[.int .u64 b, .int .u64 d], .int .u64 f, .int .i64 h]) := by rw [h1, h2, h3, h4]

def dHi (xh d : Int) : Int := xh / d
def dLo (xh xl d : Int) : Int := (xh % d * 18446744073709551616 + xl) / d
def dRest (xh xl d : Int) : Int := if d = 0 then 0 else (xh % d * 18446744073709551616 + xl) % d
def dE (d : Int) : Int := if d = 0 then 20 else 0

theorem div64_z (lo y : Int) (h2 : 0 ≤ lo) (h3 : 0 < y) (g2 : lo < 18446744073709551616) (g3 : y < 18446744073709551616) (w : World) :
    Calls Tryd.prog 83 #[.int .u64 0, .int .u64 lo, .int .u64 y] w fun r w' => r = .returned (.tuple #[.int .u64 (lo / y), .int .u64 (lo % y)]) ∧ ∃ n, w' = w.drewN n := by
  have e1 : (y == 0) = false := by simp; omega
  have h3' : 1 ≤ y := by omega
  go_enter Tryd.func83, Tryd.ntmps83
  go_wp2_with fail
  go_quiet (fail)
  go_wp2_with fail
  go_ret2
  exact ⟨rfl, _, rfl⟩

theorem div64_any (hi lo y : Int) (h1 : 0 ≤ hi) (h2 : 0 ≤ lo) (h3 : hi < y) (g2 : lo < 18446744073709551616) (g3 : y < 18446744073709551616) (w : World) :
    Calls Tryd.prog 83 #[.int .u64 hi, .int .u64 lo, .int .u64 y] w fun r w' => r = .returned (.tuple #[.int .u64 ((hi * 18446744073709551616 + lo) / y), .int .u64 ((hi * 18446744073709551616 + lo) % y)]) ∧ ∃ n, w' = w.drewN n := by
  by_cases h : hi = 0
  · subst h
    rw [Int.zero_mul, Int.zero_add]
    exact div64_z lo y h2 h3 g2 g3 w
  · refine (div64_c hi lo y (by omega) h2 h3 g2 g3 w).mono ?_
    rintro e w' ⟨rfl, rfl⟩
    exact ⟨rfl, 0, rfl⟩

/-- A contract whose callee draws, met inside a quiet region. -/
theorem quiet_drew {P : Program} {f : FuncId} {args : Array Value} {w : World} {n : Nat} {v : Value}
    (h : Calls P f args (w.drewN n) fun e w' => e = .returned v ∧ ∃ m, w' = (w.drewN n).drewN m) : Calls P f args (w.drewN n) fun e w'' => e = .returned v ∧ ∃ m, w'' = w.drewN m :=
  h.mono fun _ _ ⟨he, m, hm⟩ => ⟨he, n + m, by rw [hm, World.drewN_drewN]⟩

theorem wdiv_c (xh xl d : Int) (h1 : 0 ≤ xh) (h2 : 0 ≤ xl) (h3 : 0 ≤ d) (g1 : xh < 18446744073709551616) (g2 : xl < 18446744073709551616) (g3 : d < 18446744073709551616) (w : World) :
    Calls Tryd.prog 79 #[.agg #[.int .u64 xh, .int .u64 xl], .int .u64 d] w fun r w' => r = .returned (.tuple #[.agg #[.int .u64 (dHi xh d), .int .u64 (dLo xh xl d)], .int .u64 (dRest xh xl d), .int .i64 (dE d)]) ∧ Below w.heap.size w w' := by
  by_cases h : d = 0
  · subst h
    go_enter Tryd.func79, Tryd.ntmps79
    go_wp2
    go_returns
    exact ⟨ret_a3 (by simp [dHi]) (by simp [dLo]) (by simp [dRest]) (by simp [dE]), by go_grown⟩
  · have h1' : 1 ≤ d := by omega
    have e1 : (d == 0) = false := by simp; omega
    have r0 := Int.emod_nonneg xh (show d ≠ 0 by omega)
    have r1 := Int.emod_lt_of_pos xh (show 0 < d by omega)
    go_enter Tryd.func79, Tryd.ntmps79
    go_wp2_with fail
    go_quiet ((go_at_call 83; exact quiet_drew (div64_any _ _ _ (by omega) (by omega) (by omega) (by omega) (by omega) _)))
    go_wp2_with fail
    go_returns
    exact ⟨ret_a3 rfl rfl (by rw [dRest, if_neg (by omega)]) (by rw [dE, if_neg (by omega)]), by (repeat' (first | (with_reducible exact Below.refl _ _) | (with_reducible assumption) | (with_reducible refine Below.alloc ?_ ?_ _) | (with_reducible refine Below.drew ?_) | (with_reducible refine Below_drewN ?_ _) | (with_reducible refine Below.setCell ?_ ?_ _) | (with_reducible refine Below.trans ?_ (Below.mono (by with_reducible assumption) ?_)) | go_size))⟩


def wN (xh xl n : Int) : Int := (xh * 18446744073709551616 + xl) / 2 ^ n.toNat
def shHi (xh xl n : Int) : Int := wN xh xl n / 18446744073709551616
def shLo (xh xl n : Int) : Int := wN xh xl n % 18446744073709551616

theorem wN_zero (xh xl : Int) : wN xh xl 0 = xh * 18446744073709551616 + xl := by unfold wN; simp
theorem wN_big (xh xl n : Int) (h1 : 0 ≤ xh) (h2 : 0 ≤ xl) (g1 : xh < 18446744073709551616) (g2 : xl < 18446744073709551616) (hn : 128 ≤ n) : wN xh xl n = 0 := by
  unfold wN
  have hp : (340282366920938463463374607431768211456 : Int) ≤ 2 ^ n.toNat := by
    obtain ⟨k, hk⟩ := Nat.exists_eq_add_of_le (show 128 ≤ n.toNat by omega)
    rw [hk, Int.pow_add]
    have := pow_pos' k
    have e : (2 : Int) ^ 128 = 340282366920938463463374607431768211456 := rfl
    rw [e]; omega
  exact Int.ediv_eq_zero_of_lt (by omega) (by omega)
theorem wN_add (xh xl k l : Int) (hk : 0 ≤ k) (hl : 0 ≤ l) : wN xh xl (k + l) = wN xh xl k / 2 ^ l.toNat := by
  unfold wN
  rw [Int.toNat_add hk hl, Int.pow_add, Int.ediv_ediv_of_nonneg (by have := pow_pos' k.toNat; omega)]

/-- One step of 64 places. -/
theorem wN_step (xh xl : Int) (k : Nat) (h l : Int) (hl0 : 0 ≤ l) (hl1 : l < 18446744073709551616) (e : h * 18446744073709551616 + l = wN xh xl (64 * k)) : h = wN xh xl (64 * ((k : Int) + 1)) := by
  rw [show 64 * ((k : Int) + 1) = 64 * k + 64 by omega, wN_add xh xl _ _ (by omega) (by omega), ← e]
  rw [show (2 : Int) ^ (64 : Int).toNat = 18446744073709551616 from rfl]
  omega
theorem wN_lost (xh xl : Int) (k n : Int) (hk : 0 ≤ k) (hkn : k ≤ n) (e : wN xh xl k = 0) : wN xh xl n = 0 := by
  rw [show n = k + (n - k) by omega, wN_add xh xl _ _ hk (by omega), e]; simp

/-- A shift by less than a word, as its bits. -/
theorem shr_bits (h l : Int) (m : Nat) (hm : m < 64) (hh0 : 0 ≤ h) (hh1 : h < 18446744073709551616) (hl0 : 0 ≤ l) (hl1 : l < 18446744073709551616) :
    h / 2 ^ m = (h * 18446744073709551616 + l) / 2 ^ m / 18446744073709551616 ∧ bits .or .u64 (l / 2 ^ m) (IntKind.u64.wrap (h * 2 ^ (64 - m))) = (h * 18446744073709551616 + l) / 2 ^ m % 18446744073709551616 := by
  obtain ⟨a, rfl⟩ := Int.eq_ofNat_of_zero_le hh0
  obtain ⟨b, rfl⟩ := Int.eq_ofNat_of_zero_le hl0
  have p1 : 0 < 2 ^ m := Nat.pow_pos (by omega)
  have p2 : 0 < 2 ^ (64 - m) := Nat.pow_pos (by omega)
  have p3 : 2 ^ m * 2 ^ (64 - m) = 18446744073709551616 := by rw [← Nat.pow_add, show m + (64 - m) = 64 by omega]
  have c1 : ((a : Int) * 2 ^ (64 - m)) = ((a * 2 ^ (64 - m) : Nat) : Int) := by simp
  have c2 : ((b : Int) / 2 ^ m) = ((b / 2 ^ m : Nat) : Int) := by simp
  have c3 : ((a : Int) / 2 ^ m) = ((a / 2 ^ m : Nat) : Int) := by simp
  have c4 : (((a : Int) * 18446744073709551616 + b) / 2 ^ m) = (((a * 18446744073709551616 + b) / 2 ^ m : Nat) : Int) := by
    rw [show ((2 : Int) ^ m) = ((2 ^ m : Nat) : Int) by simp, show (a : Int) * 18446744073709551616 + b = ((a * 18446744073709551616 + b : Nat) : Int) by omega, Int.natCast_ediv]
  have e1 : (a * 18446744073709551616 + b) / 2 ^ m = a * 2 ^ (64 - m) + b / 2 ^ m := by
    rw [← p3, ← Nat.mul_assoc, Nat.mul_comm a, Nat.mul_assoc, Nat.mul_add_div p1]
  have d1 := Nat.div_add_mod a (2 ^ m)
  have d2 := Nat.mod_lt a p1
  have e2 : a * 2 ^ (64 - m) = a / 2 ^ m * 18446744073709551616 + a % 2 ^ m * 2 ^ (64 - m) := by
    conv => lhs; rw [← d1, Nat.add_mul, Nat.mul_comm (2 ^ m), Nat.mul_assoc, p3]
  have e3 : (a % 2 ^ m + 1) * 2 ^ (64 - m) ≤ 18446744073709551616 := by
    rw [← p3]; exact Nat.mul_le_mul_right _ (by omega)
  rw [Nat.add_mul] at e3
  have e4 : b / 2 ^ m < 2 ^ (64 - m) := by
    rw [Nat.div_lt_iff_lt_mul p1, Nat.mul_comm, p3]; omega
  have e5 : IntKind.u64.wrap ((a : Int) * 2 ^ (64 - m)) = ((a % 2 ^ m * 2 ^ (64 - m) : Nat) : Int) := by
    rw [c1, IntKind.wrap_u64, e2]; omega
  have e6 : a % 2 ^ m * 2 ^ (64 - m) < 18446744073709551616 := by omega
  have e7 : b / 2 ^ m < 18446744073709551616 := by have := Nat.div_le_self b (2 ^ m); omega
  rw [c4, e1, e5, c2, c3, bits_or_u64_nat _ _ e7 e6, Nat.or_comm, or_add _ _ _ e4, e2]
  clear c1 c2 c3 c4 e1 e5 e2 d1
  generalize a % 2 ^ m * 2 ^ (64 - m) = X at *
  generalize b / 2 ^ m = Z at *
  generalize a / 2 ^ m = A at *
  generalize 2 ^ (64 - m) = R at *
  constructor <;> omega

theorem wshr_c (xh xl n : Int) (h1 : 0 ≤ xh) (h2 : 0 ≤ xl) (h3 : 0 ≤ n) (g1 : xh < 18446744073709551616) (g2 : xl < 18446744073709551616) (g3 : n < 18446744073709551616) (w : World) :
    Calls Tryd.prog 74 #[.agg #[.int .u64 xh, .int .u64 xl], .int .u64 n] w fun r w' => r = .returned (.agg #[.int .u64 (shHi xh xl n), .int .u64 (shLo xh xl n)]) ∧ Below w.heap.size w w' := by
  go_enter Tryd.func74, Tryd.ntmps74
  go_wp2_with fail
  go_step3
  go_wp2_with fail
  go_step3
  go_wp2_with fail
  go_loopw [7] (fun i wr => ∃ (k : Nat) (h l : Int), (k : Int) ≤ n / 64 ∧ 0 ≤ h ∧ h < 18446744073709551616 ∧ 0 ≤ l ∧ l < 18446744073709551616 ∧ Hid (h * 18446744073709551616 + l = wN xh xl (64 * k)) ∧ i = .int .u64 k ∧ wr = (w.alloc (.cells #[.int .u64 h, .int .u64 l] 74)).alloc (.cells #[.int .u64 0, .int .u64 0] 74)) (fun i _ => (n / 64 - intOf i).toNat)
  case atStart => exact ⟨0, xh, xl, by omega, h1, g1, h2, g2, (wN_zero xh xl).symm, rfl, rfl⟩
  case round =>
    obtain ⟨k, h, l, hk, a1, a2, a3, a4, HE, rfl, rfl⟩ := hrel
    by_cases hlt : (k : Int) < n / 64
    · by_cases hz : h = 0 ∧ l = 0
      · obtain ⟨rfl, rfl⟩ := hz
        have h64 : 0 ≤ 64 * (k : Int) ∧ 64 * (k : Int) ≤ n := by omega
        have hz := Lib.hid (wN_lost xh xl (64 * k) n h64.1 h64.2 (by rw [← HE.out]; simp))
        have e64 : (64 - n % 64).toNat = 64 - (n % 64).toNat := by omega
        clear h64
        go_wp2_with fail
        rw [Exit.noGoto_ret]
        show bodyPost Tryd.prog Tryd.f74 _ Exit.ret _ _
        go_returns
        refine ⟨ret_a ?_ ?_, by (repeat' (first | (with_reducible exact Below.refl _ _) | (with_reducible assumption) | (with_reducible refine Below.alloc ?_ ?_ _) | (with_reducible refine Below.drew ?_) | (with_reducible refine Below_drewN ?_ _) | (with_reducible refine Below.setCell ?_ ?_ _) | (with_reducible refine Below.trans ?_ (Below.mono (by with_reducible assumption) ?_)) | go_size))⟩
        · rw [shHi, hz.out]; simp
        · rw [shLo, hz.out]; rfl
      · by_cases hh : h = 0
        all_goals
          try subst hh
          have hs := Lib.hid (wN_step xh xl k _ l a3 a4 HE.out)
          go_wp2_with fail
          go_roundw
          case rel => exact ⟨k + 1, 0, _, by omega, by omega, by omega, by omega, by omega, by rw [show ((k + 1 : Nat) : Int) = (k : Int) + 1 by omega]; show 0 * 18446744073709551616 + _ = _; rw [Int.zero_mul, Int.zero_add]; exact hs.out, by go_num, rfl⟩
          case measure => simp [intOf]; omega
    · obtain ⟨m, hm⟩ : ∃ m : Nat, (n % 64).toNat = m := ⟨_, rfl⟩
      have hm64 : m < 64 := by omega
      have e64 : (64 - n % 64).toNat = 64 - m := by omega
      have hb := shr_bits h l m hm64 a1 a2 a3 a4
      have hn : n = 64 * k + m := by omega
      have HF : wN xh xl n = (h * 18446744073709551616 + l) / 2 ^ m := by rw [hn, wN_add xh xl _ _ (by omega) (by omega), ← HE.out]; simp
      have HG := Lib.hid HF
      have HB := Lib.hid hb
      clear hb hn HF
      go_wp2_with fail
      go_returns
      refine ⟨ret_a ?_ ?_, by (repeat' (first | (with_reducible exact Below.refl _ _) | (with_reducible assumption) | (with_reducible refine Below.alloc ?_ ?_ _) | (with_reducible refine Below.drew ?_) | (with_reducible refine Below_drewN ?_ _) | (with_reducible refine Below.setCell ?_ ?_ _) | (with_reducible refine Below.trans ?_ (Below.mono (by with_reducible assumption) ?_)) | go_size))⟩
      · rw [shHi, HG.out]; exact HB.out.1
      · rw [shLo, HG.out]; exact HB.out.2
end Go.Proofs.Tryd
