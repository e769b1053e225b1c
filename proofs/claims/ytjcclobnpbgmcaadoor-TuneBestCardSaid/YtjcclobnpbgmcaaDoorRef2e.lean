/- Contracts of linhayref02: Shr and Div. -/
import Derived.Test.YtjcclobnpbgmcaaDoorRef2
namespace Go.Proofs.Tryd
open Go.RowKit
set_option linter.unusedVariables false

theorem wN_half (xh xl : Int) (k : Nat) (h l : Int) (h0 : 0 ≤ h) (l0 : 0 ≤ l) (l1 : l < 18446744073709551616) (e : h * 18446744073709551616 + l = wN xh xl k) :
    h / 2 * 18446744073709551616 + (l / 2 + h % 2 * 9223372036854775808) = wN xh xl ((k : Int) + 1) := by
  rw [wN_add xh xl _ _ (by omega) (by omega), ← e, show (2 : Int) ^ (1 : Int).toNat = 2 from rfl]
  omega
theorem wN_div (xh xl n h l : Int) (l0 : 0 ≤ l) (l1 : l < 18446744073709551616) (e : h * 18446744073709551616 + l = wN xh xl n) : h = shHi xh xl n ∧ l = shLo xh xl n := by
  unfold shHi shLo; rw [← e]; omega

set_option maxRecDepth 100000 in
set_option maxHeartbeats 1000000 in
theorem rshr2_c (xh xl n : Int) (h1 : 0 ≤ xh) (h2 : 0 ≤ xl) (h3 : 0 ≤ n) (g1 : xh < 18446744073709551616) (g2 : xl < 18446744073709551616) (g3 : n < 18446744073709551616) (w : World) :
    Calls Tryd.prog 66 #[.agg #[.int .u64 xh, .int .u64 xl], .int .u64 n] w fun r w' => r = .returned (.agg #[.int .u64 (shHi xh xl n), .int .u64 (shLo xh xl n)]) ∧ Below w.heap.size w w' := by
  go_enter Tryd.func66, Tryd.ntmps66
  go_wp2_with fail
  go_loopw [5] (fun i wr => ∃ (k : Nat) (h l : Int), (k : Int) ≤ n ∧ k ≤ 128 ∧ 0 ≤ h ∧ h < 18446744073709551616 ∧ 0 ≤ l ∧ l < 18446744073709551616 ∧ Hid (h * 18446744073709551616 + l = wN xh xl k) ∧ i = .int .u64 k ∧ wr = (w.alloc (.cells #[.int .u64 h, .int .u64 l] 74)).alloc (.cells #[.int .u64 0, .int .u64 0] 74)) (fun i _ => 128 - (intOf i).toNat)
  case atStart => exact ⟨0, xh, xl, by omega, by omega, h1, g1, h2, g2, (wN_zero xh xl).symm, rfl, rfl⟩
  case round =>
    obtain ⟨k, h, l, hk, hk', a1, a2, a3, a4, HE, rfl, rfl⟩ := hrel
    have HS := Lib.hid (wN_half xh xl k h l a1 a3 a4 HE.out)
    by_cases c1 : (k : Int) < n
    · by_cases c2 : k < 128
      · go_wp2_with fail
        go_roundw
        case rel => exact ⟨k + 1, h / 2, l / 2 + h % 2 * 9223372036854775808, by omega, by omega, by omega, by omega, by omega, by omega, HS.out, by go_num, rfl⟩
        case measure => simp [intOf]; omega
      · have z1 := wN_big xh xl n h1 h2 g1 g2 (by omega)
        have z2 := wN_big xh xl k h1 h2 g1 g2 (by omega)
        have z3 := wN_div xh xl n h l a3 a4 (by rw [z1, ← z2]; exact HE.out)
        have HZ := Lib.hid z3
        clear z1 z2 z3
        go_wp2_with fail
        go_returns
        exact ⟨ret_a HZ.out.1 HZ.out.2, by (repeat' (first | (with_reducible exact Below.refl _ _) | (with_reducible assumption) | (with_reducible refine Below.alloc ?_ ?_ _) | (with_reducible refine Below.drew ?_) | (with_reducible refine Below_drewN ?_ _) | (with_reducible refine Below.setCell ?_ ?_ _) | (with_reducible refine Below.trans ?_ (Below.mono (by with_reducible assumption) ?_)) | go_size))⟩
    · obtain rfl : n = k := by omega
      have HZ := Lib.hid (wN_div xh xl k h l a3 a4 HE.out)
      go_wp2_with fail
      go_returns
      exact ⟨ret_a HZ.out.1 HZ.out.2, by (repeat' (first | (with_reducible exact Below.refl _ _) | (with_reducible assumption) | (with_reducible refine Below.alloc ?_ ?_ _) | (with_reducible refine Below.drew ?_) | (with_reducible refine Below_drewN ?_ _) | (with_reducible refine Below.setCell ?_ ?_ _) | (with_reducible refine Below.trans ?_ (Below.mono (by with_reducible assumption) ?_)) | go_size))⟩

/-- Where the division bit by bit stands. -/
def RdInv (N d : Int) (k : Nat) (rest low lo : Int) : Prop :=
  0 ≤ rest ∧ rest < d ∧ 0 ≤ lo ∧ lo < 2 ^ k ∧ low = N * 2 ^ k % 18446744073709551616 ∧ lo * d + rest = N / 2 ^ (64 - k)

theorem RdInv.bit {N d : Int} {k : Nat} {rest low lo : Int} (h : RdInv N d k rest low lo) (hk : k < 64) : N / 2 ^ (64 - (k + 1)) = 2 * (N / 2 ^ (64 - k)) + low / 9223372036854775808 := by
  obtain ⟨_, _, _, _, hl, _⟩ := h
  have p1 := pow_pos' k
  have p2 := pow_pos' (63 - k)
  have e1 : (2 : Int) ^ k * 2 ^ (63 - k) = 9223372036854775808 := by rw [← Int.pow_add, show k + (63 - k) = 63 by omega]; rfl
  have e2 : N * 2 ^ k / 9223372036854775808 = N / 2 ^ (63 - k) := by
    rw [← e1, Int.mul_comm N, Int.mul_ediv_mul_of_pos _ _ p1]
  have e3 : N / 2 ^ (64 - k) = N / 2 ^ (63 - k) / 2 := by
    rw [show 64 - k = 63 - k + 1 by omega, Int.pow_succ, Int.ediv_ediv_of_nonneg (by omega)]
  have e4 : low / 9223372036854775808 = N * 2 ^ k / 9223372036854775808 % 2 := by rw [hl]; omega
  rw [show 64 - (k + 1) = 63 - k by omega, e4, e2, e3]
  omega

theorem RdInv.next {N d : Int} {k : Nat} {rest low lo : Int} (h : RdInv N d k rest low lo) (hk : k < 64) (q r : Int) (hr0 : 0 ≤ r) (hr : r < d) (hq : q = 0 ∨ q = 1) (e : 2 * rest + low / 9223372036854775808 = q * d + r) :
    RdInv N d (k + 1) r (IntKind.u64.wrap (2 * low)) (2 * lo + q) := by
  have hb := h.bit hk
  obtain ⟨a, b, c, f, g, i⟩ := h
  refine ⟨hr0, hr, by omega, ?_, ?_, ?_⟩
  · rw [Int.pow_succ]; omega
  · rw [IntKind.wrap_u64, g, Int.pow_succ, ← Int.mul_assoc]
    omega
  · rw [hb, ← i]
    rcases hq with rfl | rfl
    · rw [Int.add_mul, Int.mul_assoc]; omega
    · rw [Int.add_mul, Int.mul_assoc]; omega

theorem RdInv.start (xh xl d : Int) (h2 : 0 ≤ xl) (g2 : xl < 18446744073709551616) (hd : 0 < d) : RdInv (xh % d * 18446744073709551616 + xl) d 0 (xh % d) xl 0 := by
  have r0 := Int.emod_nonneg xh (show d ≠ 0 by omega)
  have r1 := Int.emod_lt_of_pos xh hd
  refine ⟨r0, r1, by omega, by simp, by simp; omega, ?_⟩
  rw [show (2 : Int) ^ (64 - 0) = 18446744073709551616 from rfl]; omega

theorem RdInv.stop {N d rest low lo : Int} (h : RdInv N d 64 rest low lo) (hd : 0 < d) : lo = N / d ∧ rest = N % d := by
  obtain ⟨a, b, c, f, g, i⟩ := h
  rw [show (2 : Int) ^ (64 - 64) = 1 from rfl, Int.ediv_one] at i
  have e : N = rest + d * lo := by rw [Int.mul_comm]; omega
  constructor
  · rw [e, Int.add_mul_ediv_left _ _ (by omega), Int.ediv_eq_zero_of_lt a b]; omega
  · rw [e, Int.add_mul_emod_self_left, Int.emod_eq_of_lt a b]

theorem pow_lt_half (k : Nat) (hk : k < 64) (lo : Int) (h : lo < 2 ^ k) : lo < 9223372036854775808 := by
  have e : (2 : Int) ^ k * 2 ^ (63 - k) = 9223372036854775808 := by rw [← Int.pow_add, show k + (63 - k) = 63 by omega]; rfl
  have p1 := pow_pos' k
  have p2 := pow_pos' (63 - k)
  have : 2 ^ k * 1 ≤ (2 : Int) ^ k * 2 ^ (63 - k) := Int.mul_le_mul_of_nonneg_left (by omega) (by omega)
  omega

set_option maxHeartbeats 1000000 in
theorem rdiv2_c (xh xl d : Int) (h1 : 0 ≤ xh) (h2 : 0 ≤ xl) (h3 : 0 ≤ d) (g1 : xh < 18446744073709551616) (g2 : xl < 18446744073709551616) (g3 : d < 18446744073709551616) (w : World) :
    Calls Tryd.prog 78 #[.agg #[.int .u64 xh, .int .u64 xl], .int .u64 d] w fun r w' => r = .returned (.tuple #[.agg #[.int .u64 (dHi xh d), .int .u64 (dLo xh xl d)], .int .u64 (dRest xh xl d), .int .i64 (dE d)]) ∧ Below w.heap.size w w' := by
  by_cases h : d = 0
  · subst h
    go_enter Tryd.func78, Tryd.ntmps78
    go_wp2
    go_returns
    exact ⟨ret_a3 (by simp [dHi]) (by simp [dLo]) (by simp [dRest]) (by simp [dE]), by (repeat' (first | (with_reducible exact Below.refl _ _) | (with_reducible assumption) | (with_reducible refine Below.alloc ?_ ?_ _) | (with_reducible refine Below.drew ?_) | (with_reducible refine Below_drewN ?_ _) | (with_reducible refine Below.setCell ?_ ?_ _) | (with_reducible refine Below.trans ?_ (Below.mono (by with_reducible assumption) ?_)) | go_size))⟩
  · have h1' : 1 ≤ d := by omega
    have e1 : (d == 0) = false := by simp; omega
    have HS := Lib.hid (RdInv.start xh xl d h2 g2 (by omega))
    obtain ⟨N, hN⟩ : ∃ N, xh % d * 18446744073709551616 + xl = N := ⟨_, rfl⟩
    rw [hN] at HS
    have HN := Lib.hid hN
    clear hN
    go_enter Tryd.func78, Tryd.ntmps78
    go_wp2_with fail
    go_loop [7, 8, 9, 10] (fun v7 v8 v9 v10 => ∃ (k : Nat) (rest low lo : Int), k ≤ 64 ∧ RdInv N d k rest low lo ∧ 0 ≤ low ∧ low < 18446744073709551616 ∧ v7 = .int .u64 rest ∧ v8 = .int .u64 low ∧ v9 = .int .u64 lo ∧ v10 = .int .i64 k) (fun _ _ _ i => 64 - (intOf i).toNat)
    case atStart => exact ⟨0, _, _, _, by omega, HS.out, h2, g2, rfl, rfl, rfl, rfl⟩
    case round =>
      obtain ⟨k, rest, low, lo, hk, hI, hl0, hl1, rfl, rfl, rfl, rfl⟩ := hrel
      have i1 := hI.1
      have i2 := hI.2.1
      have i3 := hI.2.2.1
      by_cases c : k < 64
      · have i4 := pow_lt_half k c lo hI.2.2.2.1
        have j0 : 0 ≤ IntKind.u64.wrap (2 * low) ∧ IntKind.u64.wrap (2 * low) < 18446744073709551616 := by rw [IntKind.wrap_u64]; omega
        by_cases ov : 9223372036854775808 ≤ rest
        · have hn := hI.next c 1 (2 * rest + low / 9223372036854775808 - d) (by omega) (by omega) (by omega) (by omega)
          go_wp2_with fail
          go_round
          case rel => exact ⟨k + 1, _, _, _, by omega, hn, j0.1, j0.2, by first | rfl | (congr 1; simp only [IntKind.wrap_u64]; omega), rfl, rfl, by go_num⟩
          case measure => simp [intOf]; omega
        · by_cases ge : d ≤ 2 * rest + low / 9223372036854775808
          · have hn := hI.next c 1 (2 * rest + low / 9223372036854775808 - d) (by omega) (by omega) (by omega) (by omega)
            go_wp2_with fail
            go_round
            case rel => exact ⟨k + 1, _, _, _, by omega, hn, j0.1, j0.2, by first | rfl | (congr 1; simp only [IntKind.wrap_u64]; omega), rfl, rfl, by go_num⟩
            case measure => simp [intOf]; omega
          · have hn := hI.next c 0 (2 * rest + low / 9223372036854775808) (by omega) (by omega) (by omega) (by omega)
            go_wp2_with fail
            go_round
            case rel => exact ⟨k + 1, _, _, _, by omega, hn, j0.1, j0.2, by first | rfl | (congr 1; simp only [IntKind.wrap_u64]; omega), rfl, by rw [Int.add_zero], by go_num⟩
            case measure => simp [intOf]; omega
      · obtain rfl : k = 64 := by omega
        have HT := Lib.hid (hI.stop (by omega))
        go_wp2_with fail
        go_returns
        refine ⟨ret_a3 rfl ?_ ?_ ?_, by (repeat' (first | (with_reducible exact Below.refl _ _) | (with_reducible assumption) | (with_reducible refine Below.alloc ?_ ?_ _) | (with_reducible refine Below.drew ?_) | (with_reducible refine Below_drewN ?_ _) | (with_reducible refine Below.setCell ?_ ?_ _) | (with_reducible refine Below.trans ?_ (Below.mono (by with_reducible assumption) ?_)) | go_size))⟩
        · rw [dLo, HN.out]; exact HT.out.1
        · rw [dRest, if_neg (by omega), HN.out]; exact HT.out.2
        · rw [dE, if_neg (by omega)]
end Go.Proofs.Tryd
