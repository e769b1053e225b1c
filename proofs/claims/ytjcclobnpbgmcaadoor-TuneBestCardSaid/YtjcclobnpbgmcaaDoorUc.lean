/- What a member's odds are, its part, what all take (stage 21). -/
import Derived.Test.YtjcclobnpbgmcaaDoorUb
import Derived.Test.YtjcclobnpbgmcaaDoorExpo3
namespace Go.Proofs.Tryd
open Go.RowKit
set_option linter.unusedVariables false
set_option linter.unusedSimpArgs false
theorem wMul_in (a b : Int) (ha : 0 ≤ a) (hb : 0 ≤ b) : 0 ≤ wMul a b ∧ wMul a b < 18446744073709551616 := by
  have := Int.mul_nonneg ha hb
  unfold wMul
  split <;> omega
/-- The odds at the time 1. -/
def rateF (X L Y : Nat) : Int := wMul ((ratioN X L : Nat) : Int) (Y : Int)
theorem rateF_in (X L Y : Nat) : 0 ≤ rateF X L Y ∧ rateF X L Y < 18446744073709551616 := wMul_in _ _ (by omega) (by omega)
/-- The odds, at most 2^63. -/
def oddsF (r t : Int) : Int := min (wMul r t) 9223372036854775808
theorem oddsF_in (r t : Int) (hr : 0 ≤ r) (ht : 0 ≤ t) : 0 ≤ oddsF r t ∧ oddsF r t ≤ 9223372036854775808 := by
  have := wMul_in r t hr ht
  unfold oddsF
  omega
def shareF (r t : Int) : Int := fl (oddsF r t) 4294967296 (4294967296 + oddsF r t)
theorem share_val (r t : Int) (hr : 0 ≤ r) (ht : 0 ≤ t) : shareF r t = oddsF r t * 4294967296 / (4294967296 + oddsF r t) ∧ 0 ≤ shareF r t ∧ shareF r t < 4294967296 ∧ flE (oddsF r t) 4294967296 (4294967296 + oddsF r t) = 0 := by
  obtain ⟨h1, h2⟩ := oddsF_in r t hr ht
  unfold shareF
  obtain ⟨o, ho⟩ : ∃ o, oddsF r t = o := ⟨_, rfl⟩
  rw [ho] at h1 h2 ⊢
  have h3 : o * 4294967296 / (4294967296 + o) < 4294967296 := Int.ediv_lt_of_lt_mul (by omega) (by omega)
  have h4 : 0 ≤ o * 4294967296 / (4294967296 + o) := Int.ediv_nonneg (by omega) (by omega)
  have h5 : fl o 4294967296 (4294967296 + o) = o * 4294967296 / (4294967296 + o) := by
    unfold fl
    rw [if_neg (by omega), if_pos (by omega)]
  have h6 : flE o 4294967296 (4294967296 + o) = 0 := by
    unfold flE
    rw [if_neg (by omega), if_pos (by omega)]
  exact ⟨h5, by omega, by omega, h6⟩
set_option maxRecDepth 100000 in
set_option maxHeartbeats 4000000 in
theorem rate_c (s : ByteArray) (X L Y : Nat) (hX : X < 9223372036854775808) (hL : L < 18446744073709551616) (hY : Y < 9223372036854775808) (w : World) (hT : Pows w) :
    Calls Tryd.prog 35 #[.agg #[.string s, .int .i64 (X : Int), .int .i64 (Y : Int)], .int .u64 (L : Int)] w fun e w' => e = .returned (.int .u64 (rateF X L Y)) ∧ Below w.heap.size w w' := by
  have HT := Lib.hid (hT.below ((Below.refl w.heap.size w).alloc (Nat.le_refl _) (.cells #[.string s, .int .i64 (X : Int), .int .i64 (Y : Int)] 25)))
  have RC := fun W h => oratio_c X L (by omega) hL W h
  have hrl := ratioN_le X L
  unfold rateF
  have MC := fun W => mul_c ((ratioN X L : Nat) : Int) (Y : Int) (by omega) (by omega) (by omega) (by omega) W
  have hX2 : (X : Int) < 18446744073709551616 := by omega
  have hY2 : (Y : Int) < 18446744073709551616 := by omega
  generalize ratioN X L = R at *
  clear hT
  go_enter Tryd.func35, Tryd.ntmps35
  go_wp2_with fail
  (refine region_later (by kernel_rfl) (by kernel_rfl) ?_); (intro hlat); (repeat (go_big_quiet_step ((first | (go_at_call 50; exact later_call (RC _ (HT.out.below (later_below _ _)))) | (go_at_call 43; exact later_same (MC _)))))); (refine wpQuiet_nil ?_); (intro W1 hb1); (clear hlat)
  go_wp2_with fail
  go_ret
  exact ⟨rfl, chain2 (Below.refl _ _) hb1⟩
set_option maxRecDepth 100000 in
set_option maxHeartbeats 4000000 in
theorem share_c (r t : Int) (hr : 0 ≤ r) (ht : 0 ≤ t) (hr' : r < 18446744073709551616) (ht' : t < 18446744073709551616) (w : World) :
    Calls Tryd.prog 34 #[.int .u64 r, .int .u64 t] w fun e w' => e = .returned (.int .u64 (shareF r t)) ∧ Below w.heap.size w w' := by
  have MC := fun W => mul_c r t hr ht hr' ht' W
  obtain ⟨h1, h2⟩ := oddsF_in r t hr ht
  have hm : min (wMul r t) 9223372036854775808 = oddsF r t := rfl
  have FC := fun W => fof_c (oddsF r t) (4294967296 + oddsF r t) (by omega) (by omega) (by omega) (by omega) W
  obtain ⟨-, -, -, h6⟩ := share_val r t hr ht
  rw [h6, show fl (oddsF r t) 4294967296 (4294967296 + oddsF r t) = shareF r t from rfl] at FC
  generalize oddsF r t = O at *
  generalize shareF r t = S at *
  generalize wMul r t = M at *
  clear h6
  go_enter Tryd.func34, Tryd.ntmps34
  go_wp2_with (first | (go_at_call 43; refine (MC _).mono ?_; rintro e w1 ⟨rfl, rfl⟩) | (go_at_call 49; refine (FC _).mono ?_; rintro e w2 ⟨rfl, hb2⟩))
  go_ret
  exact ⟨rfl, hb2⟩
def partF (s : Sn) (L : Nat) (t : Int) : Int := if s.2.1 < 1 ∨ s.2.2 < 1 then 0 else shareF (rateF s.2.1.toNat L s.2.2.toNat) t
set_option maxRecDepth 100000 in
set_option maxHeartbeats 4000000 in
theorem part_c (s : ByteArray) (x y : Int) (hx : x < 9223372036854775808) (hy : y < 9223372036854775808) (L : Nat) (t : Int) (hL : L < 18446744073709551616) (ht : 0 ≤ t) (ht' : t < 18446744073709551616) (w : World) (hT : Pows w) :
    Calls Tryd.prog 17 #[.agg #[.string s, .int .i64 x, .int .i64 y], .int .u64 (L : Int), .int .u64 t] w fun e w' => e = .returned (.int .u64 (partF (s, x, y) L t)) ∧ Below w.heap.size w w' := by
  have HT := Lib.hid (hT.below ((Below.refl w.heap.size w).alloc (Nat.le_refl _) (.cells #[.string s, .int .i64 x, .int .i64 y] 25)))
  unfold partF
  dsimp only
  clear hT
  by_cases h1 : x < 1
  · have q1 : decide (x < 1) = true := decide_eq_true h1
    rw [if_pos (Or.inl h1)]
    clear h1
    go_enter Tryd.func17, Tryd.ntmps17
    go_wp2_with fail
    go_ret
    exact ⟨rfl, by (repeat' (first | (with_reducible exact Below.refl _ _) | (with_reducible assumption) | (with_reducible refine Below.alloc ?_ ?_ _) | (with_reducible refine Below.drew ?_) | (with_reducible refine Below_drewN ?_ _) | (with_reducible refine Below.setCell ?_ ?_ _) | (refine Below.step (B' := ?_) (b := ?_) ?_ ?_ ?_; rotate_left 2; (with_reducible assumption)) | go_size))⟩
  · have q1 : decide (x < 1) = false := decide_eq_false h1
    by_cases h2 : y < 1
    · have q2 : decide (y < 1) = true := decide_eq_true h2
      rw [if_pos (Or.inr h2)]
      clear h1 h2
      go_enter Tryd.func17, Tryd.ntmps17
      go_wp2_with fail
      go_ret
      exact ⟨rfl, by (repeat' (first | (with_reducible exact Below.refl _ _) | (with_reducible assumption) | (with_reducible refine Below.alloc ?_ ?_ _) | (with_reducible refine Below.drew ?_) | (with_reducible refine Below_drewN ?_ _) | (with_reducible refine Below.setCell ?_ ?_ _) | (refine Below.step (B' := ?_) (b := ?_) ?_ ?_ ?_; rotate_left 2; (with_reducible assumption)) | go_size))⟩
    · have q2 : decide (y < 1) = false := decide_eq_false h2
      rw [if_neg (by omega)]
      obtain ⟨X, rfl⟩ := Int.eq_ofNat_of_zero_le (show 0 ≤ x by omega)
      obtain ⟨Y, rfl⟩ := Int.eq_ofNat_of_zero_le (show 0 ≤ y by omega)
      rw [Int.toNat_natCast, Int.toNat_natCast]
      have RC := fun W h => rate_c s X L Y (by omega) hL (by omega) W h
      obtain ⟨r1, r2⟩ := rateF_in X L Y
      have SC := fun W => share_c (rateF X L Y) t r1 ht r2 ht' W
      generalize shareF (rateF X L Y) t = S at *
      generalize rateF X L Y = R at *
      clear h1 h2
      go_enter Tryd.func17, Tryd.ntmps17
      go_wp2_with (first | (go_at_call 35; refine (RC _ HT.out).mono ?_; rintro e w1 ⟨rfl, hb1⟩) | (go_at_call 34; refine (SC _).mono ?_; rintro e w2 ⟨rfl, hb2⟩))
      go_ret
      exact ⟨rfl, chain (chain2 (Below.refl _ _) hb1) hb2⟩
end Go.Proofs.Tryd
