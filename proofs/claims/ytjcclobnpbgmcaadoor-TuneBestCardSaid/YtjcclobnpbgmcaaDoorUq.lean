/- The reference's Part, Fill, power, Time, Score (stage 21). -/
import Derived.Test.YtjcclobnpbgmcaaDoorUm
import Derived.Test.YtjcclobnpbgmcaaDoorUn
import Derived.Test.YtjcclobnpbgmcaaDoorRef5
namespace Go.Proofs.Tryd
open Go.RowKit Go.Sort
set_option linter.unusedVariables false
set_option linter.unusedSimpArgs false
set_option maxRecDepth 100000 in
set_option maxHeartbeats 4000000 in
theorem rprt_c (s : ByteArray) (x y : Int) (hx : x < 9223372036854775808) (hy : y < 9223372036854775808) (L : Nat) (t : Int) (hL : L < 18446744073709551616) (ht : 0 ≤ t) (ht' : t < 18446744073709551616) (w : World) :
    Calls Tryd.prog 18 #[.agg #[.string s, .int .i64 x, .int .i64 y], .int .u64 (L : Int), .int .u64 t] w fun e w' => e = .returned (.int .u64 (partF (s, x, y) L t)) ∧ Below w.heap.size w w' := by
  unfold partF
  dsimp only
  by_cases h1 : x < 1
  · have q1 : decide (x < 1) = true := decide_eq_true h1
    rw [if_pos (Or.inl h1)]
    clear h1
    go_enter Tryd.func18, Tryd.ntmps18
    go_wp2_with fail
    go_ret
    exact ⟨rfl, by (repeat' (first | (with_reducible exact Below.refl _ _) | (with_reducible assumption) | (with_reducible refine Below.alloc ?_ ?_ _) | (with_reducible refine Below.drew ?_) | (with_reducible refine Below_drewN ?_ _) | (with_reducible refine Below.setCell ?_ ?_ _) | (refine Below.step (B' := ?_) (b := ?_) ?_ ?_ ?_; rotate_left 2; (with_reducible assumption)) | go_size))⟩
  · have q1 : decide (x < 1) = false := decide_eq_false h1
    by_cases h2 : y < 1
    · have q2 : decide (y < 1) = true := decide_eq_true h2
      rw [if_pos (Or.inr h2)]
      clear h1 h2
      go_enter Tryd.func18, Tryd.ntmps18
      go_wp2_with fail
      go_ret
      exact ⟨rfl, by (repeat' (first | (with_reducible exact Below.refl _ _) | (with_reducible assumption) | (with_reducible refine Below.alloc ?_ ?_ _) | (with_reducible refine Below.drew ?_) | (with_reducible refine Below_drewN ?_ _) | (with_reducible refine Below.setCell ?_ ?_ _) | (refine Below.step (B' := ?_) (b := ?_) ?_ ?_ ?_; rotate_left 2; (with_reducible assumption)) | go_size))⟩
    · have q2 : decide (y < 1) = false := decide_eq_false h2
      rw [if_neg (by omega)]
      obtain ⟨X, rfl⟩ := Int.eq_ofNat_of_zero_le (show 0 ≤ x by omega)
      obtain ⟨Y, rfl⟩ := Int.eq_ofNat_of_zero_le (show 0 ≤ y by omega)
      rw [Int.toNat_natCast, Int.toNat_natCast]
      have hrl := ratioN_le X L
      have RC := fun W => rratio5_c X L (by omega) hL W
      have hX2 : (X : Int) < 18446744073709551616 := by omega
      have hY2 : (Y : Int) < 18446744073709551616 := by omega
      have M1 := fun W => rmul_c ((ratioN X L : Nat) : Int) (Y : Int) (by omega) (by omega) (by omega) (by omega) W
      obtain ⟨r1, r2⟩ := rateF_in X L Y
      rw [show wMul ((ratioN X L : Nat) : Int) (Y : Int) = rateF X L Y from rfl] at M1
      have M2 := fun W => rmul_c (rateF X L Y) t r1 ht r2 ht' W
      obtain ⟨o1, o2⟩ := oddsF_in (rateF X L Y) t r1 ht
      have hs : shareF (rateF X L Y) t = fl (oddsF (rateF X L Y) t) 4294967296 (oddsF (rateF X L Y) t + 4294967296) := by unfold shareF; rw [Int.add_comm]
      have FO := fun W => rfof_c (oddsF (rateF X L Y) t) (oddsF (rateF X L Y) t + 4294967296) o1 (by omega) (by omega) (by omega) W
      rw [← hs] at FO
      have ho : oddsF (rateF X L Y) t = min (wMul (rateF X L Y) t) 9223372036854775808 := rfl
      generalize shareF (rateF X L Y) t = S at *
      obtain ⟨m1, m2⟩ := wMul_in (rateF X L Y) t r1 ht
      generalize oddsF (rateF X L Y) t = O at *
      generalize wMul (rateF X L Y) t = U at *
      generalize rateF X L Y = R at *
      generalize ratioN X L = RA at *
      have HE := Lib.hid ho
      clear h1 h2 hs hrl
      by_cases h3 : 9223372036854775808 < U
      · have q3 : decide (9223372036854775808 < U) = true := decide_eq_true h3
        obtain rfl : O = 9223372036854775808 := by omega
        clear ho h3
        go_enter Tryd.func18, Tryd.ntmps18
        go_wp2_with fail
        (refine region_later (by kernel_rfl) (by kernel_rfl) ?_); (intro hlat); (repeat (go_big_quiet_step ((first | (go_at_call 37; exact later_call (RC _)) | (go_at_call 36; with_reducible exact later_same (M1 _)) | (go_at_call 36; with_reducible exact later_same (M2 _)))))); (refine wpQuiet_nil ?_); (intro W1 hb1); (clear hlat)
        go_wp2_with (go_at_call 38; refine (FO _).mono ?_; rintro e w2 ⟨rfl, hb2⟩)
        go_ret
        exact ⟨rfl, chain (chain2 (Below.refl _ _) hb1) hb2⟩
      · have q3 : decide (9223372036854775808 < U) = false := decide_eq_false h3
        obtain rfl : O = U := by omega
        have hw : IntKind.u64.wrap (O + 4294967296) = O + 4294967296 := by rw [IntKind.wrap_u64]; omega
        clear ho h3
        go_enter Tryd.func18, Tryd.ntmps18
        go_wp2_with fail
        (refine region_later (by kernel_rfl) (by kernel_rfl) ?_); (intro hlat); (repeat (go_big_quiet_step ((first | (go_at_call 37; exact later_call (RC _)) | (go_at_call 36; with_reducible exact later_same (M1 _)) | (go_at_call 36; with_reducible exact later_same (M2 _)))))); (refine wpQuiet_nil ?_); (intro W1 hb1); (clear hlat)
        go_wp2_with (go_at_call 38; refine (FO _).mono ?_; rintro e w2 ⟨rfl, hb2⟩)
        go_ret
        exact ⟨rfl, chain (chain2 (Below.refl _ _) hb1) hb2⟩
end Go.Proofs.Tryd
