/- The walk of TapeTells. -/
import Derived.Test.YthijffdljoeelaaTape7
import Derived.Test.YthijffdljoeelaaW8
import Derived.Test.YthijffdljoeelaaLater
namespace Go.Proofs.Try
open Go.RowKit
set_option linter.unusedVariables false

set_option maxRecDepth 100000 in
set_option maxHeartbeats 4000000 in
theorem walk_TapeTells (a0 : ByteArray) (b0 a1 a2 : Int) (w0 : a0.size ≤ maxLen) (z0 : (Lit.int .i64 b0).wf = true) (w1 : (Lit.int .i64 a1).wf = true) (w2 : (Lit.int .i64 a2).wf = true) (w : World) :
    Calls Try.prog 3 #[.agg #[.string a0, .int .i64 b0], .int .i64 a1, .int .i64 a2] w fun e w' => e = .returned (.bool true) ∧ Below w.heap.size w w' := by
  obtain ⟨g0, g0'⟩ := bounds_i64 z0
  clear z0 w1 w2
  by_cases c0 : a0.size ≤ 1000
  · have d0 : decide (1000 < (a0.size : Int)) = false := by simp; omega
    clear w0
    have hs : a0.size ≤ 4611686018427387904 := by omega
    have D1 := draw_c a0 b0 hs g0 g0'
    have D2 := rdraw_c a0 b0 hs g0 g0'
    have P1 := pick_c a0 b0 a1 hs g0 g0'
    have P2 := rpick_c a0 b0 a1 hs g0 g0'
    have S1 := some_c a0 b0 a1 a2 hs g0 g0'
    have S2 := rsome_c a0 b0 a1 a2 hs g0 g0'
    have L1 := left_c a0 b0 hs g0 g0'
    have L2 := rleft_c a0 b0 hs g0 g0'
    have hl := someLL_len a0 b0 a1 a2
    unfold Picks at S1 S2
    generalize someLL a0 b0 a1 a2 = XS at *
    generalize someAA a0 b0 a1 a2 = j3 at *
    generalize pickN a0 b0 a1 = n2 at *
    generalize pickA a0 b0 a1 = j2 at *
    generalize drawN a0 b0 = n1 at *
    generalize nextN a0 b0 = j1 at *
    generalize leftN a0 b0 = Lf at *
    unfold tp at *
    go_enter Try.func3, Try.ntmps3
    go_wp2_with fail
    with_reducible refine (awake8 _).mono ?_
    rintro e w1 ⟨rfl, hb1⟩
    obtain ⟨hc_w1, hf_w1, hz_w1⟩ := kept hb1; (try have hzw0_w1 : w.heap.size < w1.heap.size := (by have := hz_w1; first | omega | (simp at this; omega)))
    have hz1 := hb1.size
    simp only [World.size_alloc] at hz1
    go_wp2_with fail
    refine (D1 _).mono ?_
    rintro e w2 ⟨rfl, hb2⟩
    obtain ⟨hc_w2, hf_w2, hz_w2⟩ := kept hb2; (try have hzw0_w2 : w.heap.size < w2.heap.size := (by have := hz_w2; first | omega | (simp at this; omega)))
    have hz2 := hb2.size
    go_wp2_with fail
    refine (D2 _).mono ?_
    rintro e w3 ⟨rfl, hb3⟩
    obtain ⟨hc_w3, hf_w3, hz_w3⟩ := kept hb3; (try have hzw0_w3 : w.heap.size < w3.heap.size := (by have := hz_w3; first | omega | (simp at this; omega))); (try have hzw20_w3 : w2.heap.size < w3.heap.size := (by have := hz_w3; first | omega | (simp at this; omega)))
    have hz3 := hb3.size
    simp only [World.size_alloc] at hz3
    go_wp2_with fail
    refine (P1 _).mono ?_
    rintro e w4 ⟨rfl, hb4⟩
    obtain ⟨hc_w4, hf_w4, hz_w4⟩ := kept hb4; (try have hzw0_w4 : w.heap.size < w4.heap.size := (by have := hz_w4; first | omega | (simp at this; omega))); (try have hzw20_w4 : w2.heap.size < w4.heap.size := (by have := hz_w4; first | omega | (simp at this; omega))); (try have hzw30_w4 : w3.heap.size < w4.heap.size := (by have := hz_w4; first | omega | (simp at this; omega)))
    have hz4 := hb4.size
    simp only [World.size_alloc] at hz4
    go_wp2_with fail
    refine (P2 _).mono ?_
    rintro e w5 ⟨rfl, hb5⟩
    obtain ⟨hc_w5, hf_w5, hz_w5⟩ := kept hb5; (try have hzw0_w5 : w.heap.size < w5.heap.size := (by have := hz_w5; first | omega | (simp at this; omega))); (try have hzw20_w5 : w2.heap.size < w5.heap.size := (by have := hz_w5; first | omega | (simp at this; omega))); (try have hzw30_w5 : w3.heap.size < w5.heap.size := (by have := hz_w5; first | omega | (simp at this; omega))); (try have hzw40_w5 : w4.heap.size < w5.heap.size := (by have := hz_w5; first | omega | (simp at this; omega)))
    have hz5 := hb5.size
    simp only [World.size_alloc] at hz5
    go_wp2_with fail
    refine (S1 _).mono ?_
    rintro e w6 ⟨A, n, c, rfl, hn, hc, hs1, hb6⟩
    obtain ⟨hc_w6, hf_w6, hz_w6⟩ := kept hb6; (try have hzw0_w6 : w.heap.size < w6.heap.size := (by have := hz_w6; first | omega | (simp at this; omega))); (try have hzw20_w6 : w2.heap.size < w6.heap.size := (by have := hz_w6; first | omega | (simp at this; omega))); (try have hzw30_w6 : w3.heap.size < w6.heap.size := (by have := hz_w6; first | omega | (simp at this; omega))); (try have hzw40_w6 : w4.heap.size < w6.heap.size := (by have := hz_w6; first | omega | (simp at this; omega))); (try have hzw50_w6 : w5.heap.size < w6.heap.size := (by have := hz_w6; first | omega | (simp at this; omega)))
    have hz6 := hb6.size
    simp only [World.size_alloc] at hz6
    have HS1 := Lib.hid hs1
    clear hs1
    go_wp2_with fail
    refine (S2 _).mono ?_
    rintro e w7 ⟨A2, n', c2, rfl, hn2, hc2, hs2, hb7⟩
    obtain ⟨hc_w7, hf_w7, hz_w7⟩ := kept hb7; (try have hzw0_w7 : w.heap.size < w7.heap.size := (by have := hz_w7; first | omega | (simp at this; omega))); (try have hzw20_w7 : w2.heap.size < w7.heap.size := (by have := hz_w7; first | omega | (simp at this; omega))); (try have hzw30_w7 : w3.heap.size < w7.heap.size := (by have := hz_w7; first | omega | (simp at this; omega))); (try have hzw40_w7 : w4.heap.size < w7.heap.size := (by have := hz_w7; first | omega | (simp at this; omega))); (try have hzw50_w7 : w5.heap.size < w7.heap.size := (by have := hz_w7; first | omega | (simp at this; omega))); (try have hzw60_w7 : w6.heap.size < w7.heap.size := (by have := hz_w7; first | omega | (simp at this; omega)))
    have hz7 := hb7.size
    simp only [World.size_alloc] at hz7
    have HS3 := Lib.hid ((HS1.out.below ((Below.refl _ _).alloc (Nat.le_refl _) (.cells #[.string a0, .int .i64 j3] 23))).below hb7)
    have HS2 := Lib.hid hs2
    clear hs2
    obtain rfl : n = n' := by omega
    have HA := Lib.hid (HS3.out.below ((Below.refl _ _).alloc (Nat.le_refl _) (.cells #[.string a0, .int .i64 j3] 23)))
    have HB := Lib.hid (HS2.out.below ((Below.refl _ _).alloc (Nat.le_refl _) (.cells #[.string a0, .int .i64 j3] 23)))
    go_wp2_with fail
    (refine region_later (by kernel_rfl) (by kernel_rfl) ?_); (intro hlat); (repeat (go_big_quiet_step ((first | (go_at_call 21; exact later_call (same_t _ _ n _ _ XS _ (HA.out.below (later_below _ _)) (HB.out.below (later_below _ _)) (by omega))) | (go_at_call 22; with_reducible exact later_call (L1 _)) | (go_at_call 23; with_reducible exact later_call (L2 _)))))); (refine wpQuiet_nil ?_); (intro W1 hbW1); (clear hlat)
    have hzW1 := hbW1.size
    simp only [World.size_alloc] at hzW1
    go_wp2_with fail
    go_ret
    exact ⟨by first | rfl | (simp; done), by (repeat' (first | (with_reducible exact Below.refl _ _) | (with_reducible assumption) | (with_reducible refine Below.alloc ?_ ?_ _) | (with_reducible refine Below.drew ?_) | (with_reducible refine Below_drewN ?_ _) | (with_reducible refine Below.setCell ?_ ?_ _) | (refine Below.step (B' := ?_) (b := ?_) ?_ ?_ ?_; rotate_left 2; (with_reducible assumption)) | go_size))⟩
  · have d0 : 1000 < (a0.size : Int) := by omega
    go_enter Try.func3, Try.ntmps3
    go_wp2_with fail
    with_reducible refine (awake8 _).mono ?_
    rintro e w1 ⟨rfl, hb1⟩
    obtain ⟨hc_w1, hf_w1, hz_w1⟩ := kept hb1; (try have hzw0_w1 : w.heap.size < w1.heap.size := (by have := hz_w1; first | omega | (simp at this; omega)))
    have hz1 := hb1.size
    simp only [World.size_alloc] at hz1
    go_wp2_with fail
    go_ret
    exact ⟨rfl, by (repeat' (first | (with_reducible exact Below.refl _ _) | (with_reducible assumption) | (with_reducible refine Below.alloc ?_ ?_ _) | (with_reducible refine Below.drew ?_) | (with_reducible refine Below_drewN ?_ _) | (with_reducible refine Below.setCell ?_ ?_ _) | (refine Below.step (B' := ?_) (b := ?_) ?_ ?_ ?_; rotate_left 2; (with_reducible assumption)) | go_size))⟩
end Go.Proofs.Try
