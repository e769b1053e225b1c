/- The walks of RatioTells and RatioLeast. -/
import Derived.Test.YtbiifigiobnkpaaW3
import Derived.Test.YtbiifigiobnkpaaRat5
import Derived.Test.YtbiifigiobnkpaaPairs
namespace Go.Proofs.Try
open Go.RowKit
set_option linter.unusedVariables false

set_option maxRecDepth 100000 in
set_option maxHeartbeats 8000000 in
theorem walk_RatioTells (a0 b0 a1 b1 : Int) (v2 : Value) (a3 a4 a5 : Int) (w0 : (Lit.int .u64 a0).wf = true) (z0 : (Lit.int .u64 b0).wf = true) (w1 : (Lit.int .u64 a1).wf = true) (z1 : (Lit.int .u64 b1).wf = true)
    (w3 : (Lit.int .u64 a3).wf = true) (w4 : (Lit.int .u64 a4).wf = true) (w5 : (Lit.int .u64 a5).wf = true) (w : World) (o2 : ∃ l, Pairs w v2 l) :
    Calls Try.prog 3 #[.agg #[.int .u64 a0, .int .u64 b0], .agg #[.int .u64 a1, .int .u64 b1], v2, .int .u64 a3, .int .u64 a4, .int .u64 a5] w fun e w' => e = .returned (.bool true) ∧ Below w.heap.size w w' := by
  obtain ⟨h0, h0'⟩ := bounds_u64 w0
  obtain ⟨g0, g0'⟩ := bounds_u64 z0
  obtain ⟨h1, h1'⟩ := bounds_u64 w1
  obtain ⟨g1, g1'⟩ := bounds_u64 z1
  obtain ⟨h3, h3'⟩ := bounds_u64 w3
  obtain ⟨h4, h4'⟩ := bounds_u64 w4
  obtain ⟨h5, h5'⟩ := bounds_u64 w5
  clear w0 z0 w1 z1 w3 w4 w5
  obtain ⟨l, A, n, c, rfl, hcA, hn, hA, hr⟩ := o2
  by_cases hn1 : n ≤ 100
  · have HR := Lib.hid hr
    clear hr
    go_enter Try.func3, Try.ntmps3
    go_wp2_with fail
    with_reducible refine (awake3 _).mono ?_
    rintro e w1 ⟨rfl, hb1⟩
    have hz1 := hb1.size
    simp only [World.size_alloc] at hz1
    obtain ⟨hc_w1, hf_w1, hz_w1⟩ := kept hb1; (try have hzw0_w1 : w.heap.size < w1.heap.size := (by have := hz_w1; first | omega | (simp at this; omega))); (try have hzw1_w1 : w.heap.size + 1 < w1.heap.size := (by have := hz_w1; first | omega | (simp at this; omega)))
    have HS : Hid (∀ W, Below w.heap.size w W → Sees W 2 A n (flat l)) := fun W hb => hA.below hb
    go_wp2_with (first
      | (go_at_call 16; with_reducible refine (rcmp_c _ _ _ _ (by omega) (by omega) (by omega) (by omega) (by omega) (by omega) (by omega) (by omega) _).mono ?_; rintro e w2 ⟨rfl, hb2⟩; obtain ⟨hc_w2, hf_w2, hz_w2⟩ := kept hb2; (try have hzw0_w2 : w.heap.size < w2.heap.size := (by have := hz_w2; first | omega | (simp at this; omega))); (try have hzw1_w2 : w.heap.size + 1 < w2.heap.size := (by have := hz_w2; first | omega | (simp at this; omega))); have hz2 := hb2.size)
      | (go_at_call 17; with_reducible refine (rrcmp_c _ _ _ _ (by omega) (by omega) (by omega) (by omega) (by omega) (by omega) (by omega) (by omega) _).mono ?_; rintro e w3 ⟨rfl, hb3⟩; obtain ⟨hc_w3, hf_w3, hz_w3⟩ := kept hb3; (try have hzw0_w3 : w.heap.size < w3.heap.size := (by have := hz_w3; first | omega | (simp at this; omega))); (try have hzw1_w3 : w.heap.size + 1 < w3.heap.size := (by have := hz_w3; first | omega | (simp at this; omega))); have hz3 := hb3.size))
    with_reducible refine (least_c _ _ _ l HR.out (by omega) _ (HS.out _ (by (repeat' (first | (with_reducible exact Below.refl _ _) | (with_reducible assumption) | (with_reducible refine Below.alloc ?_ ?_ _) | (with_reducible refine Below.drew ?_) | (with_reducible refine Below_drewN ?_ _) | (with_reducible refine Below.setCell ?_ ?_ _) | (refine Below.step (B' := ?_) (b := ?_) ?_ ?_ ?_; rotate_left 2; (with_reducible assumption)) | go_size))))).mono ?_
    rintro e w4 ⟨rfl, hb4⟩
    have hz4 := hb4.size
    go_wp2_with fail
    with_reducible refine (rleast_s _ _ _ l HR.out (by omega) _ (HS.out _ (by (repeat' (first | (with_reducible exact Below.refl _ _) | (with_reducible assumption) | (with_reducible refine Below.alloc ?_ ?_ _) | (with_reducible refine Below.drew ?_) | (with_reducible refine Below_drewN ?_ _) | (with_reducible refine Below.setCell ?_ ?_ _) | (refine Below.step (B' := ?_) (b := ?_) ?_ ?_ ?_; rotate_left 2; (with_reducible assumption)) | go_size))))).mono ?_
    rintro e w5 ⟨rfl, hb5⟩
    have hz5 := hb5.size
    go_wp2_with (first
      | (go_at_call 20; with_reducible refine (floor_c _ _ _ (by omega) (by omega) (by omega) (by omega) (by omega) (by omega) _).mono ?_; rintro e w6 ⟨rfl, hb6⟩; have hz6 := hb6.size)
      | (go_at_call 21; with_reducible refine (rfloor_c _ _ _ (by omega) (by omega) (by omega) (by omega) (by omega) (by omega) _).mono ?_; rintro e w7 ⟨rfl, hb7⟩; have hz7 := hb7.size)
      | (go_at_call 22; with_reducible refine (ceil_c _ _ _ (by omega) (by omega) (by omega) (by omega) (by omega) (by omega) _).mono ?_; rintro e w8 ⟨rfl, hb8⟩; have hz8 := hb8.size)
      | (go_at_call 23; with_reducible refine (rceil_c _ _ _ (by omega) (by omega) (by omega) (by omega) (by omega) (by omega) _).mono ?_; rintro e w9 ⟨rfl, hb9⟩; have hz9 := hb9.size)
      | (go_at_call 24; with_reducible refine (near_c _ _ _ (by omega) (by omega) (by omega) (by omega) (by omega) (by omega) _).mono ?_; rintro e w10 ⟨rfl, hb10⟩; have hz10 := hb10.size)
      | (go_at_call 25; with_reducible refine (rnear_c _ _ _ (by omega) (by omega) (by omega) (by omega) (by omega) (by omega) _).mono ?_; rintro e w11 ⟨rfl, hb11⟩; have hz11 := hb11.size))
    go_ret
    exact ⟨by first | rfl | (simp; done), by (repeat' (first | (with_reducible exact Below.refl _ _) | (with_reducible assumption) | (with_reducible refine Below.alloc ?_ ?_ _) | (with_reducible refine Below.drew ?_) | (with_reducible refine Below_drewN ?_ _) | (with_reducible refine Below.setCell ?_ ?_ _) | (refine Below.step (B' := ?_) (b := ?_) ?_ ?_ ?_; rotate_left 2; (with_reducible assumption)) | go_size))⟩
  · go_enter Try.func3, Try.ntmps3
    go_wp2_with fail
    with_reducible refine (awake3 _).mono ?_
    rintro e w1 ⟨rfl, hb1⟩
    go_wp2_with fail
    go_ret
    exact ⟨rfl, by (repeat' (first | (with_reducible exact Below.refl _ _) | (with_reducible assumption) | (with_reducible refine Below.alloc ?_ ?_ _) | (with_reducible refine Below.drew ?_) | (with_reducible refine Below_drewN ?_ _) | (with_reducible refine Below.setCell ?_ ?_ _) | (refine Below.step (B' := ?_) (b := ?_) ?_ ?_ ?_; rotate_left 2; (with_reducible assumption)) | go_size))⟩
end Go.Proofs.Try
