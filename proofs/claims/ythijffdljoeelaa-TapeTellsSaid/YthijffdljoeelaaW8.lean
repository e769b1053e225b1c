/- The laws of layer 8: awake. -/
import Derived.Test.YthijffdljoeelaaTape4
import Derived.Test.YthijffdljoeelaaSame
namespace Go.Proofs.Try
open Go.RowKit
set_option linter.unusedVariables false

def S8 : ByteArray := ⟨#[1, 0, 0, 0, 0, 1, 0, 0, 0, 0, 0, 128, 7]⟩
set_option maxRecDepth 100000 in
set_option maxHeartbeats 2000000 in
theorem awake8 (w : World) :
    Calls Try.prog 14 #[] w fun r w' => r = .returned (.bool true) ∧ Below w.heap.size w w' := by
  have D0 : ∀ w, Calls Try.prog 15 #[.agg #[.string ⟨#[1, 0, 0, 0, 0, 1, 0, 0, 0, 0, 0, 128, 7]⟩, .int .i64 0]] w fun r w' => r = .returned (.tuple #[.int .u32 1, .agg #[.string ⟨#[1, 0, 0, 0, 0, 1, 0, 0, 0, 0, 0, 128, 7]⟩, .int .i64 1]]) ∧ Below w.heap.size w w' := fun w => by
    have := draw_c S8 0 (by decide +kernel) (by omega) (by omega) w
    rwa [show drawN S8 0 = 1 by decide +kernel, show nextN S8 0 = 1 by decide +kernel] at this
  have D1 : ∀ w, Calls Try.prog 15 #[.agg #[.string ⟨#[1, 0, 0, 0, 0, 1, 0, 0, 0, 0, 0, 128, 7]⟩, .int .i64 1]] w fun r w' => r = .returned (.tuple #[.int .u32 256, .agg #[.string ⟨#[1, 0, 0, 0, 0, 1, 0, 0, 0, 0, 0, 128, 7]⟩, .int .i64 2]]) ∧ Below w.heap.size w w' := fun w => by
    have := draw_c S8 1 (by decide +kernel) (by omega) (by omega) w
    rwa [show drawN S8 1 = 256 by decide +kernel, show nextN S8 1 = 2 by decide +kernel] at this
  have D3 : ∀ w, Calls Try.prog 15 #[.agg #[.string ⟨#[1, 0, 0, 0, 0, 1, 0, 0, 0, 0, 0, 128, 7]⟩, .int .i64 3]] w fun r w' => r = .returned (.tuple #[.int .u32 0, .agg #[.string ⟨#[1, 0, 0, 0, 0, 1, 0, 0, 0, 0, 0, 128, 7]⟩, .int .i64 3]]) ∧ Below w.heap.size w w' := fun w => by
    have := draw_c S8 3 (by decide +kernel) (by omega) (by omega) w
    rwa [show drawN S8 3 = 0 by decide +kernel, show nextN S8 3 = 3 by decide +kernel] at this
  have P2 : ∀ w, Calls Try.prog 17 #[.agg #[.string ⟨#[1, 0, 0, 0, 0, 1, 0, 0, 0, 0, 0, 128, 7]⟩, .int .i64 2], .int .i64 5] w fun r w' => r = .returned (.tuple #[.int .i64 2, .agg #[.string ⟨#[1, 0, 0, 0, 0, 1, 0, 0, 0, 0, 0, 128, 7]⟩, .int .i64 3]]) ∧ Below w.heap.size w w' := fun w => by
    have := pick_c S8 2 5 (by decide +kernel) (by omega) (by omega) w
    rwa [show pickN S8 2 5 = 2 by decide +kernel, show pickA S8 2 5 = 3 by decide +kernel] at this
  have M2 : ∀ w, Calls Try.prog 19 #[.agg #[.string ⟨#[1, 0, 0, 0, 0, 1, 0, 0, 0, 0, 0, 128, 7]⟩, .int .i64 2], .int .i64 4, .int .i64 2] w fun r w' => ∃ A c, r = .returned (.tuple #[.slice A 2 c, .agg #[.string ⟨#[1, 0, 0, 0, 0, 1, 0, 0, 0, 0, 0, 128, 7]⟩, .int .i64 3]]) ∧ Sees w' 1 A 2 ([2, 0].map (Value.int .i64)) ∧ Below w.heap.size w w' := fun w => by
    refine (some_c S8 2 4 2 (by decide +kernel) (by omega) (by omega) w).mono ?_
    rintro e w' ⟨A, n, c, rfl, hn, hc, hs, hb⟩
    rw [show someLL S8 2 4 2 = [2, 0] by decide +kernel] at hs hn
    obtain rfl : 2 = n := hn
    rw [show someAA S8 2 4 2 = 3 by decide +kernel]
    exact ⟨A, c, rfl, hs, hb⟩
  have L0 : ∀ w, Calls Try.prog 22 #[.agg #[.string ⟨#[1, 0, 0, 0, 0, 1, 0, 0, 0, 0, 0, 128, 7]⟩, .int .i64 0]] w fun r w' => r = .returned (.int .i64 3) ∧ Below w.heap.size w w' := fun w => by
    have := left_c S8 0 (by decide +kernel) (by omega) (by omega) w
    rwa [show leftN S8 0 = 3 by decide +kernel] at this
  have L3 : ∀ w, Calls Try.prog 22 #[.agg #[.string ⟨#[1, 0, 0, 0, 0, 1, 0, 0, 0, 0, 0, 128, 7]⟩, .int .i64 3]] w fun r w' => r = .returned (.int .i64 0) ∧ Below w.heap.size w w' := fun w => by
    have := left_c S8 3 (by decide +kernel) (by omega) (by omega) w
    rwa [show leftN S8 3 = 0 by decide +kernel] at this
  go_enter Try.func14, Try.ntmps14
  go_wp2_with fail
  refine (D0 _).mono ?_
  rintro e w1 ⟨rfl, hb1⟩
  obtain ⟨hc_w1, hf_w1, hz_w1⟩ := kept hb1; (try have hzw0_w1 : w.heap.size < w1.heap.size := (by have := hz_w1; first | omega | (simp at this; omega)))
  have hz1 := hb1.size
  simp only [World.size_alloc] at hz1
  go_wp2_with fail
  refine (D1 _).mono ?_
  rintro e w2 ⟨rfl, hb2⟩
  obtain ⟨hc_w2, hf_w2, hz_w2⟩ := kept hb2; (try have hzw0_w2 : w.heap.size < w2.heap.size := (by have := hz_w2; first | omega | (simp at this; omega))); (try have hzw10_w2 : w1.heap.size < w2.heap.size := (by have := hz_w2; first | omega | (simp at this; omega)))
  have hz2 := hb2.size
  simp only [World.size_alloc] at hz2
  go_wp2_with fail
  refine (P2 _).mono ?_
  rintro e w3 ⟨rfl, hb3⟩
  obtain ⟨hc_w3, hf_w3, hz_w3⟩ := kept hb3; (try have hzw0_w3 : w.heap.size < w3.heap.size := (by have := hz_w3; first | omega | (simp at this; omega))); (try have hzw10_w3 : w1.heap.size < w3.heap.size := (by have := hz_w3; first | omega | (simp at this; omega))); (try have hzw20_w3 : w2.heap.size < w3.heap.size := (by have := hz_w3; first | omega | (simp at this; omega)))
  have hz3 := hb3.size
  simp only [World.size_alloc] at hz3
  go_wp2_with fail
  refine (D3 _).mono ?_
  rintro e w4 ⟨rfl, hb4⟩
  obtain ⟨hc_w4, hf_w4, hz_w4⟩ := kept hb4; (try have hzw0_w4 : w.heap.size < w4.heap.size := (by have := hz_w4; first | omega | (simp at this; omega))); (try have hzw10_w4 : w1.heap.size < w4.heap.size := (by have := hz_w4; first | omega | (simp at this; omega))); (try have hzw20_w4 : w2.heap.size < w4.heap.size := (by have := hz_w4; first | omega | (simp at this; omega))); (try have hzw30_w4 : w3.heap.size < w4.heap.size := (by have := hz_w4; first | omega | (simp at this; omega)))
  have hz4 := hb4.size
  simp only [World.size_alloc] at hz4
  go_wp2_with fail
  refine (M2 _).mono ?_
  rintro e w5 ⟨A, c, rfl, hs5, hb5⟩
  obtain ⟨hc_w5, hf_w5, hz_w5⟩ := kept hb5; (try have hzw0_w5 : w.heap.size < w5.heap.size := (by have := hz_w5; first | omega | (simp at this; omega))); (try have hzw10_w5 : w1.heap.size < w5.heap.size := (by have := hz_w5; first | omega | (simp at this; omega))); (try have hzw20_w5 : w2.heap.size < w5.heap.size := (by have := hz_w5; first | omega | (simp at this; omega))); (try have hzw30_w5 : w3.heap.size < w5.heap.size := (by have := hz_w5; first | omega | (simp at this; omega))); (try have hzw40_w5 : w4.heap.size < w5.heap.size := (by have := hz_w5; first | omega | (simp at this; omega)))
  have hz5 := hb5.size
  simp only [World.size_alloc] at hz5
  have HS5 := Lib.hid hs5
  clear hs5
  go_wp2_with fail
  refine (L0 _).mono ?_
  rintro e w6 ⟨rfl, hb6⟩
  obtain ⟨hc_w6, hf_w6, hz_w6⟩ := kept hb6; (try have hzw0_w6 : w.heap.size < w6.heap.size := (by have := hz_w6; first | omega | (simp at this; omega))); (try have hzw10_w6 : w1.heap.size < w6.heap.size := (by have := hz_w6; first | omega | (simp at this; omega))); (try have hzw20_w6 : w2.heap.size < w6.heap.size := (by have := hz_w6; first | omega | (simp at this; omega))); (try have hzw30_w6 : w3.heap.size < w6.heap.size := (by have := hz_w6; first | omega | (simp at this; omega))); (try have hzw40_w6 : w4.heap.size < w6.heap.size := (by have := hz_w6; first | omega | (simp at this; omega))); (try have hzw50_w6 : w5.heap.size < w6.heap.size := (by have := hz_w6; first | omega | (simp at this; omega)))
  have hz6 := hb6.size
  simp only [World.size_alloc] at hz6
  go_wp2_with fail
  refine (L3 _).mono ?_
  rintro e w7 ⟨rfl, hb7⟩
  obtain ⟨hc_w7, hf_w7, hz_w7⟩ := kept hb7; (try have hzw0_w7 : w.heap.size < w7.heap.size := (by have := hz_w7; first | omega | (simp at this; omega))); (try have hzw10_w7 : w1.heap.size < w7.heap.size := (by have := hz_w7; first | omega | (simp at this; omega))); (try have hzw20_w7 : w2.heap.size < w7.heap.size := (by have := hz_w7; first | omega | (simp at this; omega))); (try have hzw30_w7 : w3.heap.size < w7.heap.size := (by have := hz_w7; first | omega | (simp at this; omega))); (try have hzw40_w7 : w4.heap.size < w7.heap.size := (by have := hz_w7; first | omega | (simp at this; omega))); (try have hzw50_w7 : w5.heap.size < w7.heap.size := (by have := hz_w7; first | omega | (simp at this; omega)))
  have hz7 := hb7.size
  go_wp2_with fail
  refine (same_t _ _ 2 _ _ [2, 0] _ ?_ (Sees.new _ _ _) (by omega)).mono ?_
  · exact ((((HS5.out.below ((Below.refl _ _).alloc (Nat.le_refl _) _)).below hb6).below hb7).below ((Below.refl _ _).alloc (Nat.le_refl _) _))
  rintro e w8 ⟨rfl, hb8⟩
  have hz8 := hb8.size
  simp only [World.size_alloc] at hz8
  go_wp2_with fail
  go_ret
  exact ⟨rfl, by (repeat' (first | (with_reducible exact Below.refl _ _) | (with_reducible assumption) | (with_reducible refine Below.alloc ?_ ?_ _) | (with_reducible refine Below.drew ?_) | (with_reducible refine Below_drewN ?_ _) | (with_reducible refine Below.setCell ?_ ?_ _) | (refine Below.step (B' := ?_) (b := ?_) ?_ ?_ ?_; rotate_left 2; (with_reducible assumption)) | go_size))⟩
end Go.Proofs.Try
