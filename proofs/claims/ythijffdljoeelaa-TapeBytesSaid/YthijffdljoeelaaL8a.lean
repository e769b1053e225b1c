/- The walk of TapePicks. -/
import Derived.Test.YthijffdljoeelaaW8
import Derived.Test.YthijffdljoeelaaLater
namespace Go.Proofs.Try
open Go.RowKit
set_option linter.unusedVariables false

theorem pick_ok (v n : Int) (h0 : 0 ≤ v) (h1 : v < 4294967296) (hn : pickOk n) (w : World) :
    Calls Try.prog 17 #[.agg #[.string (four v), .int .i64 0], .int .i64 n] w fun r w' => r = .returned (.tuple #[.int .i64 (v * n / 4294967296), .agg #[.string (four v), .int .i64 1]]) ∧ Below w.heap.size w w' := by
  have := pick_c (four v) 0 n (by rw [four_size]; omega) (by omega) (by omega) w
  have hi : inside (four v) 0 := by unfold inside many; rw [four_size]; omega
  have e1 : drawN (four v) 0 = v := by unfold drawN; rw [if_pos hi]; exact four_draw v h0 h1
  have e2 : nextN (four v) 0 = 1 := by unfold nextN; rw [if_pos hi]; rfl
  unfold pickN pickA at this
  rwa [if_pos hn, if_pos hn, e1, e2] at this
theorem pick_off (s : ByteArray) (i n : Int) (hs : s.size ≤ 4611686018427387904) (h0 : -9223372036854775808 ≤ i) (h1 : i ≤ 9223372036854775807) (hn : ¬ pickOk n) (w : World) :
    Calls Try.prog 17 #[.agg #[.string s, .int .i64 i], .int .i64 n] w fun r w' => r = .returned (.tuple #[.int .i64 0, .agg #[.string s, .int .i64 i]]) ∧ Below w.heap.size w w' := by
  have := pick_c s i n hs h0 h1 w
  unfold pickN pickA at this
  rwa [if_neg hn, if_neg hn] at this
theorem of1_u (n : Int) (h0 : 0 ≤ n) (h1 : n < 4294967296) (w : World) :
    Calls Try.prog 24 #[.int .u32 n] w fun r w' => r = .returned (.agg #[.string (four n), .int .i64 0]) ∧ Below w.heap.size w w' := of1_c n h0 h1 w

set_option maxRecDepth 100000 in
set_option maxHeartbeats 4000000 in
theorem walk_TapePicks (a0 a1 a2 : Int) (w0 : (Lit.int .u32 a0).wf = true) (w1 : (Lit.int .u32 a1).wf = true) (w2 : (Lit.int .i64 a2).wf = true) (w : World) :
    Calls Try.prog 5 #[.int .u32 a0, .int .u32 a1, .int .i64 a2] w fun e w' => e = .returned (.bool true) ∧ Below w.heap.size w w' := by
  obtain ⟨h0, h0'⟩ := bounds_u32 w0
  obtain ⟨h1, h1'⟩ := bounds_u32 w1
  obtain ⟨h2, h2'⟩ := bounds_i64 w2
  clear w0 w1 w2
  obtain ⟨lo, hlo, l0, l1⟩ : ∃ lo, min a0 a1 = lo ∧ 0 ≤ lo ∧ lo < 4294967296 := ⟨_, rfl, by omega, by omega⟩
  obtain ⟨hi, hhi, g0, g1, g2⟩ : ∃ hi, max a0 a1 = hi ∧ 0 ≤ hi ∧ hi < 4294967296 ∧ lo ≤ hi := ⟨_, rfl, by omega, by omega, by omega⟩
  have hz : a0 * 1 / 4294967296 = 0 := by omega
  have P1 := pick_ok a0 1 h0 (by omega) ⟨by omega, by omega⟩
  rw [hz] at P1
  by_cases hn : pickOk a2
  · have PL := pick_ok lo a2 l0 l1 hn
    have PH := pick_ok hi a2 g0 g1 hn
    obtain ⟨n1, n2⟩ := hn
    obtain ⟨p0, p1⟩ := prod_lt lo a2 l0 l1 n1 n2
    obtain ⟨q0, q1⟩ := prod_lt hi a2 g0 g1 n1 n2
    have pq : lo * a2 ≤ hi * a2 := Int.mul_le_mul_of_nonneg_right g2 (by omega)
    have x0 : lo = 0 → lo * a2 / 4294967296 = 0 := fun h => by subst h; simp
    have y0 : hi = 4294967295 → hi * a2 / 4294967296 = a2 - 1 := fun h => by subst h; omega
    have xy : lo * a2 / 4294967296 ≤ hi * a2 / 4294967296 := Int.ediv_le_ediv (by omega) pq
    have yn : hi * a2 / 4294967296 < a2 := by omega
    have xx : 0 ≤ lo * a2 / 4294967296 := by omega
    generalize lo * a2 / 4294967296 = X at *
    generalize hi * a2 / 4294967296 = Y at *
    clear p0 p1 q0 q1 pq
    have d1 : decide (a2 < 1) = false := by simp; omega
    have d2 : decide (2147483647 < a2) = false := by simp; omega
    have c : (0 < lo ∧ hi < 4294967295) ∨ (0 < lo ∧ ¬ hi < 4294967295 ∧ Y = a2 - 1) ∨ (¬ 0 < lo ∧ X = 0 ∧ hi < 4294967295) ∨ (¬ 0 < lo ∧ X = 0 ∧ ¬ hi < 4294967295 ∧ Y = a2 - 1) := by
      by_cases r1 : 0 < lo <;> by_cases r2 : hi < 4294967295
      · exact .inl ⟨r1, r2⟩
      · exact .inr (.inl ⟨r1, r2, y0 (by omega)⟩)
      · exact .inr (.inr (.inl ⟨r1, x0 (by omega), r2⟩))
      · exact .inr (.inr (.inr ⟨r1, x0 (by omega), r2, y0 (by omega)⟩))
    clear x0 y0
    have HC := Lib.hid xy
    rcases c with ⟨r1, r2⟩ | ⟨r1, r2, rfl⟩ | ⟨r1, rfl, r2⟩ | ⟨r1, rfl, r2, rfl⟩
    all_goals
      have e1 := decide_eq_true_iff.2 xy
      have e2 := decide_eq_true_iff.2 yn
      first | (have e3 := decide_eq_true_iff.2 r1) | (have e3 := decide_eq_false_iff_not.2 r1)
      first | (have e4 := decide_eq_true_iff.2 r2) | (have e4 := decide_eq_false_iff_not.2 r2)
      go_enter Try.func5, Try.ntmps5
      go_wp2_with fail
      with_reducible refine (awake8 _).mono ?_
      rintro e w1 ⟨rfl, hb1⟩
      have hz1 := hb1.size
      go_wp2_with fail
      with_reducible refine (of1_u _ l0 l1 _).mono ?_
      rintro e w2 ⟨rfl, hb2⟩
      have hz2 := hb2.size
      go_wp2_with fail
      with_reducible refine (PL _).mono ?_
      rintro e w3 ⟨rfl, hb3⟩
      obtain ⟨hc_w3, hf_w3, hz_w3⟩ := kept hb3
      have hz3 := hb3.size
      go_wp2_with fail
      with_reducible refine (of1_u _ g0 g1 _).mono ?_
      rintro e w4 ⟨rfl, hb4⟩
      obtain ⟨hc_w4, hf_w4, hz_w4⟩ := kept hb4; (try have hzw30_w4 : w3.heap.size < w4.heap.size := (by have := hz_w4; first | omega | (simp at this; omega)))
      have hz4 := hb4.size
      simp only [World.size_alloc] at hz4
      go_wp2_with fail
      with_reducible refine (PH _).mono ?_
      rintro e w5 ⟨rfl, hb5⟩
      obtain ⟨hc_w5, hf_w5, hz_w5⟩ := kept hb5; (try have hzw30_w5 : w3.heap.size < w5.heap.size := (by have := hz_w5; first | omega | (simp at this; omega)))
      have hz5 := hb5.size
      go_wp2_with fail
      with_reducible refine (of1_u _ h0 (by omega) _).mono ?_
      rintro e w6 ⟨rfl, hb6⟩
      obtain ⟨hc_w6, hf_w6, hz_w6⟩ := kept hb6; (try have hzw30_w6 : w3.heap.size < w6.heap.size := (by have := hz_w6; first | omega | (simp at this; omega))); (try have hzw50_w6 : w5.heap.size < w6.heap.size := (by have := hz_w6; first | omega | (simp at this; omega)))
      have hz6 := hb6.size
      simp only [World.size_alloc] at hz6
      go_wp2_with fail
      with_reducible refine (P1 _).mono ?_
      rintro e w7 ⟨rfl, hb7⟩
      obtain ⟨hc_w7, hf_w7, hz_w7⟩ := kept hb7; (try have hzw30_w7 : w3.heap.size < w7.heap.size := (by have := hz_w7; first | omega | (simp at this; omega))); (try have hzw50_w7 : w5.heap.size < w7.heap.size := (by have := hz_w7; first | omega | (simp at this; omega)))
      have hz7 := hb7.size
      go_wp2_with fail
      go_ret
      exact ⟨by first | rfl | (simp; done) | (simp; omega), by (repeat' (first | (with_reducible exact Below.refl _ _) | (with_reducible assumption) | (with_reducible refine Below.alloc ?_ ?_ _) | (with_reducible refine Below.drew ?_) | (with_reducible refine Below_drewN ?_ _) | (with_reducible refine Below.setCell ?_ ?_ _) | (refine Below.step (B' := ?_) (b := ?_) ?_ ?_ ?_; rotate_left 2; (with_reducible assumption)) | go_size))⟩
  · have PL := pick_off (four lo) 0 a2 (by rw [four_size]; omega) (by omega) (by omega) hn
    have PH := pick_off (four hi) 0 a2 (by rw [four_size]; omega) (by omega) (by omega) hn
    rcases (by unfold pickOk at hn; omega : a2 < 1 ∨ 1 ≤ a2 ∧ 2147483647 < a2) with r | ⟨r0, r⟩
    all_goals
      first | (have d1 := decide_eq_true_iff.2 r) | skip
      try have d2 : decide (a2 < 1) = false := by simp; omega
      go_enter Try.func5, Try.ntmps5
      go_wp2_with fail
      with_reducible refine (awake8 _).mono ?_
      rintro e w1 ⟨rfl, hb1⟩
      have hz1 := hb1.size
      go_wp2_with fail
      with_reducible refine (of1_u _ l0 l1 _).mono ?_
      rintro e w2 ⟨rfl, hb2⟩
      have hz2 := hb2.size
      go_wp2_with fail
      with_reducible refine (PL _).mono ?_
      rintro e w3 ⟨rfl, hb3⟩
      obtain ⟨hc_w3, hf_w3, hz_w3⟩ := kept hb3
      have hz3 := hb3.size
      go_wp2_with fail
      with_reducible refine (of1_u _ g0 g1 _).mono ?_
      rintro e w4 ⟨rfl, hb4⟩
      obtain ⟨hc_w4, hf_w4, hz_w4⟩ := kept hb4; (try have hzw30_w4 : w3.heap.size < w4.heap.size := (by have := hz_w4; first | omega | (simp at this; omega)))
      have hz4 := hb4.size
      simp only [World.size_alloc] at hz4
      go_wp2_with fail
      with_reducible refine (PH _).mono ?_
      rintro e w5 ⟨rfl, hb5⟩
      obtain ⟨hc_w5, hf_w5, hz_w5⟩ := kept hb5; (try have hzw30_w5 : w3.heap.size < w5.heap.size := (by have := hz_w5; first | omega | (simp at this; omega)))
      have hz5 := hb5.size
      go_wp2_with fail
      with_reducible refine (of1_u _ h0 (by omega) _).mono ?_
      rintro e w6 ⟨rfl, hb6⟩
      obtain ⟨hc_w6, hf_w6, hz_w6⟩ := kept hb6; (try have hzw30_w6 : w3.heap.size < w6.heap.size := (by have := hz_w6; first | omega | (simp at this; omega))); (try have hzw50_w6 : w5.heap.size < w6.heap.size := (by have := hz_w6; first | omega | (simp at this; omega)))
      have hz6 := hb6.size
      simp only [World.size_alloc] at hz6
      go_wp2_with fail
      with_reducible refine (P1 _).mono ?_
      rintro e w7 ⟨rfl, hb7⟩
      obtain ⟨hc_w7, hf_w7, hz_w7⟩ := kept hb7; (try have hzw30_w7 : w3.heap.size < w7.heap.size := (by have := hz_w7; first | omega | (simp at this; omega))); (try have hzw50_w7 : w5.heap.size < w7.heap.size := (by have := hz_w7; first | omega | (simp at this; omega)))
      have hz7 := hb7.size
      go_wp2_with fail
      (refine region_later (by kernel_rfl) (by kernel_rfl) ?_); (intro hlat); (repeat (go_big_quiet_step ((first | (go_at_call 24; with_reducible exact later_call (of1_u _ g0 g1 _)))))); (refine wpQuiet_nil ?_); (intro W1 hbW1); (clear hlat)
      have hzW1 := hbW1.size
      simp only [World.size_alloc] at hzW1
      go_wp2_with fail
      go_ret
      exact ⟨by first | rfl | (simp; done), by (repeat' (first | (with_reducible exact Below.refl _ _) | (with_reducible assumption) | (with_reducible refine Below.alloc ?_ ?_ _) | (with_reducible refine Below.drew ?_) | (with_reducible refine Below_drewN ?_ _) | (with_reducible refine Below.setCell ?_ ?_ _) | (refine Below.step (B' := ?_) (b := ?_) ?_ ?_ ?_; rotate_left 2; (with_reducible assumption)) | go_size))⟩
end Go.Proofs.Try
