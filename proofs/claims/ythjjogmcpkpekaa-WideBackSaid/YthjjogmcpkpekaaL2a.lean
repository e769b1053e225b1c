/- The walks of laws of layer 2. -/
import Derived.Test.YthjjogmcpkpekaaW2
import Derived.ProofKit
import Derived.OpenShut
namespace Go.Proofs.Try
open Go.RowKit
set_option linter.unusedVariables false

theorem back_math (xh xl yh yl : Int) (h1 : 0 ≤ xh) (h2 : 0 ≤ xl) (h3 : 0 ≤ yh) (h4 : 0 ≤ yl) (g1 : xh ≤ 18446744073709551615) (g2 : xl ≤ 18446744073709551615) (g3 : yh ≤ 18446744073709551615) (g4 : yl ≤ 18446744073709551615) :
    sHi (aHi xh xl yh yl) (aLo xl yl) yh yl = xh ∧ sLo (aLo xl yl) yl = xl ∧ sOv (aHi xh xl yh yl) (aLo xl yl) yh yl = aOv xh xl yh yl ∧
    aHi (sHi xh xl yh yl) (sLo xl yl) yh yl = xh ∧ aLo (sLo xl yl) yl = xl ∧ aOv (sHi xh xl yh yl) (sLo xl yl) yh yl = sOv xh xl yh yl ∧ decide (cmpW xh xl yh yl < 0) = sOv xh xl yh yl := by
  unfold sHi sLo sOv aHi aLo aOv cmpW
  refine ⟨by split <;> omega, by omega, ?_, by split <;> omega, by omega, ?_, ?_⟩
  · rw [Bool.eq_iff_iff]; simp only [decide_eq_true_eq]; split <;> omega
  · rw [Bool.eq_iff_iff]; simp only [decide_eq_true_eq]; split <;> omega
  · rw [Bool.eq_iff_iff]; simp only [decide_eq_true_eq]; (repeat' split) <;> omega
theorem a_in (xh xl yh yl : Int) : 0 ≤ aHi xh xl yh yl ∧ aHi xh xl yh yl < 18446744073709551616 ∧ 0 ≤ aLo xl yl ∧ aLo xl yl < 18446744073709551616 := by unfold aHi aLo; omega
theorem s_in (xh xl yh yl : Int) : 0 ≤ sHi xh xl yh yl ∧ sHi xh xl yh yl < 18446744073709551616 ∧ 0 ≤ sLo xl yl ∧ sLo xl yl < 18446744073709551616 := by unfold sHi sLo; omega

set_option maxRecDepth 100000 in
set_option maxHeartbeats 2000000 in
theorem walk_WideBack (a0 b0 a1 b1 : Int) (w0 : (Lit.int .u64 a0).wf = true) (z0 : (Lit.int .u64 b0).wf = true) (w1 : (Lit.int .u64 a1).wf = true) (z1 : (Lit.int .u64 b1).wf = true) (w : World) :
    Calls Try.prog 9 #[.agg #[.int .u64 a0, .int .u64 b0], .agg #[.int .u64 a1, .int .u64 b1]] w fun e w' => e = .returned (.bool true) ∧ Below w.heap.size w w' := by
  obtain ⟨h0, h0'⟩ := bounds_u64 w0
  obtain ⟨g0, g0'⟩ := bounds_u64 z0
  obtain ⟨h1, h1'⟩ := bounds_u64 w1
  obtain ⟨g1, g1'⟩ := bounds_u64 z1
  clear w0 z0 w1 z1
  obtain ⟨m1, m2, m3, m4, m5, m6, m7⟩ := back_math a0 b0 a1 b1 h0 g0 h1 g1 h0' g0' h1' g1'
  obtain ⟨i1, i2, i3, i4⟩ := a_in a0 b0 a1 b1
  obtain ⟨j1, j2, j3, j4⟩ := s_in a0 b0 a1 b1
  go_enter Try.func9, Try.ntmps9
  go_wp2_with fail
  refine (awake2 _).mono ?_
  rintro e w1 ⟨rfl, hb1⟩
  obtain ⟨hc_w1, hf_w1, hz_w1⟩ := kept hb1; (try have hzw0_w1 : w.heap.size < w1.heap.size := (by have := hz_w1; first | omega | (simp at this; omega))); (try have hzw1_w1 : w.heap.size + 1 < w1.heap.size := (by have := hz_w1; first | omega | (simp at this; omega)))
  go_wp2_with fail
  refine (wadd_c _ _ _ _ (by omega) (by omega) (by omega) (by omega) (by omega) (by omega) (by omega) (by omega) _).mono ?_
  rintro e w2 ⟨rfl, hb2⟩
  obtain ⟨hc_w2, hf_w2, hz_w2⟩ := kept hb2; (try have hzw0_w2 : w.heap.size < w2.heap.size := (by have := hz_w2; first | omega | (simp at this; omega))); (try have hzw1_w2 : w.heap.size + 1 < w2.heap.size := (by have := hz_w2; first | omega | (simp at this; omega)))
  go_wp2_with fail
  refine (wsub_c _ _ _ _ (by omega) (by omega) (by omega) (by omega) (by omega) (by omega) (by omega) (by omega) _).mono ?_
  rintro e w3 ⟨rfl, hb3⟩
  obtain ⟨hc_w3, hf_w3, hz_w3⟩ := kept hb3; (try have hzw0_w3 : w.heap.size < w3.heap.size := (by have := hz_w3; first | omega | (simp at this; omega))); (try have hzw1_w3 : w.heap.size + 1 < w3.heap.size := (by have := hz_w3; first | omega | (simp at this; omega))); (try have hzw20_w3 : w2.heap.size < w3.heap.size := (by have := hz_w3; first | omega | (simp at this; omega)))
  go_wp2_with fail
  refine (wsub_c _ _ _ _ (by omega) (by omega) (by omega) (by omega) (by omega) (by omega) (by omega) (by omega) _).mono ?_
  rintro e w4 ⟨rfl, hb4⟩
  obtain ⟨hc_w4, hf_w4, hz_w4⟩ := kept hb4; (try have hzw0_w4 : w.heap.size < w4.heap.size := (by have := hz_w4; first | omega | (simp at this; omega))); (try have hzw1_w4 : w.heap.size + 1 < w4.heap.size := (by have := hz_w4; first | omega | (simp at this; omega))); (try have hzw20_w4 : w2.heap.size < w4.heap.size := (by have := hz_w4; first | omega | (simp at this; omega))); (try have hzw30_w4 : w3.heap.size < w4.heap.size := (by have := hz_w4; first | omega | (simp at this; omega)))
  go_wp2_with fail
  refine (wadd_c _ _ _ _ (by omega) (by omega) (by omega) (by omega) (by omega) (by omega) (by omega) (by omega) _).mono ?_
  rintro e w5 ⟨rfl, hb5⟩
  obtain ⟨hc_w5, hf_w5, hz_w5⟩ := kept hb5; (try have hzw0_w5 : w.heap.size < w5.heap.size := (by have := hz_w5; first | omega | (simp at this; omega))); (try have hzw1_w5 : w.heap.size + 1 < w5.heap.size := (by have := hz_w5; first | omega | (simp at this; omega))); (try have hzw20_w5 : w2.heap.size < w5.heap.size := (by have := hz_w5; first | omega | (simp at this; omega))); (try have hzw30_w5 : w3.heap.size < w5.heap.size := (by have := hz_w5; first | omega | (simp at this; omega))); (try have hzw40_w5 : w4.heap.size < w5.heap.size := (by have := hz_w5; first | omega | (simp at this; omega)))
  go_wp2_with fail
  refine (wcmp_c _ _ _ _ _).mono ?_
  rintro e w6 ⟨rfl, hb6⟩
  go_wp2_with fail
  go_ret
  exact ⟨by first | rfl | (simp [m7]), by (repeat' (first | (with_reducible exact Below.refl _ _) | (with_reducible assumption) | (with_reducible refine Below.alloc ?_ ?_ _) | (with_reducible refine Below.drew ?_) | (with_reducible refine Below_drewN ?_ _) | (with_reducible refine Below.setCell ?_ ?_ _) | (refine Below.step (B' := ?_) (b := ?_) ?_ ?_ ?_; rotate_left 2; (with_reducible assumption)) | go_size))⟩
end Go.Proofs.Try
