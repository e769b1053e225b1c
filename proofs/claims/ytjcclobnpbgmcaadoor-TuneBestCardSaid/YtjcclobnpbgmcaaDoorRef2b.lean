/- Contracts of linhayref02: Add. -/
import Derived.Test.YtjcclobnpbgmcaaDoorRef2
namespace Go.Proofs.Tryd
open Go.RowKit
set_option linter.unusedVariables false

theorem add_dig (xh xl yh yl : Int) (h1 : 0 ≤ xh) (h2 : 0 ≤ xl) (h3 : 0 ≤ yh) (h4 : 0 ≤ yl) (g1 : xh < 18446744073709551616) (g2 : xl < 18446744073709551616) (g3 : yh < 18446744073709551616) (g4 : yl < 18446744073709551616) :
    ((xh / 4294967296 + yh / 4294967296 + (xh % 4294967296 + yh % 4294967296 + (xl / 4294967296 + yl / 4294967296 + (xl % 4294967296 + yl % 4294967296) / 4294967296) / 4294967296) / 4294967296) % 4294967296 * 4294967296
      + (xh % 4294967296 + yh % 4294967296 + (xl / 4294967296 + yl / 4294967296 + (xl % 4294967296 + yl % 4294967296) / 4294967296) / 4294967296) % 4294967296 = aHi xh xl yh yl) ∧
    ((xl / 4294967296 + yl / 4294967296 + (xl % 4294967296 + yl % 4294967296) / 4294967296) % 4294967296 * 4294967296 + (xl + yl) % 4294967296 = aLo xl yl) ∧
    (decide (0 < (xh / 4294967296 + yh / 4294967296 + (xh % 4294967296 + yh % 4294967296 + (xl / 4294967296 + yl / 4294967296 + (xl % 4294967296 + yl % 4294967296) / 4294967296) / 4294967296) / 4294967296) / 4294967296) = aOv xh xl yh yl) := by
  have c1 : xl / 4294967296 + yl / 4294967296 + (xl % 4294967296 + yl % 4294967296) / 4294967296 = (xl + yl) / 4294967296 := by omega
  rw [c1]
  have c2 : (xl + yl) / 4294967296 / 4294967296 = (xl + yl) / 18446744073709551616 := by omega
  rw [c2]
  have c3 : 0 ≤ (xl + yl) / 18446744073709551616 ∧ (xl + yl) / 18446744073709551616 ≤ 1 := by omega
  have c4 : (xl + yl) / 4294967296 % 4294967296 * 4294967296 + (xl + yl) % 4294967296 = (xl + yl) % 18446744073709551616 := by omega
  unfold aHi aLo aOv
  generalize (xl + yl) / 18446744073709551616 = c at *
  refine ⟨by clear c1 c2 c4; omega, c4, ?_⟩
  clear c1 c2 c4
  rw [Bool.eq_iff_iff]
  simp only [decide_eq_true_eq]
  omega

set_option maxHeartbeats 400000 in
theorem radd2_c (xh xl yh yl : Int) (h1 : 0 ≤ xh) (h2 : 0 ≤ xl) (h3 : 0 ≤ yh) (h4 : 0 ≤ yl) (g1 : xh < 18446744073709551616) (g2 : xl < 18446744073709551616) (g3 : yh < 18446744073709551616) (g4 : yl < 18446744073709551616) (w : World) :
    Calls Tryd.prog 77 #[.agg #[.int .u64 xh, .int .u64 xl], .agg #[.int .u64 yh, .int .u64 yl]] w fun r w' => r = .returned (.tuple #[.agg #[.int .u64 (aHi xh xl yh yl), .int .u64 (aLo xl yl)], .bool (aOv xh xl yh yl)]) ∧ Below w.heap.size w w' := by
  have H := Lib.hid (add_dig xh xl yh yl h1 h2 h3 h4 g1 g2 g3 g4)
  go_enter Tryd.func77, Tryd.ntmps77
  go_wp2_with fail
  refine (digits_c _ _ h1 h2 g1 g2 _).mono ?_
  rintro e w1 ⟨rfl, hb1⟩
  obtain ⟨hc_w1, hf_w1, hz_w1⟩ := kept hb1; (try have hzw0_w1 : w.heap.size < w1.heap.size := (by have := hz_w1; first | omega | (simp at this; omega))); (try have hzw1_w1 : w.heap.size + 1 < w1.heap.size := (by have := hz_w1; first | omega | (simp at this; omega))); (try have hzw2_w1 : w.heap.size + 1 + 1 < w1.heap.size := (by have := hz_w1; first | omega | (simp at this; omega)))
  go_wp2_with fail
  refine (digits_c _ _ h3 h4 g3 g4 _).mono ?_
  rintro e w2 ⟨rfl, hb2⟩
  obtain ⟨hc_w2, hf_w2, hz_w2⟩ := kept hb2; (try have hzw0_w2 : w.heap.size < w2.heap.size := (by have := hz_w2; first | omega | (simp at this; omega))); (try have hzw1_w2 : w.heap.size + 1 < w2.heap.size := (by have := hz_w2; first | omega | (simp at this; omega))); (try have hzw2_w2 : w.heap.size + 1 + 1 < w2.heap.size := (by have := hz_w2; first | omega | (simp at this; omega))); (try have hzw10_w2 : w1.heap.size < w2.heap.size := (by have := hz_w2; first | omega | (simp at this; omega)))
  go_wp2_with fail
  refine wp_loop_rounds 5 ?_
  rw [rounds_succ]
  go_wp2_with fail
  go_quiet (fail)
  go_wp2_with fail
  rw [rounds_succ]
  go_wp2_with fail
  go_quiet (fail)
  go_wp2_with fail
  rw [rounds_succ]
  go_wp2_with fail
  go_quiet (fail)
  go_wp2_with fail
  rw [rounds_succ]
  go_wp2_with fail
  go_quiet (fail)
  go_wp2_with fail
  rw [rounds_succ]
  go_wp2_with fail
  refine (whole_c _ _ _ _ (Int.emod_nonneg _ (by decide)) (Int.emod_nonneg _ (by decide)) (Int.emod_nonneg _ (by decide)) (Int.emod_nonneg _ (by decide)) (Int.emod_lt_of_pos _ (by decide)) (Int.emod_lt_of_pos _ (by decide)) (Int.emod_lt_of_pos _ (by decide)) (Int.emod_lt_of_pos _ (by decide)) _).mono ?_
  rintro e w3 ⟨rfl, hb3⟩
  obtain ⟨hc_w3, hf_w3, hz_w3⟩ := kept hb3; (try have hzw0_w3 : w.heap.size < w3.heap.size := (by have := hz_w3; first | omega | (simp at this; omega))); (try have hzw1_w3 : w.heap.size + 1 < w3.heap.size := (by have := hz_w3; first | omega | (simp at this; omega))); (try have hzw2_w3 : w.heap.size + 1 + 1 < w3.heap.size := (by have := hz_w3; first | omega | (simp at this; omega)))
  have cc0_w3 : w3.cell? ⟨w.heap.size + 1 + 1, 0, none⟩ = some (.int .u64 0) := (by go_simp); have cc1_w3 : w3.cell? ⟨w.heap.size + 1 + 1, 1, none⟩ = some (.int .u64 0) := (by go_simp)
  go_wp2_with fail
  refine bodyPost_ret (by simp [results, Tryd.results77, go_sem, cc0_w3, cc1_w3]; try rfl) rfl ?_
  refine ⟨ret_ab ?_ ?_ ?_, by (repeat' (first | (with_reducible exact Below.refl _ _) | (with_reducible assumption) | (with_reducible refine Below.alloc ?_ ?_ _) | (with_reducible refine Below.drew ?_) | (with_reducible refine Below_drewN ?_ _) | (with_reducible refine Below.setCell ?_ ?_ _) | (with_reducible refine Below.trans ?_ (Below.mono (by with_reducible assumption) ?_)) | go_size))⟩
  · exact H.out.1
  · exact H.out.2.1
  · exact H.out.2.2
end Go.Proofs.Tryd
