/- Contracts of linhayref02: Sub. -/
import Derived.Test.YthjjogmcpkpekaaRef2b
import Derived.Deep.RegionWith
namespace Go.Proofs.Try
open Go.RowKit
set_option linter.unusedVariables false

theorem sub_as_add (xh xl yh yl : Int) (h1 : 0 ≤ xh) (h2 : 0 ≤ xl) (h3 : 0 ≤ yh) (h4 : 0 ≤ yl) (g1 : xh < 18446744073709551616) (g2 : xl < 18446744073709551616) (g3 : yh < 18446744073709551616) (g4 : yl < 18446744073709551616) :
    aLo (aLo xl (18446744073709551615 - yl)) 1 = sLo xl yl ∧ aHi (aHi xh xl (18446744073709551615 - yh) (18446744073709551615 - yl)) (aLo xl (18446744073709551615 - yl)) 0 1 = sHi xh xl yh yl ∧ decide (cmpW xh xl yh yl < 0) = sOv xh xl yh yl := by
  unfold aLo aHi sLo sHi cmpW sOv
  refine ⟨by omega, by split <;> omega, ?_⟩
  rw [Bool.eq_iff_iff]
  simp only [decide_eq_true_eq]
  (repeat' split) <;> omega

set_option maxHeartbeats 1000000 in
theorem rsub2_c (xh xl yh yl : Int) (h1 : 0 ≤ xh) (h2 : 0 ≤ xl) (h3 : 0 ≤ yh) (h4 : 0 ≤ yl) (g1 : xh < 18446744073709551616) (g2 : xl < 18446744073709551616) (g3 : yh < 18446744073709551616) (g4 : yl < 18446744073709551616) (w : World) :
    Calls Try.prog 37 #[.agg #[.int .u64 xh, .int .u64 xl], .agg #[.int .u64 yh, .int .u64 yl]] w fun r w' => r = .returned (.tuple #[.agg #[.int .u64 (sHi xh xl yh yl), .int .u64 (sLo xl yl)], .bool (sOv xh xl yh yl)]) ∧ Below w.heap.size w w' := by
  obtain ⟨s1, s2, s3⟩ := sub_as_add xh xl yh yl h1 h2 h3 h4 g1 g2 g3 g4
  have S1 := Lib.hid s1
  have S2 := Lib.hid s2
  have S3 := Lib.hid s3
  clear s1 s2 s3
  have t1 : 0 ≤ aHi xh xl (18446744073709551615 - yh) (18446744073709551615 - yl) ∧ aHi xh xl (18446744073709551615 - yh) (18446744073709551615 - yl) < 18446744073709551616 := by unfold aHi; omega
  have t2 : 0 ≤ aLo xl (18446744073709551615 - yl) ∧ aLo xl (18446744073709551615 - yl) < 18446744073709551616 := by unfold aLo; omega
  obtain ⟨t1, t1'⟩ := t1
  obtain ⟨t2, t2'⟩ := t2
  go_enter Try.func37, Try.ntmps37
  go_wp2_with fail
  refine (radd2_c _ _ _ _ h1 h2 (by omega) (by omega) g1 g2 (by omega) (by omega) _).mono ?_
  rintro e w1 ⟨rfl, hb1⟩
  obtain ⟨hc_w1, hf_w1, hz_w1⟩ := kept hb1; (try have hzw0_w1 : w.heap.size < w1.heap.size := (by have := hz_w1; first | omega | (simp at this; omega))); (try have hzw1_w1 : w.heap.size + 1 < w1.heap.size := (by have := hz_w1; first | omega | (simp at this; omega))); (try have hzw2_w1 : w.heap.size + 1 + 1 < w1.heap.size := (by have := hz_w1; first | omega | (simp at this; omega))); (try have hzw3_w1 : w.heap.size + 1 + 1 + 1 < w1.heap.size := (by have := hz_w1; first | omega | (simp at this; omega)))
  go_wp2_with fail
  refine (radd2_c _ _ _ _ t1 t2 (by omega) (by omega) t1' t2' (by omega) (by omega) _).mono ?_
  rintro e w2 ⟨rfl, hb2⟩
  obtain ⟨hc_w2, hf_w2, hz_w2⟩ := kept hb2; (try have hzw0_w2 : w.heap.size < w2.heap.size := (by have := hz_w2; first | omega | (simp at this; omega))); (try have hzw1_w2 : w.heap.size + 1 < w2.heap.size := (by have := hz_w2; first | omega | (simp at this; omega))); (try have hzw2_w2 : w.heap.size + 1 + 1 < w2.heap.size := (by have := hz_w2; first | omega | (simp at this; omega))); (try have hzw3_w2 : w.heap.size + 1 + 1 + 1 < w2.heap.size := (by have := hz_w2; first | omega | (simp at this; omega))); (try have hzw10_w2 : w1.heap.size < w2.heap.size := (by have := hz_w2; first | omega | (simp at this; omega)))
  go_wp2_with fail
  go_region_with (go_at_call 43; refine (rcmp2_c _ _ _ _ _).mono ?_; rintro e w3 ⟨rfl, hb3⟩; obtain ⟨hc_w3, hf_w3, hz_w3⟩ := kept hb3; (try have hzw0_w3 : w.heap.size < w3.heap.size := (by have := hz_w3; first | omega | (simp at this; omega))); (try have hzw1_w3 : w.heap.size + 1 < w3.heap.size := (by have := hz_w3; first | omega | (simp at this; omega))); (try have hzw2_w3 : w.heap.size + 1 + 1 < w3.heap.size := (by have := hz_w3; first | omega | (simp at this; omega))); (try have hzw3_w3 : w.heap.size + 1 + 1 + 1 < w3.heap.size := (by have := hz_w3; first | omega | (simp at this; omega))); (try have hzw10_w3 : w1.heap.size < w3.heap.size := (by have := hz_w3; first | omega | (simp at this; omega))); (try have hzw20_w3 : w2.heap.size < w3.heap.size := (by have := hz_w3; first | omega | (simp at this; omega))); have cc0_w3 : w3.cell? ⟨w.heap.size + 1 + 1, 0, none⟩ = some (.int .u64 0) := (by go_simp); have cc1_w3 : w3.cell? ⟨w.heap.size + 1 + 1, 1, none⟩ = some (.int .u64 0) := (by go_simp))
  all_goals
    go_wp2_with fail
    refine bodyPost_ret (by simp [results, Try.results37, go_sem, cc0_w3, cc1_w3]; try rfl) rfl ?_
    refine ⟨ret_ab ?_ ?_ ?_, by (repeat' (first | (with_reducible exact Below.refl _ _) | (with_reducible assumption) | (with_reducible refine Below.alloc ?_ ?_ _) | (with_reducible refine Below.drew ?_) | (with_reducible refine Below_drewN ?_ _) | (with_reducible refine Below.setCell ?_ ?_ _) | (with_reducible refine Below.trans ?_ (Below.mono (by with_reducible assumption) ?_)) | go_size))⟩
    · exact S2.out
    · exact S1.out
    · exact S3.out

end Go.Proofs.Try
