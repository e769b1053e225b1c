/- The walk of WideOrder. -/

import Derived.Test.YthjjogmcpkpekaaW2
import Derived.ProofKit
import Derived.OpenShut
namespace Go.Proofs.Try
open Go.RowKit
set_option linter.unusedVariables false

def cw (X Y : Int) : Int := if X < Y then -1 else if Y < X then 1 else 0
theorem cmpW_cw (a b c d : Int) (h1 : 0 ≤ b) (h2 : b < 18446744073709551616) (h3 : 0 ≤ d) (h4 : d < 18446744073709551616) : cmpW a b c d = cw (a * 18446744073709551616 + b) (c * 18446744073709551616 + d) := by
  unfold cmpW cw
  (repeat' split) <;> omega
theorem cw_lt {X Y : Int} (h : X < Y) : cw X Y = -1 := by unfold cw; rw [if_pos h]
theorem cw_gt {X Y : Int} (h : Y < X) : cw X Y = 1 := by unfold cw; rw [if_neg (by omega), if_pos h]
theorem cw_eq (X : Int) : cw X X = 0 := by unfold cw; rw [if_neg (by omega), if_neg (by omega)]
theorem cw_le {X Y : Int} (h : X ≤ Y) : cw X Y ≤ 0 := by unfold cw; split <;> (try split) <;> omega
theorem sum_in (a b c d : Int) (h1 : 0 ≤ b) (h2 : b < 18446744073709551616) (h3 : 0 ≤ d) (h4 : d < 18446744073709551616) (h5 : 0 ≤ a) (h6 : 0 ≤ c) (h : aOv a b c d = false) :
    aHi a b c d * 18446744073709551616 + aLo b d = (a * 18446744073709551616 + b) + (c * 18446744073709551616 + d) ∧ 0 ≤ aLo b d ∧ aLo b d < 18446744073709551616 := by
  unfold aOv at h
  simp only [decide_eq_false_iff_not] at h
  unfold aHi aLo
  omega

set_option maxRecDepth 100000 in
set_option maxHeartbeats 4000000 in
theorem wo_lta (xh xl yh yl zh zl : Int) (h1 : 0 ≤ xh) (g1 : xh < 18446744073709551616) (h2 : 0 ≤ xl) (g2 : xl < 18446744073709551616) (h3 : 0 ≤ yh) (g3 : yh < 18446744073709551616) (h4 : 0 ≤ yl) (g4 : yl < 18446744073709551616) (h5 : 0 ≤ zh) (g5 : zh < 18446744073709551616) (h6 : 0 ≤ zl) (g6 : zl < 18446744073709551616) (hc : xh * 18446744073709551616 + xl < yh * 18446744073709551616 + yl) (he : (xh == yh) = false) (w : World) :
  Calls Try.prog 12 #[.agg #[.int .u64 xh, .int .u64 xl], .agg #[.int .u64 yh, .int .u64 yl], .agg #[.int .u64 zh, .int .u64 zl]] w fun e w' => e = .returned (.bool true) ∧ Below w.heap.size w w' := by
  have q1 : cmpW xh xl yh yl = -1 := by rw [cmpW_cw _ _ _ _ h2 g2 h4 g4]; exact cw_lt hc
  have q2 : cmpW yh yl xh xl = 1 := by rw [cmpW_cw _ _ _ _ h4 g4 h2 g2]; exact cw_gt hc
  have q3 : aOv xh xl zh zl = false → aOv yh yl zh zl = false → cmpW (aHi xh xl zh zl) (aLo xl zl) (aHi yh yl zh zl) (aLo yl zl) = -1 := fun o1 o2 => by
    obtain ⟨s1, s2, s3⟩ := sum_in xh xl zh zl h2 g2 h6 g6 h1 h5 o1
    obtain ⟨t1, t2, t3⟩ := sum_in yh yl zh zl h4 g4 h6 g6 h3 h5 o2
    rw [cmpW_cw _ _ _ _ s2 s3 t2 t3]; exact cw_lt (by omega)
  rcases (by cases aOv xh xl zh zl <;> cases aOv yh yl zh zl <;> simp : aOv xh xl zh zl = true ∨ aOv xh xl zh zl = false ∧ aOv yh yl zh zl = true ∨ aOv xh xl zh zl = false ∧ aOv yh yl zh zl = false) with o1 | ⟨o1, o2⟩ | ⟨o1, o2⟩
  · clear q3
    go_enter Try.func12, Try.ntmps12
    go_wp2_with fail
    with_reducible refine (awake2 _).mono ?_
    rintro e w1 ⟨rfl, hb1⟩
    obtain ⟨hc_w1, hf_w1, hz_w1⟩ := kept hb1; (try simp only [World.size_drew] at hc_w1 hf_w1 hz_w1); (try have hzw0_w1 : w.heap.size < w1.heap.size := (by have := hz_w1; first | omega | (simp at this; omega))); (try have hyw0_w1 := Nat.le_of_lt hzw0_w1); (try have hzw1_w1 : w.heap.size + 1 < w1.heap.size := (by have := hz_w1; first | omega | (simp at this; omega))); (try have hyw1_w1 := Nat.le_of_lt hzw1_w1); (try have hzw2_w1 : w.heap.size + 1 + 1 < w1.heap.size := (by have := hz_w1; first | omega | (simp at this; omega))); (try have hyw2_w1 := Nat.le_of_lt hzw2_w1)
    have hz1 := hb1.size
    simp only [World.size_alloc] at hz1
    go_wp2_with fail
    with_reducible refine (wcmp_c _ _ _ _ _).mono ?_
    rintro e w2 ⟨rfl, hb2⟩
    obtain ⟨hc_w2, hf_w2, hz_w2⟩ := kept hb2; (try simp only [World.size_drew] at hc_w2 hf_w2 hz_w2); (try have hzw0_w2 : w.heap.size < w2.heap.size := (by have := hz_w2; first | omega | (simp at this; omega))); (try have hyw0_w2 := Nat.le_of_lt hzw0_w2); (try have hzw1_w2 : w.heap.size + 1 < w2.heap.size := (by have := hz_w2; first | omega | (simp at this; omega))); (try have hyw1_w2 := Nat.le_of_lt hzw1_w2); (try have hzw2_w2 : w.heap.size + 1 + 1 < w2.heap.size := (by have := hz_w2; first | omega | (simp at this; omega))); (try have hyw2_w2 := Nat.le_of_lt hzw2_w2)
    have hz2 := hb2.size
    go_wp2_with fail
    with_reducible refine (wcmp_c _ _ _ _ _).mono ?_
    rintro e w3 ⟨rfl, hb3⟩
    obtain ⟨hc_w3, hf_w3, hz_w3⟩ := kept hb3; (try simp only [World.size_drew] at hc_w3 hf_w3 hz_w3); (try have hzw0_w3 : w.heap.size < w3.heap.size := (by have := hz_w3; first | omega | (simp at this; omega))); (try have hyw0_w3 := Nat.le_of_lt hzw0_w3); (try have hzw1_w3 : w.heap.size + 1 < w3.heap.size := (by have := hz_w3; first | omega | (simp at this; omega))); (try have hyw1_w3 := Nat.le_of_lt hzw1_w3); (try have hzw2_w3 : w.heap.size + 1 + 1 < w3.heap.size := (by have := hz_w3; first | omega | (simp at this; omega))); (try have hyw2_w3 := Nat.le_of_lt hzw2_w3)
    have hz3 := hb3.size
    go_wp2_with fail
    refine (wadd_c _ _ _ _ (by omega) (by omega) (by omega) (by omega) (by omega) (by omega) (by omega) (by omega) _).mono ?_
    rintro e wa ⟨rfl, hba⟩
    obtain ⟨hc_wa, hf_wa, hz_wa⟩ := kept hba; (try simp only [World.size_drew] at hc_wa hf_wa hz_wa); (try have hzw0_wa : w.heap.size < wa.heap.size := (by have := hz_wa; first | omega | (simp at this; omega))); (try have hyw0_wa := Nat.le_of_lt hzw0_wa); (try have hzw1_wa : w.heap.size + 1 < wa.heap.size := (by have := hz_wa; first | omega | (simp at this; omega))); (try have hyw1_wa := Nat.le_of_lt hzw1_wa); (try have hzw2_wa : w.heap.size + 1 + 1 < wa.heap.size := (by have := hz_wa; first | omega | (simp at this; omega))); (try have hyw2_wa := Nat.le_of_lt hzw2_wa)
    have hza := hba.size
    go_wp2_with fail
    refine (wadd_c _ _ _ _ (by omega) (by omega) (by omega) (by omega) (by omega) (by omega) (by omega) (by omega) _).mono ?_
    rintro e wb ⟨rfl, hbb⟩
    obtain ⟨hc_wb, hf_wb, hz_wb⟩ := kept hbb; (try simp only [World.size_drew] at hc_wb hf_wb hz_wb); (try have hzw0_wb : w.heap.size < wb.heap.size := (by have := hz_wb; first | omega | (simp at this; omega))); (try have hyw0_wb := Nat.le_of_lt hzw0_wb); (try have hzw1_wb : w.heap.size + 1 < wb.heap.size := (by have := hz_wb; first | omega | (simp at this; omega))); (try have hyw1_wb := Nat.le_of_lt hzw1_wb); (try have hzw2_wb : w.heap.size + 1 + 1 < wb.heap.size := (by have := hz_wb; first | omega | (simp at this; omega))); (try have hyw2_wb := Nat.le_of_lt hzw2_wb); (try have hzwa0_wb : wa.heap.size < wb.heap.size := (by have := hz_wb; first | omega | (simp at this; omega))); (try have hywa0_wb := Nat.le_of_lt hzwa0_wb)
    have hzb := hbb.size
    simp only [World.size_alloc] at hzb
    go_wp2_with fail
    with_reducible refine (wcmp_c _ _ _ _ _).mono ?_
    rintro e w4 ⟨rfl, hb4⟩
    obtain ⟨hc_w4, hf_w4, hz_w4⟩ := kept hb4; (try simp only [World.size_drew] at hc_w4 hf_w4 hz_w4); (try have hzw0_w4 : w.heap.size < w4.heap.size := (by have := hz_w4; first | omega | (simp at this; omega))); (try have hyw0_w4 := Nat.le_of_lt hzw0_w4); (try have hzw1_w4 : w.heap.size + 1 < w4.heap.size := (by have := hz_w4; first | omega | (simp at this; omega))); (try have hyw1_w4 := Nat.le_of_lt hzw1_w4); (try have hzw2_w4 : w.heap.size + 1 + 1 < w4.heap.size := (by have := hz_w4; first | omega | (simp at this; omega))); (try have hyw2_w4 := Nat.le_of_lt hzw2_w4); (try have hzwa0_w4 : wa.heap.size < w4.heap.size := (by have := hz_w4; first | omega | (simp at this; omega))); (try have hywa0_w4 := Nat.le_of_lt hzwa0_w4); (try have hzwb0_w4 : wb.heap.size < w4.heap.size := (by have := hz_w4; first | omega | (simp at this; omega))); (try have hywb0_w4 := Nat.le_of_lt hzwb0_w4)
    have hz4 := hb4.size
    simp only [World.size_alloc] at hz4
    go_wp2_with fail
    all_goals
      first
        | (exfalso; omega)
        | (go_ret; exact ⟨by first | rfl | (simp; done) | (simp; omega), by (repeat' (first | (with_reducible exact Below.refl _ _) | (with_reducible assumption) | (with_reducible refine Below.alloc ?_ ?_ _) | (with_reducible refine Below.drew ?_) | (with_reducible refine Below_drewN ?_ _) | (with_reducible refine Below.setCell ?_ ?_ _) | (refine Below.step (B' := ?_) (b := ?_) ?_ ?_ ?_; rotate_left 2; (with_reducible assumption)) | go_size))⟩)
  · clear q3
    go_enter Try.func12, Try.ntmps12
    go_wp2_with fail
    with_reducible refine (awake2 _).mono ?_
    rintro e w1 ⟨rfl, hb1⟩
    obtain ⟨hc_w1, hf_w1, hz_w1⟩ := kept hb1; (try simp only [World.size_drew] at hc_w1 hf_w1 hz_w1); (try have hzw0_w1 : w.heap.size < w1.heap.size := (by have := hz_w1; first | omega | (simp at this; omega))); (try have hyw0_w1 := Nat.le_of_lt hzw0_w1); (try have hzw1_w1 : w.heap.size + 1 < w1.heap.size := (by have := hz_w1; first | omega | (simp at this; omega))); (try have hyw1_w1 := Nat.le_of_lt hzw1_w1); (try have hzw2_w1 : w.heap.size + 1 + 1 < w1.heap.size := (by have := hz_w1; first | omega | (simp at this; omega))); (try have hyw2_w1 := Nat.le_of_lt hzw2_w1)
    have hz1 := hb1.size
    simp only [World.size_alloc] at hz1
    go_wp2_with fail
    with_reducible refine (wcmp_c _ _ _ _ _).mono ?_
    rintro e w2 ⟨rfl, hb2⟩
    obtain ⟨hc_w2, hf_w2, hz_w2⟩ := kept hb2; (try simp only [World.size_drew] at hc_w2 hf_w2 hz_w2); (try have hzw0_w2 : w.heap.size < w2.heap.size := (by have := hz_w2; first | omega | (simp at this; omega))); (try have hyw0_w2 := Nat.le_of_lt hzw0_w2); (try have hzw1_w2 : w.heap.size + 1 < w2.heap.size := (by have := hz_w2; first | omega | (simp at this; omega))); (try have hyw1_w2 := Nat.le_of_lt hzw1_w2); (try have hzw2_w2 : w.heap.size + 1 + 1 < w2.heap.size := (by have := hz_w2; first | omega | (simp at this; omega))); (try have hyw2_w2 := Nat.le_of_lt hzw2_w2)
    have hz2 := hb2.size
    go_wp2_with fail
    with_reducible refine (wcmp_c _ _ _ _ _).mono ?_
    rintro e w3 ⟨rfl, hb3⟩
    obtain ⟨hc_w3, hf_w3, hz_w3⟩ := kept hb3; (try simp only [World.size_drew] at hc_w3 hf_w3 hz_w3); (try have hzw0_w3 : w.heap.size < w3.heap.size := (by have := hz_w3; first | omega | (simp at this; omega))); (try have hyw0_w3 := Nat.le_of_lt hzw0_w3); (try have hzw1_w3 : w.heap.size + 1 < w3.heap.size := (by have := hz_w3; first | omega | (simp at this; omega))); (try have hyw1_w3 := Nat.le_of_lt hzw1_w3); (try have hzw2_w3 : w.heap.size + 1 + 1 < w3.heap.size := (by have := hz_w3; first | omega | (simp at this; omega))); (try have hyw2_w3 := Nat.le_of_lt hzw2_w3)
    have hz3 := hb3.size
    go_wp2_with fail
    refine (wadd_c _ _ _ _ (by omega) (by omega) (by omega) (by omega) (by omega) (by omega) (by omega) (by omega) _).mono ?_
    rintro e wa ⟨rfl, hba⟩
    obtain ⟨hc_wa, hf_wa, hz_wa⟩ := kept hba; (try simp only [World.size_drew] at hc_wa hf_wa hz_wa); (try have hzw0_wa : w.heap.size < wa.heap.size := (by have := hz_wa; first | omega | (simp at this; omega))); (try have hyw0_wa := Nat.le_of_lt hzw0_wa); (try have hzw1_wa : w.heap.size + 1 < wa.heap.size := (by have := hz_wa; first | omega | (simp at this; omega))); (try have hyw1_wa := Nat.le_of_lt hzw1_wa); (try have hzw2_wa : w.heap.size + 1 + 1 < wa.heap.size := (by have := hz_wa; first | omega | (simp at this; omega))); (try have hyw2_wa := Nat.le_of_lt hzw2_wa)
    have hza := hba.size
    go_wp2_with fail
    refine (wadd_c _ _ _ _ (by omega) (by omega) (by omega) (by omega) (by omega) (by omega) (by omega) (by omega) _).mono ?_
    rintro e wb ⟨rfl, hbb⟩
    obtain ⟨hc_wb, hf_wb, hz_wb⟩ := kept hbb; (try simp only [World.size_drew] at hc_wb hf_wb hz_wb); (try have hzw0_wb : w.heap.size < wb.heap.size := (by have := hz_wb; first | omega | (simp at this; omega))); (try have hyw0_wb := Nat.le_of_lt hzw0_wb); (try have hzw1_wb : w.heap.size + 1 < wb.heap.size := (by have := hz_wb; first | omega | (simp at this; omega))); (try have hyw1_wb := Nat.le_of_lt hzw1_wb); (try have hzw2_wb : w.heap.size + 1 + 1 < wb.heap.size := (by have := hz_wb; first | omega | (simp at this; omega))); (try have hyw2_wb := Nat.le_of_lt hzw2_wb); (try have hzwa0_wb : wa.heap.size < wb.heap.size := (by have := hz_wb; first | omega | (simp at this; omega))); (try have hywa0_wb := Nat.le_of_lt hzwa0_wb)
    have hzb := hbb.size
    simp only [World.size_alloc] at hzb
    go_wp2_with fail
    with_reducible refine (wcmp_c _ _ _ _ _).mono ?_
    rintro e w4 ⟨rfl, hb4⟩
    obtain ⟨hc_w4, hf_w4, hz_w4⟩ := kept hb4; (try simp only [World.size_drew] at hc_w4 hf_w4 hz_w4); (try have hzw0_w4 : w.heap.size < w4.heap.size := (by have := hz_w4; first | omega | (simp at this; omega))); (try have hyw0_w4 := Nat.le_of_lt hzw0_w4); (try have hzw1_w4 : w.heap.size + 1 < w4.heap.size := (by have := hz_w4; first | omega | (simp at this; omega))); (try have hyw1_w4 := Nat.le_of_lt hzw1_w4); (try have hzw2_w4 : w.heap.size + 1 + 1 < w4.heap.size := (by have := hz_w4; first | omega | (simp at this; omega))); (try have hyw2_w4 := Nat.le_of_lt hzw2_w4); (try have hzwa0_w4 : wa.heap.size < w4.heap.size := (by have := hz_w4; first | omega | (simp at this; omega))); (try have hywa0_w4 := Nat.le_of_lt hzwa0_w4); (try have hzwb0_w4 : wb.heap.size < w4.heap.size := (by have := hz_w4; first | omega | (simp at this; omega))); (try have hywb0_w4 := Nat.le_of_lt hzwb0_w4)
    have hz4 := hb4.size
    simp only [World.size_alloc] at hz4
    go_wp2_with fail
    all_goals
      first
        | (exfalso; omega)
        | (go_ret; exact ⟨by first | rfl | (simp; done) | (simp; omega), by (repeat' (first | (with_reducible exact Below.refl _ _) | (with_reducible assumption) | (with_reducible refine Below.alloc ?_ ?_ _) | (with_reducible refine Below.drew ?_) | (with_reducible refine Below_drewN ?_ _) | (with_reducible refine Below.setCell ?_ ?_ _) | (refine Below.step (B' := ?_) (b := ?_) ?_ ?_ ?_; rotate_left 2; (with_reducible assumption)) | go_size))⟩)
  · have q6 := q3 o1 o2
    clear q3
    go_enter Try.func12, Try.ntmps12
    go_wp2_with fail
    with_reducible refine (awake2 _).mono ?_
    rintro e w1 ⟨rfl, hb1⟩
    obtain ⟨hc_w1, hf_w1, hz_w1⟩ := kept hb1; (try simp only [World.size_drew] at hc_w1 hf_w1 hz_w1); (try have hzw0_w1 : w.heap.size < w1.heap.size := (by have := hz_w1; first | omega | (simp at this; omega))); (try have hyw0_w1 := Nat.le_of_lt hzw0_w1); (try have hzw1_w1 : w.heap.size + 1 < w1.heap.size := (by have := hz_w1; first | omega | (simp at this; omega))); (try have hyw1_w1 := Nat.le_of_lt hzw1_w1); (try have hzw2_w1 : w.heap.size + 1 + 1 < w1.heap.size := (by have := hz_w1; first | omega | (simp at this; omega))); (try have hyw2_w1 := Nat.le_of_lt hzw2_w1)
    have hz1 := hb1.size
    simp only [World.size_alloc] at hz1
    go_wp2_with fail
    with_reducible refine (wcmp_c _ _ _ _ _).mono ?_
    rintro e w2 ⟨rfl, hb2⟩
    obtain ⟨hc_w2, hf_w2, hz_w2⟩ := kept hb2; (try simp only [World.size_drew] at hc_w2 hf_w2 hz_w2); (try have hzw0_w2 : w.heap.size < w2.heap.size := (by have := hz_w2; first | omega | (simp at this; omega))); (try have hyw0_w2 := Nat.le_of_lt hzw0_w2); (try have hzw1_w2 : w.heap.size + 1 < w2.heap.size := (by have := hz_w2; first | omega | (simp at this; omega))); (try have hyw1_w2 := Nat.le_of_lt hzw1_w2); (try have hzw2_w2 : w.heap.size + 1 + 1 < w2.heap.size := (by have := hz_w2; first | omega | (simp at this; omega))); (try have hyw2_w2 := Nat.le_of_lt hzw2_w2)
    have hz2 := hb2.size
    go_wp2_with fail
    with_reducible refine (wcmp_c _ _ _ _ _).mono ?_
    rintro e w3 ⟨rfl, hb3⟩
    obtain ⟨hc_w3, hf_w3, hz_w3⟩ := kept hb3; (try simp only [World.size_drew] at hc_w3 hf_w3 hz_w3); (try have hzw0_w3 : w.heap.size < w3.heap.size := (by have := hz_w3; first | omega | (simp at this; omega))); (try have hyw0_w3 := Nat.le_of_lt hzw0_w3); (try have hzw1_w3 : w.heap.size + 1 < w3.heap.size := (by have := hz_w3; first | omega | (simp at this; omega))); (try have hyw1_w3 := Nat.le_of_lt hzw1_w3); (try have hzw2_w3 : w.heap.size + 1 + 1 < w3.heap.size := (by have := hz_w3; first | omega | (simp at this; omega))); (try have hyw2_w3 := Nat.le_of_lt hzw2_w3)
    have hz3 := hb3.size
    go_wp2_with fail
    refine (wadd_c _ _ _ _ (by omega) (by omega) (by omega) (by omega) (by omega) (by omega) (by omega) (by omega) _).mono ?_
    rintro e wa ⟨rfl, hba⟩
    obtain ⟨hc_wa, hf_wa, hz_wa⟩ := kept hba; (try simp only [World.size_drew] at hc_wa hf_wa hz_wa); (try have hzw0_wa : w.heap.size < wa.heap.size := (by have := hz_wa; first | omega | (simp at this; omega))); (try have hyw0_wa := Nat.le_of_lt hzw0_wa); (try have hzw1_wa : w.heap.size + 1 < wa.heap.size := (by have := hz_wa; first | omega | (simp at this; omega))); (try have hyw1_wa := Nat.le_of_lt hzw1_wa); (try have hzw2_wa : w.heap.size + 1 + 1 < wa.heap.size := (by have := hz_wa; first | omega | (simp at this; omega))); (try have hyw2_wa := Nat.le_of_lt hzw2_wa)
    have hza := hba.size
    go_wp2_with fail
    refine (wadd_c _ _ _ _ (by omega) (by omega) (by omega) (by omega) (by omega) (by omega) (by omega) (by omega) _).mono ?_
    rintro e wb ⟨rfl, hbb⟩
    obtain ⟨hc_wb, hf_wb, hz_wb⟩ := kept hbb; (try simp only [World.size_drew] at hc_wb hf_wb hz_wb); (try have hzw0_wb : w.heap.size < wb.heap.size := (by have := hz_wb; first | omega | (simp at this; omega))); (try have hyw0_wb := Nat.le_of_lt hzw0_wb); (try have hzw1_wb : w.heap.size + 1 < wb.heap.size := (by have := hz_wb; first | omega | (simp at this; omega))); (try have hyw1_wb := Nat.le_of_lt hzw1_wb); (try have hzw2_wb : w.heap.size + 1 + 1 < wb.heap.size := (by have := hz_wb; first | omega | (simp at this; omega))); (try have hyw2_wb := Nat.le_of_lt hzw2_wb); (try have hzwa0_wb : wa.heap.size < wb.heap.size := (by have := hz_wb; first | omega | (simp at this; omega))); (try have hywa0_wb := Nat.le_of_lt hzwa0_wb)
    have hzb := hbb.size
    simp only [World.size_alloc] at hzb
    go_wp2_with fail
    with_reducible refine (wcmp_c _ _ _ _ _).mono ?_
    rintro e w4 ⟨rfl, hb4⟩
    obtain ⟨hc_w4, hf_w4, hz_w4⟩ := kept hb4; (try simp only [World.size_drew] at hc_w4 hf_w4 hz_w4); (try have hzw0_w4 : w.heap.size < w4.heap.size := (by have := hz_w4; first | omega | (simp at this; omega))); (try have hyw0_w4 := Nat.le_of_lt hzw0_w4); (try have hzw1_w4 : w.heap.size + 1 < w4.heap.size := (by have := hz_w4; first | omega | (simp at this; omega))); (try have hyw1_w4 := Nat.le_of_lt hzw1_w4); (try have hzw2_w4 : w.heap.size + 1 + 1 < w4.heap.size := (by have := hz_w4; first | omega | (simp at this; omega))); (try have hyw2_w4 := Nat.le_of_lt hzw2_w4); (try have hzwa0_w4 : wa.heap.size < w4.heap.size := (by have := hz_w4; first | omega | (simp at this; omega))); (try have hywa0_w4 := Nat.le_of_lt hzwa0_w4); (try have hzwb0_w4 : wb.heap.size < w4.heap.size := (by have := hz_w4; first | omega | (simp at this; omega))); (try have hywb0_w4 := Nat.le_of_lt hzwb0_w4)
    have hz4 := hb4.size
    simp only [World.size_alloc] at hz4
    go_wp2_with fail
    with_reducible refine (wcmp_c _ _ _ _ _).mono ?_
    rintro e w5 ⟨rfl, hb5⟩
    obtain ⟨hc_w5, hf_w5, hz_w5⟩ := kept hb5; (try simp only [World.size_drew] at hc_w5 hf_w5 hz_w5); (try have hzw0_w5 : w.heap.size < w5.heap.size := (by have := hz_w5; first | omega | (simp at this; omega))); (try have hyw0_w5 := Nat.le_of_lt hzw0_w5); (try have hzw1_w5 : w.heap.size + 1 < w5.heap.size := (by have := hz_w5; first | omega | (simp at this; omega))); (try have hyw1_w5 := Nat.le_of_lt hzw1_w5); (try have hzw2_w5 : w.heap.size + 1 + 1 < w5.heap.size := (by have := hz_w5; first | omega | (simp at this; omega))); (try have hyw2_w5 := Nat.le_of_lt hzw2_w5); (try have hzwa0_w5 : wa.heap.size < w5.heap.size := (by have := hz_w5; first | omega | (simp at this; omega))); (try have hywa0_w5 := Nat.le_of_lt hzwa0_w5); (try have hzwb0_w5 : wb.heap.size < w5.heap.size := (by have := hz_w5; first | omega | (simp at this; omega))); (try have hywb0_w5 := Nat.le_of_lt hzwb0_w5)
    have hz5 := hb5.size
    go_wp2_with fail
    all_goals
      first
        | (exfalso; omega)
        | (go_ret; exact ⟨by first | rfl | (simp; done) | (simp; omega), by (repeat' (first | (with_reducible exact Below.refl _ _) | (with_reducible assumption) | (with_reducible refine Below.alloc ?_ ?_ _) | (with_reducible refine Below.drew ?_) | (with_reducible refine Below_drewN ?_ _) | (with_reducible refine Below.setCell ?_ ?_ _) | (refine Below.step (B' := ?_) (b := ?_) ?_ ?_ ?_; rotate_left 2; (with_reducible assumption)) | go_size))⟩)

set_option maxRecDepth 100000 in
set_option maxHeartbeats 4000000 in
theorem wo_ltb (xh xl yl zh zl : Int) (h1 : 0 ≤ xh) (g1 : xh < 18446744073709551616) (h2 : 0 ≤ xl) (g2 : xl < 18446744073709551616) (h4 : 0 ≤ yl) (g4 : yl < 18446744073709551616) (h5 : 0 ≤ zh) (g5 : zh < 18446744073709551616) (h6 : 0 ≤ zl) (g6 : zl < 18446744073709551616) (hc : xh * 18446744073709551616 + xl < xh * 18446744073709551616 + yl) (he : (xl == yl) = false) (w : World) :
  Calls Try.prog 12 #[.agg #[.int .u64 xh, .int .u64 xl], .agg #[.int .u64 xh, .int .u64 yl], .agg #[.int .u64 zh, .int .u64 zl]] w fun e w' => e = .returned (.bool true) ∧ Below w.heap.size w w' := by
  have q1 : cmpW xh xl xh yl = -1 := by rw [cmpW_cw _ _ _ _ h2 g2 h4 g4]; exact cw_lt hc
  have q2 : cmpW xh yl xh xl = 1 := by rw [cmpW_cw _ _ _ _ h4 g4 h2 g2]; exact cw_gt hc
  have q3 : aOv xh xl zh zl = false → aOv xh yl zh zl = false → cmpW (aHi xh xl zh zl) (aLo xl zl) (aHi xh yl zh zl) (aLo yl zl) = -1 := fun o1 o2 => by
    obtain ⟨s1, s2, s3⟩ := sum_in xh xl zh zl h2 g2 h6 g6 h1 h5 o1
    obtain ⟨t1, t2, t3⟩ := sum_in xh yl zh zl h4 g4 h6 g6 h1 h5 o2
    rw [cmpW_cw _ _ _ _ s2 s3 t2 t3]; exact cw_lt (by omega)
  rcases (by cases aOv xh xl zh zl <;> cases aOv xh yl zh zl <;> simp : aOv xh xl zh zl = true ∨ aOv xh xl zh zl = false ∧ aOv xh yl zh zl = true ∨ aOv xh xl zh zl = false ∧ aOv xh yl zh zl = false) with o1 | ⟨o1, o2⟩ | ⟨o1, o2⟩
  · clear q3
    go_enter Try.func12, Try.ntmps12
    go_wp2_with fail
    with_reducible refine (awake2 _).mono ?_
    rintro e w1 ⟨rfl, hb1⟩
    obtain ⟨hc_w1, hf_w1, hz_w1⟩ := kept hb1; (try simp only [World.size_drew] at hc_w1 hf_w1 hz_w1); (try have hzw0_w1 : w.heap.size < w1.heap.size := (by have := hz_w1; first | omega | (simp at this; omega))); (try have hyw0_w1 := Nat.le_of_lt hzw0_w1); (try have hzw1_w1 : w.heap.size + 1 < w1.heap.size := (by have := hz_w1; first | omega | (simp at this; omega))); (try have hyw1_w1 := Nat.le_of_lt hzw1_w1); (try have hzw2_w1 : w.heap.size + 1 + 1 < w1.heap.size := (by have := hz_w1; first | omega | (simp at this; omega))); (try have hyw2_w1 := Nat.le_of_lt hzw2_w1)
    have hz1 := hb1.size
    simp only [World.size_alloc] at hz1
    go_wp2_with fail
    with_reducible refine (wcmp_c _ _ _ _ _).mono ?_
    rintro e w2 ⟨rfl, hb2⟩
    obtain ⟨hc_w2, hf_w2, hz_w2⟩ := kept hb2; (try simp only [World.size_drew] at hc_w2 hf_w2 hz_w2); (try have hzw0_w2 : w.heap.size < w2.heap.size := (by have := hz_w2; first | omega | (simp at this; omega))); (try have hyw0_w2 := Nat.le_of_lt hzw0_w2); (try have hzw1_w2 : w.heap.size + 1 < w2.heap.size := (by have := hz_w2; first | omega | (simp at this; omega))); (try have hyw1_w2 := Nat.le_of_lt hzw1_w2); (try have hzw2_w2 : w.heap.size + 1 + 1 < w2.heap.size := (by have := hz_w2; first | omega | (simp at this; omega))); (try have hyw2_w2 := Nat.le_of_lt hzw2_w2)
    have hz2 := hb2.size
    go_wp2_with fail
    with_reducible refine (wcmp_c _ _ _ _ _).mono ?_
    rintro e w3 ⟨rfl, hb3⟩
    obtain ⟨hc_w3, hf_w3, hz_w3⟩ := kept hb3; (try simp only [World.size_drew] at hc_w3 hf_w3 hz_w3); (try have hzw0_w3 : w.heap.size < w3.heap.size := (by have := hz_w3; first | omega | (simp at this; omega))); (try have hyw0_w3 := Nat.le_of_lt hzw0_w3); (try have hzw1_w3 : w.heap.size + 1 < w3.heap.size := (by have := hz_w3; first | omega | (simp at this; omega))); (try have hyw1_w3 := Nat.le_of_lt hzw1_w3); (try have hzw2_w3 : w.heap.size + 1 + 1 < w3.heap.size := (by have := hz_w3; first | omega | (simp at this; omega))); (try have hyw2_w3 := Nat.le_of_lt hzw2_w3)
    have hz3 := hb3.size
    go_wp2_with fail
    refine (wadd_c _ _ _ _ (by omega) (by omega) (by omega) (by omega) (by omega) (by omega) (by omega) (by omega) _).mono ?_
    rintro e wa ⟨rfl, hba⟩
    obtain ⟨hc_wa, hf_wa, hz_wa⟩ := kept hba; (try simp only [World.size_drew] at hc_wa hf_wa hz_wa); (try have hzw0_wa : w.heap.size < wa.heap.size := (by have := hz_wa; first | omega | (simp at this; omega))); (try have hyw0_wa := Nat.le_of_lt hzw0_wa); (try have hzw1_wa : w.heap.size + 1 < wa.heap.size := (by have := hz_wa; first | omega | (simp at this; omega))); (try have hyw1_wa := Nat.le_of_lt hzw1_wa); (try have hzw2_wa : w.heap.size + 1 + 1 < wa.heap.size := (by have := hz_wa; first | omega | (simp at this; omega))); (try have hyw2_wa := Nat.le_of_lt hzw2_wa)
    have hza := hba.size
    go_wp2_with fail
    refine (wadd_c _ _ _ _ (by omega) (by omega) (by omega) (by omega) (by omega) (by omega) (by omega) (by omega) _).mono ?_
    rintro e wb ⟨rfl, hbb⟩
    obtain ⟨hc_wb, hf_wb, hz_wb⟩ := kept hbb; (try simp only [World.size_drew] at hc_wb hf_wb hz_wb); (try have hzw0_wb : w.heap.size < wb.heap.size := (by have := hz_wb; first | omega | (simp at this; omega))); (try have hyw0_wb := Nat.le_of_lt hzw0_wb); (try have hzw1_wb : w.heap.size + 1 < wb.heap.size := (by have := hz_wb; first | omega | (simp at this; omega))); (try have hyw1_wb := Nat.le_of_lt hzw1_wb); (try have hzw2_wb : w.heap.size + 1 + 1 < wb.heap.size := (by have := hz_wb; first | omega | (simp at this; omega))); (try have hyw2_wb := Nat.le_of_lt hzw2_wb); (try have hzwa0_wb : wa.heap.size < wb.heap.size := (by have := hz_wb; first | omega | (simp at this; omega))); (try have hywa0_wb := Nat.le_of_lt hzwa0_wb)
    have hzb := hbb.size
    simp only [World.size_alloc] at hzb
    go_wp2_with fail
    with_reducible refine (wcmp_c _ _ _ _ _).mono ?_
    rintro e w4 ⟨rfl, hb4⟩
    obtain ⟨hc_w4, hf_w4, hz_w4⟩ := kept hb4; (try simp only [World.size_drew] at hc_w4 hf_w4 hz_w4); (try have hzw0_w4 : w.heap.size < w4.heap.size := (by have := hz_w4; first | omega | (simp at this; omega))); (try have hyw0_w4 := Nat.le_of_lt hzw0_w4); (try have hzw1_w4 : w.heap.size + 1 < w4.heap.size := (by have := hz_w4; first | omega | (simp at this; omega))); (try have hyw1_w4 := Nat.le_of_lt hzw1_w4); (try have hzw2_w4 : w.heap.size + 1 + 1 < w4.heap.size := (by have := hz_w4; first | omega | (simp at this; omega))); (try have hyw2_w4 := Nat.le_of_lt hzw2_w4); (try have hzwa0_w4 : wa.heap.size < w4.heap.size := (by have := hz_w4; first | omega | (simp at this; omega))); (try have hywa0_w4 := Nat.le_of_lt hzwa0_w4); (try have hzwb0_w4 : wb.heap.size < w4.heap.size := (by have := hz_w4; first | omega | (simp at this; omega))); (try have hywb0_w4 := Nat.le_of_lt hzwb0_w4)
    have hz4 := hb4.size
    simp only [World.size_alloc] at hz4
    go_wp2_with fail
    all_goals
      first
        | (exfalso; omega)
        | (go_ret; exact ⟨by first | rfl | (simp; done) | (simp; omega), by (repeat' (first | (with_reducible exact Below.refl _ _) | (with_reducible assumption) | (with_reducible refine Below.alloc ?_ ?_ _) | (with_reducible refine Below.drew ?_) | (with_reducible refine Below_drewN ?_ _) | (with_reducible refine Below.setCell ?_ ?_ _) | (refine Below.step (B' := ?_) (b := ?_) ?_ ?_ ?_; rotate_left 2; (with_reducible assumption)) | go_size))⟩)
  · clear q3
    go_enter Try.func12, Try.ntmps12
    go_wp2_with fail
    with_reducible refine (awake2 _).mono ?_
    rintro e w1 ⟨rfl, hb1⟩
    obtain ⟨hc_w1, hf_w1, hz_w1⟩ := kept hb1; (try simp only [World.size_drew] at hc_w1 hf_w1 hz_w1); (try have hzw0_w1 : w.heap.size < w1.heap.size := (by have := hz_w1; first | omega | (simp at this; omega))); (try have hyw0_w1 := Nat.le_of_lt hzw0_w1); (try have hzw1_w1 : w.heap.size + 1 < w1.heap.size := (by have := hz_w1; first | omega | (simp at this; omega))); (try have hyw1_w1 := Nat.le_of_lt hzw1_w1); (try have hzw2_w1 : w.heap.size + 1 + 1 < w1.heap.size := (by have := hz_w1; first | omega | (simp at this; omega))); (try have hyw2_w1 := Nat.le_of_lt hzw2_w1)
    have hz1 := hb1.size
    simp only [World.size_alloc] at hz1
    go_wp2_with fail
    with_reducible refine (wcmp_c _ _ _ _ _).mono ?_
    rintro e w2 ⟨rfl, hb2⟩
    obtain ⟨hc_w2, hf_w2, hz_w2⟩ := kept hb2; (try simp only [World.size_drew] at hc_w2 hf_w2 hz_w2); (try have hzw0_w2 : w.heap.size < w2.heap.size := (by have := hz_w2; first | omega | (simp at this; omega))); (try have hyw0_w2 := Nat.le_of_lt hzw0_w2); (try have hzw1_w2 : w.heap.size + 1 < w2.heap.size := (by have := hz_w2; first | omega | (simp at this; omega))); (try have hyw1_w2 := Nat.le_of_lt hzw1_w2); (try have hzw2_w2 : w.heap.size + 1 + 1 < w2.heap.size := (by have := hz_w2; first | omega | (simp at this; omega))); (try have hyw2_w2 := Nat.le_of_lt hzw2_w2)
    have hz2 := hb2.size
    go_wp2_with fail
    with_reducible refine (wcmp_c _ _ _ _ _).mono ?_
    rintro e w3 ⟨rfl, hb3⟩
    obtain ⟨hc_w3, hf_w3, hz_w3⟩ := kept hb3; (try simp only [World.size_drew] at hc_w3 hf_w3 hz_w3); (try have hzw0_w3 : w.heap.size < w3.heap.size := (by have := hz_w3; first | omega | (simp at this; omega))); (try have hyw0_w3 := Nat.le_of_lt hzw0_w3); (try have hzw1_w3 : w.heap.size + 1 < w3.heap.size := (by have := hz_w3; first | omega | (simp at this; omega))); (try have hyw1_w3 := Nat.le_of_lt hzw1_w3); (try have hzw2_w3 : w.heap.size + 1 + 1 < w3.heap.size := (by have := hz_w3; first | omega | (simp at this; omega))); (try have hyw2_w3 := Nat.le_of_lt hzw2_w3)
    have hz3 := hb3.size
    go_wp2_with fail
    refine (wadd_c _ _ _ _ (by omega) (by omega) (by omega) (by omega) (by omega) (by omega) (by omega) (by omega) _).mono ?_
    rintro e wa ⟨rfl, hba⟩
    obtain ⟨hc_wa, hf_wa, hz_wa⟩ := kept hba; (try simp only [World.size_drew] at hc_wa hf_wa hz_wa); (try have hzw0_wa : w.heap.size < wa.heap.size := (by have := hz_wa; first | omega | (simp at this; omega))); (try have hyw0_wa := Nat.le_of_lt hzw0_wa); (try have hzw1_wa : w.heap.size + 1 < wa.heap.size := (by have := hz_wa; first | omega | (simp at this; omega))); (try have hyw1_wa := Nat.le_of_lt hzw1_wa); (try have hzw2_wa : w.heap.size + 1 + 1 < wa.heap.size := (by have := hz_wa; first | omega | (simp at this; omega))); (try have hyw2_wa := Nat.le_of_lt hzw2_wa)
    have hza := hba.size
    go_wp2_with fail
    refine (wadd_c _ _ _ _ (by omega) (by omega) (by omega) (by omega) (by omega) (by omega) (by omega) (by omega) _).mono ?_
    rintro e wb ⟨rfl, hbb⟩
    obtain ⟨hc_wb, hf_wb, hz_wb⟩ := kept hbb; (try simp only [World.size_drew] at hc_wb hf_wb hz_wb); (try have hzw0_wb : w.heap.size < wb.heap.size := (by have := hz_wb; first | omega | (simp at this; omega))); (try have hyw0_wb := Nat.le_of_lt hzw0_wb); (try have hzw1_wb : w.heap.size + 1 < wb.heap.size := (by have := hz_wb; first | omega | (simp at this; omega))); (try have hyw1_wb := Nat.le_of_lt hzw1_wb); (try have hzw2_wb : w.heap.size + 1 + 1 < wb.heap.size := (by have := hz_wb; first | omega | (simp at this; omega))); (try have hyw2_wb := Nat.le_of_lt hzw2_wb); (try have hzwa0_wb : wa.heap.size < wb.heap.size := (by have := hz_wb; first | omega | (simp at this; omega))); (try have hywa0_wb := Nat.le_of_lt hzwa0_wb)
    have hzb := hbb.size
    simp only [World.size_alloc] at hzb
    go_wp2_with fail
    with_reducible refine (wcmp_c _ _ _ _ _).mono ?_
    rintro e w4 ⟨rfl, hb4⟩
    obtain ⟨hc_w4, hf_w4, hz_w4⟩ := kept hb4; (try simp only [World.size_drew] at hc_w4 hf_w4 hz_w4); (try have hzw0_w4 : w.heap.size < w4.heap.size := (by have := hz_w4; first | omega | (simp at this; omega))); (try have hyw0_w4 := Nat.le_of_lt hzw0_w4); (try have hzw1_w4 : w.heap.size + 1 < w4.heap.size := (by have := hz_w4; first | omega | (simp at this; omega))); (try have hyw1_w4 := Nat.le_of_lt hzw1_w4); (try have hzw2_w4 : w.heap.size + 1 + 1 < w4.heap.size := (by have := hz_w4; first | omega | (simp at this; omega))); (try have hyw2_w4 := Nat.le_of_lt hzw2_w4); (try have hzwa0_w4 : wa.heap.size < w4.heap.size := (by have := hz_w4; first | omega | (simp at this; omega))); (try have hywa0_w4 := Nat.le_of_lt hzwa0_w4); (try have hzwb0_w4 : wb.heap.size < w4.heap.size := (by have := hz_w4; first | omega | (simp at this; omega))); (try have hywb0_w4 := Nat.le_of_lt hzwb0_w4)
    have hz4 := hb4.size
    simp only [World.size_alloc] at hz4
    go_wp2_with fail
    all_goals
      first
        | (exfalso; omega)
        | (go_ret; exact ⟨by first | rfl | (simp; done) | (simp; omega), by (repeat' (first | (with_reducible exact Below.refl _ _) | (with_reducible assumption) | (with_reducible refine Below.alloc ?_ ?_ _) | (with_reducible refine Below.drew ?_) | (with_reducible refine Below_drewN ?_ _) | (with_reducible refine Below.setCell ?_ ?_ _) | (refine Below.step (B' := ?_) (b := ?_) ?_ ?_ ?_; rotate_left 2; (with_reducible assumption)) | go_size))⟩)
  · have q6 := q3 o1 o2
    clear q3
    go_enter Try.func12, Try.ntmps12
    go_wp2_with fail
    with_reducible refine (awake2 _).mono ?_
    rintro e w1 ⟨rfl, hb1⟩
    obtain ⟨hc_w1, hf_w1, hz_w1⟩ := kept hb1; (try simp only [World.size_drew] at hc_w1 hf_w1 hz_w1); (try have hzw0_w1 : w.heap.size < w1.heap.size := (by have := hz_w1; first | omega | (simp at this; omega))); (try have hyw0_w1 := Nat.le_of_lt hzw0_w1); (try have hzw1_w1 : w.heap.size + 1 < w1.heap.size := (by have := hz_w1; first | omega | (simp at this; omega))); (try have hyw1_w1 := Nat.le_of_lt hzw1_w1); (try have hzw2_w1 : w.heap.size + 1 + 1 < w1.heap.size := (by have := hz_w1; first | omega | (simp at this; omega))); (try have hyw2_w1 := Nat.le_of_lt hzw2_w1)
    have hz1 := hb1.size
    simp only [World.size_alloc] at hz1
    go_wp2_with fail
    with_reducible refine (wcmp_c _ _ _ _ _).mono ?_
    rintro e w2 ⟨rfl, hb2⟩
    obtain ⟨hc_w2, hf_w2, hz_w2⟩ := kept hb2; (try simp only [World.size_drew] at hc_w2 hf_w2 hz_w2); (try have hzw0_w2 : w.heap.size < w2.heap.size := (by have := hz_w2; first | omega | (simp at this; omega))); (try have hyw0_w2 := Nat.le_of_lt hzw0_w2); (try have hzw1_w2 : w.heap.size + 1 < w2.heap.size := (by have := hz_w2; first | omega | (simp at this; omega))); (try have hyw1_w2 := Nat.le_of_lt hzw1_w2); (try have hzw2_w2 : w.heap.size + 1 + 1 < w2.heap.size := (by have := hz_w2; first | omega | (simp at this; omega))); (try have hyw2_w2 := Nat.le_of_lt hzw2_w2)
    have hz2 := hb2.size
    go_wp2_with fail
    with_reducible refine (wcmp_c _ _ _ _ _).mono ?_
    rintro e w3 ⟨rfl, hb3⟩
    obtain ⟨hc_w3, hf_w3, hz_w3⟩ := kept hb3; (try simp only [World.size_drew] at hc_w3 hf_w3 hz_w3); (try have hzw0_w3 : w.heap.size < w3.heap.size := (by have := hz_w3; first | omega | (simp at this; omega))); (try have hyw0_w3 := Nat.le_of_lt hzw0_w3); (try have hzw1_w3 : w.heap.size + 1 < w3.heap.size := (by have := hz_w3; first | omega | (simp at this; omega))); (try have hyw1_w3 := Nat.le_of_lt hzw1_w3); (try have hzw2_w3 : w.heap.size + 1 + 1 < w3.heap.size := (by have := hz_w3; first | omega | (simp at this; omega))); (try have hyw2_w3 := Nat.le_of_lt hzw2_w3)
    have hz3 := hb3.size
    go_wp2_with fail
    refine (wadd_c _ _ _ _ (by omega) (by omega) (by omega) (by omega) (by omega) (by omega) (by omega) (by omega) _).mono ?_
    rintro e wa ⟨rfl, hba⟩
    obtain ⟨hc_wa, hf_wa, hz_wa⟩ := kept hba; (try simp only [World.size_drew] at hc_wa hf_wa hz_wa); (try have hzw0_wa : w.heap.size < wa.heap.size := (by have := hz_wa; first | omega | (simp at this; omega))); (try have hyw0_wa := Nat.le_of_lt hzw0_wa); (try have hzw1_wa : w.heap.size + 1 < wa.heap.size := (by have := hz_wa; first | omega | (simp at this; omega))); (try have hyw1_wa := Nat.le_of_lt hzw1_wa); (try have hzw2_wa : w.heap.size + 1 + 1 < wa.heap.size := (by have := hz_wa; first | omega | (simp at this; omega))); (try have hyw2_wa := Nat.le_of_lt hzw2_wa)
    have hza := hba.size
    go_wp2_with fail
    refine (wadd_c _ _ _ _ (by omega) (by omega) (by omega) (by omega) (by omega) (by omega) (by omega) (by omega) _).mono ?_
    rintro e wb ⟨rfl, hbb⟩
    obtain ⟨hc_wb, hf_wb, hz_wb⟩ := kept hbb; (try simp only [World.size_drew] at hc_wb hf_wb hz_wb); (try have hzw0_wb : w.heap.size < wb.heap.size := (by have := hz_wb; first | omega | (simp at this; omega))); (try have hyw0_wb := Nat.le_of_lt hzw0_wb); (try have hzw1_wb : w.heap.size + 1 < wb.heap.size := (by have := hz_wb; first | omega | (simp at this; omega))); (try have hyw1_wb := Nat.le_of_lt hzw1_wb); (try have hzw2_wb : w.heap.size + 1 + 1 < wb.heap.size := (by have := hz_wb; first | omega | (simp at this; omega))); (try have hyw2_wb := Nat.le_of_lt hzw2_wb); (try have hzwa0_wb : wa.heap.size < wb.heap.size := (by have := hz_wb; first | omega | (simp at this; omega))); (try have hywa0_wb := Nat.le_of_lt hzwa0_wb)
    have hzb := hbb.size
    simp only [World.size_alloc] at hzb
    go_wp2_with fail
    with_reducible refine (wcmp_c _ _ _ _ _).mono ?_
    rintro e w4 ⟨rfl, hb4⟩
    obtain ⟨hc_w4, hf_w4, hz_w4⟩ := kept hb4; (try simp only [World.size_drew] at hc_w4 hf_w4 hz_w4); (try have hzw0_w4 : w.heap.size < w4.heap.size := (by have := hz_w4; first | omega | (simp at this; omega))); (try have hyw0_w4 := Nat.le_of_lt hzw0_w4); (try have hzw1_w4 : w.heap.size + 1 < w4.heap.size := (by have := hz_w4; first | omega | (simp at this; omega))); (try have hyw1_w4 := Nat.le_of_lt hzw1_w4); (try have hzw2_w4 : w.heap.size + 1 + 1 < w4.heap.size := (by have := hz_w4; first | omega | (simp at this; omega))); (try have hyw2_w4 := Nat.le_of_lt hzw2_w4); (try have hzwa0_w4 : wa.heap.size < w4.heap.size := (by have := hz_w4; first | omega | (simp at this; omega))); (try have hywa0_w4 := Nat.le_of_lt hzwa0_w4); (try have hzwb0_w4 : wb.heap.size < w4.heap.size := (by have := hz_w4; first | omega | (simp at this; omega))); (try have hywb0_w4 := Nat.le_of_lt hzwb0_w4)
    have hz4 := hb4.size
    simp only [World.size_alloc] at hz4
    go_wp2_with fail
    with_reducible refine (wcmp_c _ _ _ _ _).mono ?_
    rintro e w5 ⟨rfl, hb5⟩
    obtain ⟨hc_w5, hf_w5, hz_w5⟩ := kept hb5; (try simp only [World.size_drew] at hc_w5 hf_w5 hz_w5); (try have hzw0_w5 : w.heap.size < w5.heap.size := (by have := hz_w5; first | omega | (simp at this; omega))); (try have hyw0_w5 := Nat.le_of_lt hzw0_w5); (try have hzw1_w5 : w.heap.size + 1 < w5.heap.size := (by have := hz_w5; first | omega | (simp at this; omega))); (try have hyw1_w5 := Nat.le_of_lt hzw1_w5); (try have hzw2_w5 : w.heap.size + 1 + 1 < w5.heap.size := (by have := hz_w5; first | omega | (simp at this; omega))); (try have hyw2_w5 := Nat.le_of_lt hzw2_w5); (try have hzwa0_w5 : wa.heap.size < w5.heap.size := (by have := hz_w5; first | omega | (simp at this; omega))); (try have hywa0_w5 := Nat.le_of_lt hzwa0_w5); (try have hzwb0_w5 : wb.heap.size < w5.heap.size := (by have := hz_w5; first | omega | (simp at this; omega))); (try have hywb0_w5 := Nat.le_of_lt hzwb0_w5)
    have hz5 := hb5.size
    go_wp2_with fail
    all_goals
      first
        | (exfalso; omega)
        | (go_ret; exact ⟨by first | rfl | (simp; done) | (simp; omega), by (repeat' (first | (with_reducible exact Below.refl _ _) | (with_reducible assumption) | (with_reducible refine Below.alloc ?_ ?_ _) | (with_reducible refine Below.drew ?_) | (with_reducible refine Below_drewN ?_ _) | (with_reducible refine Below.setCell ?_ ?_ _) | (refine Below.step (B' := ?_) (b := ?_) ?_ ?_ ?_; rotate_left 2; (with_reducible assumption)) | go_size))⟩)

set_option maxRecDepth 100000 in
set_option maxHeartbeats 4000000 in
theorem wo_gt1a (xh xl yh yl zh zl : Int) (h1 : 0 ≤ xh) (g1 : xh < 18446744073709551616) (h2 : 0 ≤ xl) (g2 : xl < 18446744073709551616) (h3 : 0 ≤ yh) (g3 : yh < 18446744073709551616) (h4 : 0 ≤ yl) (g4 : yl < 18446744073709551616) (h5 : 0 ≤ zh) (g5 : zh < 18446744073709551616) (h6 : 0 ≤ zl) (g6 : zl < 18446744073709551616) (hc : yh * 18446744073709551616 + yl < xh * 18446744073709551616 + xl) (hp : yh * 18446744073709551616 + yl ≤ zh * 18446744073709551616 + zl) (he : (xh == yh) = false) (w : World) :
  Calls Try.prog 12 #[.agg #[.int .u64 xh, .int .u64 xl], .agg #[.int .u64 yh, .int .u64 yl], .agg #[.int .u64 zh, .int .u64 zl]] w fun e w' => e = .returned (.bool true) ∧ Below w.heap.size w w' := by
  have q1 : cmpW xh xl yh yl = 1 := by rw [cmpW_cw _ _ _ _ h2 g2 h4 g4]; exact cw_gt hc
  have q2 : cmpW yh yl xh xl = -1 := by rw [cmpW_cw _ _ _ _ h4 g4 h2 g2]; exact cw_lt hc
  have q4 : cmpW yh yl zh zl ≤ 0 := by rw [cmpW_cw _ _ _ _ h4 g4 h6 g6]; exact cw_le hp
  have q5 : decide (cmpW yh yl zh zl ≤ 0) = true := by simpa using q4
  have q3 : aOv xh xl zh zl = false → aOv yh yl zh zl = false → cmpW (aHi xh xl zh zl) (aLo xl zl) (aHi yh yl zh zl) (aLo yl zl) = 1 := fun o1 o2 => by
    obtain ⟨s1, s2, s3⟩ := sum_in xh xl zh zl h2 g2 h6 g6 h1 h5 o1
    obtain ⟨t1, t2, t3⟩ := sum_in yh yl zh zl h4 g4 h6 g6 h3 h5 o2
    rw [cmpW_cw _ _ _ _ s2 s3 t2 t3]; exact cw_gt (by omega)
  rcases (by cases aOv xh xl zh zl <;> cases aOv yh yl zh zl <;> simp : aOv xh xl zh zl = true ∨ aOv xh xl zh zl = false ∧ aOv yh yl zh zl = true ∨ aOv xh xl zh zl = false ∧ aOv yh yl zh zl = false) with o1 | ⟨o1, o2⟩ | ⟨o1, o2⟩
  · clear q3
    go_enter Try.func12, Try.ntmps12
    go_wp2_with fail
    with_reducible refine (awake2 _).mono ?_
    rintro e w1 ⟨rfl, hb1⟩
    obtain ⟨hc_w1, hf_w1, hz_w1⟩ := kept hb1; (try simp only [World.size_drew] at hc_w1 hf_w1 hz_w1); (try have hzw0_w1 : w.heap.size < w1.heap.size := (by have := hz_w1; first | omega | (simp at this; omega))); (try have hyw0_w1 := Nat.le_of_lt hzw0_w1); (try have hzw1_w1 : w.heap.size + 1 < w1.heap.size := (by have := hz_w1; first | omega | (simp at this; omega))); (try have hyw1_w1 := Nat.le_of_lt hzw1_w1); (try have hzw2_w1 : w.heap.size + 1 + 1 < w1.heap.size := (by have := hz_w1; first | omega | (simp at this; omega))); (try have hyw2_w1 := Nat.le_of_lt hzw2_w1)
    have hz1 := hb1.size
    simp only [World.size_alloc] at hz1
    go_wp2_with fail
    with_reducible refine (wcmp_c _ _ _ _ _).mono ?_
    rintro e w2 ⟨rfl, hb2⟩
    obtain ⟨hc_w2, hf_w2, hz_w2⟩ := kept hb2; (try simp only [World.size_drew] at hc_w2 hf_w2 hz_w2); (try have hzw0_w2 : w.heap.size < w2.heap.size := (by have := hz_w2; first | omega | (simp at this; omega))); (try have hyw0_w2 := Nat.le_of_lt hzw0_w2); (try have hzw1_w2 : w.heap.size + 1 < w2.heap.size := (by have := hz_w2; first | omega | (simp at this; omega))); (try have hyw1_w2 := Nat.le_of_lt hzw1_w2); (try have hzw2_w2 : w.heap.size + 1 + 1 < w2.heap.size := (by have := hz_w2; first | omega | (simp at this; omega))); (try have hyw2_w2 := Nat.le_of_lt hzw2_w2)
    have hz2 := hb2.size
    go_wp2_with fail
    with_reducible refine (wcmp_c _ _ _ _ _).mono ?_
    rintro e w3 ⟨rfl, hb3⟩
    obtain ⟨hc_w3, hf_w3, hz_w3⟩ := kept hb3; (try simp only [World.size_drew] at hc_w3 hf_w3 hz_w3); (try have hzw0_w3 : w.heap.size < w3.heap.size := (by have := hz_w3; first | omega | (simp at this; omega))); (try have hyw0_w3 := Nat.le_of_lt hzw0_w3); (try have hzw1_w3 : w.heap.size + 1 < w3.heap.size := (by have := hz_w3; first | omega | (simp at this; omega))); (try have hyw1_w3 := Nat.le_of_lt hzw1_w3); (try have hzw2_w3 : w.heap.size + 1 + 1 < w3.heap.size := (by have := hz_w3; first | omega | (simp at this; omega))); (try have hyw2_w3 := Nat.le_of_lt hzw2_w3)
    have hz3 := hb3.size
    go_wp2_with fail
    with_reducible refine (wcmp_c _ _ _ _ _).mono ?_
    rintro e w4 ⟨rfl, hb4⟩
    obtain ⟨hc_w4, hf_w4, hz_w4⟩ := kept hb4; (try simp only [World.size_drew] at hc_w4 hf_w4 hz_w4); (try have hzw0_w4 : w.heap.size < w4.heap.size := (by have := hz_w4; first | omega | (simp at this; omega))); (try have hyw0_w4 := Nat.le_of_lt hzw0_w4); (try have hzw1_w4 : w.heap.size + 1 < w4.heap.size := (by have := hz_w4; first | omega | (simp at this; omega))); (try have hyw1_w4 := Nat.le_of_lt hzw1_w4); (try have hzw2_w4 : w.heap.size + 1 + 1 < w4.heap.size := (by have := hz_w4; first | omega | (simp at this; omega))); (try have hyw2_w4 := Nat.le_of_lt hzw2_w4)
    have hz4 := hb4.size
    go_wp2_with fail
    refine (wadd_c _ _ _ _ (by omega) (by omega) (by omega) (by omega) (by omega) (by omega) (by omega) (by omega) _).mono ?_
    rintro e wa ⟨rfl, hba⟩
    obtain ⟨hc_wa, hf_wa, hz_wa⟩ := kept hba; (try simp only [World.size_drew] at hc_wa hf_wa hz_wa); (try have hzw0_wa : w.heap.size < wa.heap.size := (by have := hz_wa; first | omega | (simp at this; omega))); (try have hyw0_wa := Nat.le_of_lt hzw0_wa); (try have hzw1_wa : w.heap.size + 1 < wa.heap.size := (by have := hz_wa; first | omega | (simp at this; omega))); (try have hyw1_wa := Nat.le_of_lt hzw1_wa); (try have hzw2_wa : w.heap.size + 1 + 1 < wa.heap.size := (by have := hz_wa; first | omega | (simp at this; omega))); (try have hyw2_wa := Nat.le_of_lt hzw2_wa)
    have hza := hba.size
    go_wp2_with fail
    refine (wadd_c _ _ _ _ (by omega) (by omega) (by omega) (by omega) (by omega) (by omega) (by omega) (by omega) _).mono ?_
    rintro e wb ⟨rfl, hbb⟩
    obtain ⟨hc_wb, hf_wb, hz_wb⟩ := kept hbb; (try simp only [World.size_drew] at hc_wb hf_wb hz_wb); (try have hzw0_wb : w.heap.size < wb.heap.size := (by have := hz_wb; first | omega | (simp at this; omega))); (try have hyw0_wb := Nat.le_of_lt hzw0_wb); (try have hzw1_wb : w.heap.size + 1 < wb.heap.size := (by have := hz_wb; first | omega | (simp at this; omega))); (try have hyw1_wb := Nat.le_of_lt hzw1_wb); (try have hzw2_wb : w.heap.size + 1 + 1 < wb.heap.size := (by have := hz_wb; first | omega | (simp at this; omega))); (try have hyw2_wb := Nat.le_of_lt hzw2_wb); (try have hzwa0_wb : wa.heap.size < wb.heap.size := (by have := hz_wb; first | omega | (simp at this; omega))); (try have hywa0_wb := Nat.le_of_lt hzwa0_wb)
    have hzb := hbb.size
    simp only [World.size_alloc] at hzb
    go_wp2_with fail
    with_reducible refine (wcmp_c _ _ _ _ _).mono ?_
    rintro e w5 ⟨rfl, hb5⟩
    obtain ⟨hc_w5, hf_w5, hz_w5⟩ := kept hb5; (try simp only [World.size_drew] at hc_w5 hf_w5 hz_w5); (try have hzw0_w5 : w.heap.size < w5.heap.size := (by have := hz_w5; first | omega | (simp at this; omega))); (try have hyw0_w5 := Nat.le_of_lt hzw0_w5); (try have hzw1_w5 : w.heap.size + 1 < w5.heap.size := (by have := hz_w5; first | omega | (simp at this; omega))); (try have hyw1_w5 := Nat.le_of_lt hzw1_w5); (try have hzw2_w5 : w.heap.size + 1 + 1 < w5.heap.size := (by have := hz_w5; first | omega | (simp at this; omega))); (try have hyw2_w5 := Nat.le_of_lt hzw2_w5); (try have hzwa0_w5 : wa.heap.size < w5.heap.size := (by have := hz_w5; first | omega | (simp at this; omega))); (try have hywa0_w5 := Nat.le_of_lt hzwa0_w5); (try have hzwb0_w5 : wb.heap.size < w5.heap.size := (by have := hz_w5; first | omega | (simp at this; omega))); (try have hywb0_w5 := Nat.le_of_lt hzwb0_w5)
    have hz5 := hb5.size
    simp only [World.size_alloc] at hz5
    go_wp2_with fail
    all_goals
      first
        | (exfalso; omega)
        | (go_ret; exact ⟨by first | rfl | (simp; done) | (simp; omega), by (repeat' (first | (with_reducible exact Below.refl _ _) | (with_reducible assumption) | (with_reducible refine Below.alloc ?_ ?_ _) | (with_reducible refine Below.drew ?_) | (with_reducible refine Below_drewN ?_ _) | (with_reducible refine Below.setCell ?_ ?_ _) | (refine Below.step (B' := ?_) (b := ?_) ?_ ?_ ?_; rotate_left 2; (with_reducible assumption)) | go_size))⟩)
  · clear q3
    go_enter Try.func12, Try.ntmps12
    go_wp2_with fail
    with_reducible refine (awake2 _).mono ?_
    rintro e w1 ⟨rfl, hb1⟩
    obtain ⟨hc_w1, hf_w1, hz_w1⟩ := kept hb1; (try simp only [World.size_drew] at hc_w1 hf_w1 hz_w1); (try have hzw0_w1 : w.heap.size < w1.heap.size := (by have := hz_w1; first | omega | (simp at this; omega))); (try have hyw0_w1 := Nat.le_of_lt hzw0_w1); (try have hzw1_w1 : w.heap.size + 1 < w1.heap.size := (by have := hz_w1; first | omega | (simp at this; omega))); (try have hyw1_w1 := Nat.le_of_lt hzw1_w1); (try have hzw2_w1 : w.heap.size + 1 + 1 < w1.heap.size := (by have := hz_w1; first | omega | (simp at this; omega))); (try have hyw2_w1 := Nat.le_of_lt hzw2_w1)
    have hz1 := hb1.size
    simp only [World.size_alloc] at hz1
    go_wp2_with fail
    with_reducible refine (wcmp_c _ _ _ _ _).mono ?_
    rintro e w2 ⟨rfl, hb2⟩
    obtain ⟨hc_w2, hf_w2, hz_w2⟩ := kept hb2; (try simp only [World.size_drew] at hc_w2 hf_w2 hz_w2); (try have hzw0_w2 : w.heap.size < w2.heap.size := (by have := hz_w2; first | omega | (simp at this; omega))); (try have hyw0_w2 := Nat.le_of_lt hzw0_w2); (try have hzw1_w2 : w.heap.size + 1 < w2.heap.size := (by have := hz_w2; first | omega | (simp at this; omega))); (try have hyw1_w2 := Nat.le_of_lt hzw1_w2); (try have hzw2_w2 : w.heap.size + 1 + 1 < w2.heap.size := (by have := hz_w2; first | omega | (simp at this; omega))); (try have hyw2_w2 := Nat.le_of_lt hzw2_w2)
    have hz2 := hb2.size
    go_wp2_with fail
    with_reducible refine (wcmp_c _ _ _ _ _).mono ?_
    rintro e w3 ⟨rfl, hb3⟩
    obtain ⟨hc_w3, hf_w3, hz_w3⟩ := kept hb3; (try simp only [World.size_drew] at hc_w3 hf_w3 hz_w3); (try have hzw0_w3 : w.heap.size < w3.heap.size := (by have := hz_w3; first | omega | (simp at this; omega))); (try have hyw0_w3 := Nat.le_of_lt hzw0_w3); (try have hzw1_w3 : w.heap.size + 1 < w3.heap.size := (by have := hz_w3; first | omega | (simp at this; omega))); (try have hyw1_w3 := Nat.le_of_lt hzw1_w3); (try have hzw2_w3 : w.heap.size + 1 + 1 < w3.heap.size := (by have := hz_w3; first | omega | (simp at this; omega))); (try have hyw2_w3 := Nat.le_of_lt hzw2_w3)
    have hz3 := hb3.size
    go_wp2_with fail
    with_reducible refine (wcmp_c _ _ _ _ _).mono ?_
    rintro e w4 ⟨rfl, hb4⟩
    obtain ⟨hc_w4, hf_w4, hz_w4⟩ := kept hb4; (try simp only [World.size_drew] at hc_w4 hf_w4 hz_w4); (try have hzw0_w4 : w.heap.size < w4.heap.size := (by have := hz_w4; first | omega | (simp at this; omega))); (try have hyw0_w4 := Nat.le_of_lt hzw0_w4); (try have hzw1_w4 : w.heap.size + 1 < w4.heap.size := (by have := hz_w4; first | omega | (simp at this; omega))); (try have hyw1_w4 := Nat.le_of_lt hzw1_w4); (try have hzw2_w4 : w.heap.size + 1 + 1 < w4.heap.size := (by have := hz_w4; first | omega | (simp at this; omega))); (try have hyw2_w4 := Nat.le_of_lt hzw2_w4)
    have hz4 := hb4.size
    go_wp2_with fail
    refine (wadd_c _ _ _ _ (by omega) (by omega) (by omega) (by omega) (by omega) (by omega) (by omega) (by omega) _).mono ?_
    rintro e wa ⟨rfl, hba⟩
    obtain ⟨hc_wa, hf_wa, hz_wa⟩ := kept hba; (try simp only [World.size_drew] at hc_wa hf_wa hz_wa); (try have hzw0_wa : w.heap.size < wa.heap.size := (by have := hz_wa; first | omega | (simp at this; omega))); (try have hyw0_wa := Nat.le_of_lt hzw0_wa); (try have hzw1_wa : w.heap.size + 1 < wa.heap.size := (by have := hz_wa; first | omega | (simp at this; omega))); (try have hyw1_wa := Nat.le_of_lt hzw1_wa); (try have hzw2_wa : w.heap.size + 1 + 1 < wa.heap.size := (by have := hz_wa; first | omega | (simp at this; omega))); (try have hyw2_wa := Nat.le_of_lt hzw2_wa)
    have hza := hba.size
    go_wp2_with fail
    refine (wadd_c _ _ _ _ (by omega) (by omega) (by omega) (by omega) (by omega) (by omega) (by omega) (by omega) _).mono ?_
    rintro e wb ⟨rfl, hbb⟩
    obtain ⟨hc_wb, hf_wb, hz_wb⟩ := kept hbb; (try simp only [World.size_drew] at hc_wb hf_wb hz_wb); (try have hzw0_wb : w.heap.size < wb.heap.size := (by have := hz_wb; first | omega | (simp at this; omega))); (try have hyw0_wb := Nat.le_of_lt hzw0_wb); (try have hzw1_wb : w.heap.size + 1 < wb.heap.size := (by have := hz_wb; first | omega | (simp at this; omega))); (try have hyw1_wb := Nat.le_of_lt hzw1_wb); (try have hzw2_wb : w.heap.size + 1 + 1 < wb.heap.size := (by have := hz_wb; first | omega | (simp at this; omega))); (try have hyw2_wb := Nat.le_of_lt hzw2_wb); (try have hzwa0_wb : wa.heap.size < wb.heap.size := (by have := hz_wb; first | omega | (simp at this; omega))); (try have hywa0_wb := Nat.le_of_lt hzwa0_wb)
    have hzb := hbb.size
    simp only [World.size_alloc] at hzb
    go_wp2_with fail
    with_reducible refine (wcmp_c _ _ _ _ _).mono ?_
    rintro e w5 ⟨rfl, hb5⟩
    obtain ⟨hc_w5, hf_w5, hz_w5⟩ := kept hb5; (try simp only [World.size_drew] at hc_w5 hf_w5 hz_w5); (try have hzw0_w5 : w.heap.size < w5.heap.size := (by have := hz_w5; first | omega | (simp at this; omega))); (try have hyw0_w5 := Nat.le_of_lt hzw0_w5); (try have hzw1_w5 : w.heap.size + 1 < w5.heap.size := (by have := hz_w5; first | omega | (simp at this; omega))); (try have hyw1_w5 := Nat.le_of_lt hzw1_w5); (try have hzw2_w5 : w.heap.size + 1 + 1 < w5.heap.size := (by have := hz_w5; first | omega | (simp at this; omega))); (try have hyw2_w5 := Nat.le_of_lt hzw2_w5); (try have hzwa0_w5 : wa.heap.size < w5.heap.size := (by have := hz_w5; first | omega | (simp at this; omega))); (try have hywa0_w5 := Nat.le_of_lt hzwa0_w5); (try have hzwb0_w5 : wb.heap.size < w5.heap.size := (by have := hz_w5; first | omega | (simp at this; omega))); (try have hywb0_w5 := Nat.le_of_lt hzwb0_w5)
    have hz5 := hb5.size
    simp only [World.size_alloc] at hz5
    go_wp2_with fail
    all_goals
      first
        | (exfalso; omega)
        | (go_ret; exact ⟨by first | rfl | (simp; done) | (simp; omega), by (repeat' (first | (with_reducible exact Below.refl _ _) | (with_reducible assumption) | (with_reducible refine Below.alloc ?_ ?_ _) | (with_reducible refine Below.drew ?_) | (with_reducible refine Below_drewN ?_ _) | (with_reducible refine Below.setCell ?_ ?_ _) | (refine Below.step (B' := ?_) (b := ?_) ?_ ?_ ?_; rotate_left 2; (with_reducible assumption)) | go_size))⟩)
  · have q6 := q3 o1 o2
    clear q3
    go_enter Try.func12, Try.ntmps12
    go_wp2_with fail
    with_reducible refine (awake2 _).mono ?_
    rintro e w1 ⟨rfl, hb1⟩
    obtain ⟨hc_w1, hf_w1, hz_w1⟩ := kept hb1; (try simp only [World.size_drew] at hc_w1 hf_w1 hz_w1); (try have hzw0_w1 : w.heap.size < w1.heap.size := (by have := hz_w1; first | omega | (simp at this; omega))); (try have hyw0_w1 := Nat.le_of_lt hzw0_w1); (try have hzw1_w1 : w.heap.size + 1 < w1.heap.size := (by have := hz_w1; first | omega | (simp at this; omega))); (try have hyw1_w1 := Nat.le_of_lt hzw1_w1); (try have hzw2_w1 : w.heap.size + 1 + 1 < w1.heap.size := (by have := hz_w1; first | omega | (simp at this; omega))); (try have hyw2_w1 := Nat.le_of_lt hzw2_w1)
    have hz1 := hb1.size
    simp only [World.size_alloc] at hz1
    go_wp2_with fail
    with_reducible refine (wcmp_c _ _ _ _ _).mono ?_
    rintro e w2 ⟨rfl, hb2⟩
    obtain ⟨hc_w2, hf_w2, hz_w2⟩ := kept hb2; (try simp only [World.size_drew] at hc_w2 hf_w2 hz_w2); (try have hzw0_w2 : w.heap.size < w2.heap.size := (by have := hz_w2; first | omega | (simp at this; omega))); (try have hyw0_w2 := Nat.le_of_lt hzw0_w2); (try have hzw1_w2 : w.heap.size + 1 < w2.heap.size := (by have := hz_w2; first | omega | (simp at this; omega))); (try have hyw1_w2 := Nat.le_of_lt hzw1_w2); (try have hzw2_w2 : w.heap.size + 1 + 1 < w2.heap.size := (by have := hz_w2; first | omega | (simp at this; omega))); (try have hyw2_w2 := Nat.le_of_lt hzw2_w2)
    have hz2 := hb2.size
    go_wp2_with fail
    with_reducible refine (wcmp_c _ _ _ _ _).mono ?_
    rintro e w3 ⟨rfl, hb3⟩
    obtain ⟨hc_w3, hf_w3, hz_w3⟩ := kept hb3; (try simp only [World.size_drew] at hc_w3 hf_w3 hz_w3); (try have hzw0_w3 : w.heap.size < w3.heap.size := (by have := hz_w3; first | omega | (simp at this; omega))); (try have hyw0_w3 := Nat.le_of_lt hzw0_w3); (try have hzw1_w3 : w.heap.size + 1 < w3.heap.size := (by have := hz_w3; first | omega | (simp at this; omega))); (try have hyw1_w3 := Nat.le_of_lt hzw1_w3); (try have hzw2_w3 : w.heap.size + 1 + 1 < w3.heap.size := (by have := hz_w3; first | omega | (simp at this; omega))); (try have hyw2_w3 := Nat.le_of_lt hzw2_w3)
    have hz3 := hb3.size
    go_wp2_with fail
    with_reducible refine (wcmp_c _ _ _ _ _).mono ?_
    rintro e w4 ⟨rfl, hb4⟩
    obtain ⟨hc_w4, hf_w4, hz_w4⟩ := kept hb4; (try simp only [World.size_drew] at hc_w4 hf_w4 hz_w4); (try have hzw0_w4 : w.heap.size < w4.heap.size := (by have := hz_w4; first | omega | (simp at this; omega))); (try have hyw0_w4 := Nat.le_of_lt hzw0_w4); (try have hzw1_w4 : w.heap.size + 1 < w4.heap.size := (by have := hz_w4; first | omega | (simp at this; omega))); (try have hyw1_w4 := Nat.le_of_lt hzw1_w4); (try have hzw2_w4 : w.heap.size + 1 + 1 < w4.heap.size := (by have := hz_w4; first | omega | (simp at this; omega))); (try have hyw2_w4 := Nat.le_of_lt hzw2_w4)
    have hz4 := hb4.size
    go_wp2_with fail
    refine (wadd_c _ _ _ _ (by omega) (by omega) (by omega) (by omega) (by omega) (by omega) (by omega) (by omega) _).mono ?_
    rintro e wa ⟨rfl, hba⟩
    obtain ⟨hc_wa, hf_wa, hz_wa⟩ := kept hba; (try simp only [World.size_drew] at hc_wa hf_wa hz_wa); (try have hzw0_wa : w.heap.size < wa.heap.size := (by have := hz_wa; first | omega | (simp at this; omega))); (try have hyw0_wa := Nat.le_of_lt hzw0_wa); (try have hzw1_wa : w.heap.size + 1 < wa.heap.size := (by have := hz_wa; first | omega | (simp at this; omega))); (try have hyw1_wa := Nat.le_of_lt hzw1_wa); (try have hzw2_wa : w.heap.size + 1 + 1 < wa.heap.size := (by have := hz_wa; first | omega | (simp at this; omega))); (try have hyw2_wa := Nat.le_of_lt hzw2_wa)
    have hza := hba.size
    go_wp2_with fail
    refine (wadd_c _ _ _ _ (by omega) (by omega) (by omega) (by omega) (by omega) (by omega) (by omega) (by omega) _).mono ?_
    rintro e wb ⟨rfl, hbb⟩
    obtain ⟨hc_wb, hf_wb, hz_wb⟩ := kept hbb; (try simp only [World.size_drew] at hc_wb hf_wb hz_wb); (try have hzw0_wb : w.heap.size < wb.heap.size := (by have := hz_wb; first | omega | (simp at this; omega))); (try have hyw0_wb := Nat.le_of_lt hzw0_wb); (try have hzw1_wb : w.heap.size + 1 < wb.heap.size := (by have := hz_wb; first | omega | (simp at this; omega))); (try have hyw1_wb := Nat.le_of_lt hzw1_wb); (try have hzw2_wb : w.heap.size + 1 + 1 < wb.heap.size := (by have := hz_wb; first | omega | (simp at this; omega))); (try have hyw2_wb := Nat.le_of_lt hzw2_wb); (try have hzwa0_wb : wa.heap.size < wb.heap.size := (by have := hz_wb; first | omega | (simp at this; omega))); (try have hywa0_wb := Nat.le_of_lt hzwa0_wb)
    have hzb := hbb.size
    simp only [World.size_alloc] at hzb
    go_wp2_with fail
    with_reducible refine (wcmp_c _ _ _ _ _).mono ?_
    rintro e w5 ⟨rfl, hb5⟩
    obtain ⟨hc_w5, hf_w5, hz_w5⟩ := kept hb5; (try simp only [World.size_drew] at hc_w5 hf_w5 hz_w5); (try have hzw0_w5 : w.heap.size < w5.heap.size := (by have := hz_w5; first | omega | (simp at this; omega))); (try have hyw0_w5 := Nat.le_of_lt hzw0_w5); (try have hzw1_w5 : w.heap.size + 1 < w5.heap.size := (by have := hz_w5; first | omega | (simp at this; omega))); (try have hyw1_w5 := Nat.le_of_lt hzw1_w5); (try have hzw2_w5 : w.heap.size + 1 + 1 < w5.heap.size := (by have := hz_w5; first | omega | (simp at this; omega))); (try have hyw2_w5 := Nat.le_of_lt hzw2_w5); (try have hzwa0_w5 : wa.heap.size < w5.heap.size := (by have := hz_w5; first | omega | (simp at this; omega))); (try have hywa0_w5 := Nat.le_of_lt hzwa0_w5); (try have hzwb0_w5 : wb.heap.size < w5.heap.size := (by have := hz_w5; first | omega | (simp at this; omega))); (try have hywb0_w5 := Nat.le_of_lt hzwb0_w5)
    have hz5 := hb5.size
    simp only [World.size_alloc] at hz5
    go_wp2_with fail
    with_reducible refine (wcmp_c _ _ _ _ _).mono ?_
    rintro e w6 ⟨rfl, hb6⟩
    obtain ⟨hc_w6, hf_w6, hz_w6⟩ := kept hb6; (try simp only [World.size_drew] at hc_w6 hf_w6 hz_w6); (try have hzw0_w6 : w.heap.size < w6.heap.size := (by have := hz_w6; first | omega | (simp at this; omega))); (try have hyw0_w6 := Nat.le_of_lt hzw0_w6); (try have hzw1_w6 : w.heap.size + 1 < w6.heap.size := (by have := hz_w6; first | omega | (simp at this; omega))); (try have hyw1_w6 := Nat.le_of_lt hzw1_w6); (try have hzw2_w6 : w.heap.size + 1 + 1 < w6.heap.size := (by have := hz_w6; first | omega | (simp at this; omega))); (try have hyw2_w6 := Nat.le_of_lt hzw2_w6); (try have hzwa0_w6 : wa.heap.size < w6.heap.size := (by have := hz_w6; first | omega | (simp at this; omega))); (try have hywa0_w6 := Nat.le_of_lt hzwa0_w6); (try have hzwb0_w6 : wb.heap.size < w6.heap.size := (by have := hz_w6; first | omega | (simp at this; omega))); (try have hywb0_w6 := Nat.le_of_lt hzwb0_w6)
    have hz6 := hb6.size
    go_wp2_with fail
    all_goals
      first
        | (exfalso; omega)
        | (go_ret; exact ⟨by first | rfl | (simp; done) | (simp; omega), by (repeat' (first | (with_reducible exact Below.refl _ _) | (with_reducible assumption) | (with_reducible refine Below.alloc ?_ ?_ _) | (with_reducible refine Below.drew ?_) | (with_reducible refine Below_drewN ?_ _) | (with_reducible refine Below.setCell ?_ ?_ _) | (refine Below.step (B' := ?_) (b := ?_) ?_ ?_ ?_; rotate_left 2; (with_reducible assumption)) | go_size))⟩)

set_option maxRecDepth 100000 in
set_option maxHeartbeats 4000000 in
theorem wo_gt1b (xh xl yl zh zl : Int) (h1 : 0 ≤ xh) (g1 : xh < 18446744073709551616) (h2 : 0 ≤ xl) (g2 : xl < 18446744073709551616) (h4 : 0 ≤ yl) (g4 : yl < 18446744073709551616) (h5 : 0 ≤ zh) (g5 : zh < 18446744073709551616) (h6 : 0 ≤ zl) (g6 : zl < 18446744073709551616) (hc : xh * 18446744073709551616 + yl < xh * 18446744073709551616 + xl) (hp : xh * 18446744073709551616 + yl ≤ zh * 18446744073709551616 + zl) (he : (xl == yl) = false) (w : World) :
  Calls Try.prog 12 #[.agg #[.int .u64 xh, .int .u64 xl], .agg #[.int .u64 xh, .int .u64 yl], .agg #[.int .u64 zh, .int .u64 zl]] w fun e w' => e = .returned (.bool true) ∧ Below w.heap.size w w' := by
  have q1 : cmpW xh xl xh yl = 1 := by rw [cmpW_cw _ _ _ _ h2 g2 h4 g4]; exact cw_gt hc
  have q2 : cmpW xh yl xh xl = -1 := by rw [cmpW_cw _ _ _ _ h4 g4 h2 g2]; exact cw_lt hc
  have q4 : cmpW xh yl zh zl ≤ 0 := by rw [cmpW_cw _ _ _ _ h4 g4 h6 g6]; exact cw_le hp
  have q5 : decide (cmpW xh yl zh zl ≤ 0) = true := by simpa using q4
  have q3 : aOv xh xl zh zl = false → aOv xh yl zh zl = false → cmpW (aHi xh xl zh zl) (aLo xl zl) (aHi xh yl zh zl) (aLo yl zl) = 1 := fun o1 o2 => by
    obtain ⟨s1, s2, s3⟩ := sum_in xh xl zh zl h2 g2 h6 g6 h1 h5 o1
    obtain ⟨t1, t2, t3⟩ := sum_in xh yl zh zl h4 g4 h6 g6 h1 h5 o2
    rw [cmpW_cw _ _ _ _ s2 s3 t2 t3]; exact cw_gt (by omega)
  rcases (by cases aOv xh xl zh zl <;> cases aOv xh yl zh zl <;> simp : aOv xh xl zh zl = true ∨ aOv xh xl zh zl = false ∧ aOv xh yl zh zl = true ∨ aOv xh xl zh zl = false ∧ aOv xh yl zh zl = false) with o1 | ⟨o1, o2⟩ | ⟨o1, o2⟩
  · clear q3
    go_enter Try.func12, Try.ntmps12
    go_wp2_with fail
    with_reducible refine (awake2 _).mono ?_
    rintro e w1 ⟨rfl, hb1⟩
    obtain ⟨hc_w1, hf_w1, hz_w1⟩ := kept hb1; (try simp only [World.size_drew] at hc_w1 hf_w1 hz_w1); (try have hzw0_w1 : w.heap.size < w1.heap.size := (by have := hz_w1; first | omega | (simp at this; omega))); (try have hyw0_w1 := Nat.le_of_lt hzw0_w1); (try have hzw1_w1 : w.heap.size + 1 < w1.heap.size := (by have := hz_w1; first | omega | (simp at this; omega))); (try have hyw1_w1 := Nat.le_of_lt hzw1_w1); (try have hzw2_w1 : w.heap.size + 1 + 1 < w1.heap.size := (by have := hz_w1; first | omega | (simp at this; omega))); (try have hyw2_w1 := Nat.le_of_lt hzw2_w1)
    have hz1 := hb1.size
    simp only [World.size_alloc] at hz1
    go_wp2_with fail
    with_reducible refine (wcmp_c _ _ _ _ _).mono ?_
    rintro e w2 ⟨rfl, hb2⟩
    obtain ⟨hc_w2, hf_w2, hz_w2⟩ := kept hb2; (try simp only [World.size_drew] at hc_w2 hf_w2 hz_w2); (try have hzw0_w2 : w.heap.size < w2.heap.size := (by have := hz_w2; first | omega | (simp at this; omega))); (try have hyw0_w2 := Nat.le_of_lt hzw0_w2); (try have hzw1_w2 : w.heap.size + 1 < w2.heap.size := (by have := hz_w2; first | omega | (simp at this; omega))); (try have hyw1_w2 := Nat.le_of_lt hzw1_w2); (try have hzw2_w2 : w.heap.size + 1 + 1 < w2.heap.size := (by have := hz_w2; first | omega | (simp at this; omega))); (try have hyw2_w2 := Nat.le_of_lt hzw2_w2)
    have hz2 := hb2.size
    go_wp2_with fail
    with_reducible refine (wcmp_c _ _ _ _ _).mono ?_
    rintro e w3 ⟨rfl, hb3⟩
    obtain ⟨hc_w3, hf_w3, hz_w3⟩ := kept hb3; (try simp only [World.size_drew] at hc_w3 hf_w3 hz_w3); (try have hzw0_w3 : w.heap.size < w3.heap.size := (by have := hz_w3; first | omega | (simp at this; omega))); (try have hyw0_w3 := Nat.le_of_lt hzw0_w3); (try have hzw1_w3 : w.heap.size + 1 < w3.heap.size := (by have := hz_w3; first | omega | (simp at this; omega))); (try have hyw1_w3 := Nat.le_of_lt hzw1_w3); (try have hzw2_w3 : w.heap.size + 1 + 1 < w3.heap.size := (by have := hz_w3; first | omega | (simp at this; omega))); (try have hyw2_w3 := Nat.le_of_lt hzw2_w3)
    have hz3 := hb3.size
    go_wp2_with fail
    with_reducible refine (wcmp_c _ _ _ _ _).mono ?_
    rintro e w4 ⟨rfl, hb4⟩
    obtain ⟨hc_w4, hf_w4, hz_w4⟩ := kept hb4; (try simp only [World.size_drew] at hc_w4 hf_w4 hz_w4); (try have hzw0_w4 : w.heap.size < w4.heap.size := (by have := hz_w4; first | omega | (simp at this; omega))); (try have hyw0_w4 := Nat.le_of_lt hzw0_w4); (try have hzw1_w4 : w.heap.size + 1 < w4.heap.size := (by have := hz_w4; first | omega | (simp at this; omega))); (try have hyw1_w4 := Nat.le_of_lt hzw1_w4); (try have hzw2_w4 : w.heap.size + 1 + 1 < w4.heap.size := (by have := hz_w4; first | omega | (simp at this; omega))); (try have hyw2_w4 := Nat.le_of_lt hzw2_w4)
    have hz4 := hb4.size
    go_wp2_with fail
    refine (wadd_c _ _ _ _ (by omega) (by omega) (by omega) (by omega) (by omega) (by omega) (by omega) (by omega) _).mono ?_
    rintro e wa ⟨rfl, hba⟩
    obtain ⟨hc_wa, hf_wa, hz_wa⟩ := kept hba; (try simp only [World.size_drew] at hc_wa hf_wa hz_wa); (try have hzw0_wa : w.heap.size < wa.heap.size := (by have := hz_wa; first | omega | (simp at this; omega))); (try have hyw0_wa := Nat.le_of_lt hzw0_wa); (try have hzw1_wa : w.heap.size + 1 < wa.heap.size := (by have := hz_wa; first | omega | (simp at this; omega))); (try have hyw1_wa := Nat.le_of_lt hzw1_wa); (try have hzw2_wa : w.heap.size + 1 + 1 < wa.heap.size := (by have := hz_wa; first | omega | (simp at this; omega))); (try have hyw2_wa := Nat.le_of_lt hzw2_wa)
    have hza := hba.size
    go_wp2_with fail
    refine (wadd_c _ _ _ _ (by omega) (by omega) (by omega) (by omega) (by omega) (by omega) (by omega) (by omega) _).mono ?_
    rintro e wb ⟨rfl, hbb⟩
    obtain ⟨hc_wb, hf_wb, hz_wb⟩ := kept hbb; (try simp only [World.size_drew] at hc_wb hf_wb hz_wb); (try have hzw0_wb : w.heap.size < wb.heap.size := (by have := hz_wb; first | omega | (simp at this; omega))); (try have hyw0_wb := Nat.le_of_lt hzw0_wb); (try have hzw1_wb : w.heap.size + 1 < wb.heap.size := (by have := hz_wb; first | omega | (simp at this; omega))); (try have hyw1_wb := Nat.le_of_lt hzw1_wb); (try have hzw2_wb : w.heap.size + 1 + 1 < wb.heap.size := (by have := hz_wb; first | omega | (simp at this; omega))); (try have hyw2_wb := Nat.le_of_lt hzw2_wb); (try have hzwa0_wb : wa.heap.size < wb.heap.size := (by have := hz_wb; first | omega | (simp at this; omega))); (try have hywa0_wb := Nat.le_of_lt hzwa0_wb)
    have hzb := hbb.size
    simp only [World.size_alloc] at hzb
    go_wp2_with fail
    with_reducible refine (wcmp_c _ _ _ _ _).mono ?_
    rintro e w5 ⟨rfl, hb5⟩
    obtain ⟨hc_w5, hf_w5, hz_w5⟩ := kept hb5; (try simp only [World.size_drew] at hc_w5 hf_w5 hz_w5); (try have hzw0_w5 : w.heap.size < w5.heap.size := (by have := hz_w5; first | omega | (simp at this; omega))); (try have hyw0_w5 := Nat.le_of_lt hzw0_w5); (try have hzw1_w5 : w.heap.size + 1 < w5.heap.size := (by have := hz_w5; first | omega | (simp at this; omega))); (try have hyw1_w5 := Nat.le_of_lt hzw1_w5); (try have hzw2_w5 : w.heap.size + 1 + 1 < w5.heap.size := (by have := hz_w5; first | omega | (simp at this; omega))); (try have hyw2_w5 := Nat.le_of_lt hzw2_w5); (try have hzwa0_w5 : wa.heap.size < w5.heap.size := (by have := hz_w5; first | omega | (simp at this; omega))); (try have hywa0_w5 := Nat.le_of_lt hzwa0_w5); (try have hzwb0_w5 : wb.heap.size < w5.heap.size := (by have := hz_w5; first | omega | (simp at this; omega))); (try have hywb0_w5 := Nat.le_of_lt hzwb0_w5)
    have hz5 := hb5.size
    simp only [World.size_alloc] at hz5
    go_wp2_with fail
    all_goals
      first
        | (exfalso; omega)
        | (go_ret; exact ⟨by first | rfl | (simp; done) | (simp; omega), by (repeat' (first | (with_reducible exact Below.refl _ _) | (with_reducible assumption) | (with_reducible refine Below.alloc ?_ ?_ _) | (with_reducible refine Below.drew ?_) | (with_reducible refine Below_drewN ?_ _) | (with_reducible refine Below.setCell ?_ ?_ _) | (refine Below.step (B' := ?_) (b := ?_) ?_ ?_ ?_; rotate_left 2; (with_reducible assumption)) | go_size))⟩)
  · clear q3
    go_enter Try.func12, Try.ntmps12
    go_wp2_with fail
    with_reducible refine (awake2 _).mono ?_
    rintro e w1 ⟨rfl, hb1⟩
    obtain ⟨hc_w1, hf_w1, hz_w1⟩ := kept hb1; (try simp only [World.size_drew] at hc_w1 hf_w1 hz_w1); (try have hzw0_w1 : w.heap.size < w1.heap.size := (by have := hz_w1; first | omega | (simp at this; omega))); (try have hyw0_w1 := Nat.le_of_lt hzw0_w1); (try have hzw1_w1 : w.heap.size + 1 < w1.heap.size := (by have := hz_w1; first | omega | (simp at this; omega))); (try have hyw1_w1 := Nat.le_of_lt hzw1_w1); (try have hzw2_w1 : w.heap.size + 1 + 1 < w1.heap.size := (by have := hz_w1; first | omega | (simp at this; omega))); (try have hyw2_w1 := Nat.le_of_lt hzw2_w1)
    have hz1 := hb1.size
    simp only [World.size_alloc] at hz1
    go_wp2_with fail
    with_reducible refine (wcmp_c _ _ _ _ _).mono ?_
    rintro e w2 ⟨rfl, hb2⟩
    obtain ⟨hc_w2, hf_w2, hz_w2⟩ := kept hb2; (try simp only [World.size_drew] at hc_w2 hf_w2 hz_w2); (try have hzw0_w2 : w.heap.size < w2.heap.size := (by have := hz_w2; first | omega | (simp at this; omega))); (try have hyw0_w2 := Nat.le_of_lt hzw0_w2); (try have hzw1_w2 : w.heap.size + 1 < w2.heap.size := (by have := hz_w2; first | omega | (simp at this; omega))); (try have hyw1_w2 := Nat.le_of_lt hzw1_w2); (try have hzw2_w2 : w.heap.size + 1 + 1 < w2.heap.size := (by have := hz_w2; first | omega | (simp at this; omega))); (try have hyw2_w2 := Nat.le_of_lt hzw2_w2)
    have hz2 := hb2.size
    go_wp2_with fail
    with_reducible refine (wcmp_c _ _ _ _ _).mono ?_
    rintro e w3 ⟨rfl, hb3⟩
    obtain ⟨hc_w3, hf_w3, hz_w3⟩ := kept hb3; (try simp only [World.size_drew] at hc_w3 hf_w3 hz_w3); (try have hzw0_w3 : w.heap.size < w3.heap.size := (by have := hz_w3; first | omega | (simp at this; omega))); (try have hyw0_w3 := Nat.le_of_lt hzw0_w3); (try have hzw1_w3 : w.heap.size + 1 < w3.heap.size := (by have := hz_w3; first | omega | (simp at this; omega))); (try have hyw1_w3 := Nat.le_of_lt hzw1_w3); (try have hzw2_w3 : w.heap.size + 1 + 1 < w3.heap.size := (by have := hz_w3; first | omega | (simp at this; omega))); (try have hyw2_w3 := Nat.le_of_lt hzw2_w3)
    have hz3 := hb3.size
    go_wp2_with fail
    with_reducible refine (wcmp_c _ _ _ _ _).mono ?_
    rintro e w4 ⟨rfl, hb4⟩
    obtain ⟨hc_w4, hf_w4, hz_w4⟩ := kept hb4; (try simp only [World.size_drew] at hc_w4 hf_w4 hz_w4); (try have hzw0_w4 : w.heap.size < w4.heap.size := (by have := hz_w4; first | omega | (simp at this; omega))); (try have hyw0_w4 := Nat.le_of_lt hzw0_w4); (try have hzw1_w4 : w.heap.size + 1 < w4.heap.size := (by have := hz_w4; first | omega | (simp at this; omega))); (try have hyw1_w4 := Nat.le_of_lt hzw1_w4); (try have hzw2_w4 : w.heap.size + 1 + 1 < w4.heap.size := (by have := hz_w4; first | omega | (simp at this; omega))); (try have hyw2_w4 := Nat.le_of_lt hzw2_w4)
    have hz4 := hb4.size
    go_wp2_with fail
    refine (wadd_c _ _ _ _ (by omega) (by omega) (by omega) (by omega) (by omega) (by omega) (by omega) (by omega) _).mono ?_
    rintro e wa ⟨rfl, hba⟩
    obtain ⟨hc_wa, hf_wa, hz_wa⟩ := kept hba; (try simp only [World.size_drew] at hc_wa hf_wa hz_wa); (try have hzw0_wa : w.heap.size < wa.heap.size := (by have := hz_wa; first | omega | (simp at this; omega))); (try have hyw0_wa := Nat.le_of_lt hzw0_wa); (try have hzw1_wa : w.heap.size + 1 < wa.heap.size := (by have := hz_wa; first | omega | (simp at this; omega))); (try have hyw1_wa := Nat.le_of_lt hzw1_wa); (try have hzw2_wa : w.heap.size + 1 + 1 < wa.heap.size := (by have := hz_wa; first | omega | (simp at this; omega))); (try have hyw2_wa := Nat.le_of_lt hzw2_wa)
    have hza := hba.size
    go_wp2_with fail
    refine (wadd_c _ _ _ _ (by omega) (by omega) (by omega) (by omega) (by omega) (by omega) (by omega) (by omega) _).mono ?_
    rintro e wb ⟨rfl, hbb⟩
    obtain ⟨hc_wb, hf_wb, hz_wb⟩ := kept hbb; (try simp only [World.size_drew] at hc_wb hf_wb hz_wb); (try have hzw0_wb : w.heap.size < wb.heap.size := (by have := hz_wb; first | omega | (simp at this; omega))); (try have hyw0_wb := Nat.le_of_lt hzw0_wb); (try have hzw1_wb : w.heap.size + 1 < wb.heap.size := (by have := hz_wb; first | omega | (simp at this; omega))); (try have hyw1_wb := Nat.le_of_lt hzw1_wb); (try have hzw2_wb : w.heap.size + 1 + 1 < wb.heap.size := (by have := hz_wb; first | omega | (simp at this; omega))); (try have hyw2_wb := Nat.le_of_lt hzw2_wb); (try have hzwa0_wb : wa.heap.size < wb.heap.size := (by have := hz_wb; first | omega | (simp at this; omega))); (try have hywa0_wb := Nat.le_of_lt hzwa0_wb)
    have hzb := hbb.size
    simp only [World.size_alloc] at hzb
    go_wp2_with fail
    with_reducible refine (wcmp_c _ _ _ _ _).mono ?_
    rintro e w5 ⟨rfl, hb5⟩
    obtain ⟨hc_w5, hf_w5, hz_w5⟩ := kept hb5; (try simp only [World.size_drew] at hc_w5 hf_w5 hz_w5); (try have hzw0_w5 : w.heap.size < w5.heap.size := (by have := hz_w5; first | omega | (simp at this; omega))); (try have hyw0_w5 := Nat.le_of_lt hzw0_w5); (try have hzw1_w5 : w.heap.size + 1 < w5.heap.size := (by have := hz_w5; first | omega | (simp at this; omega))); (try have hyw1_w5 := Nat.le_of_lt hzw1_w5); (try have hzw2_w5 : w.heap.size + 1 + 1 < w5.heap.size := (by have := hz_w5; first | omega | (simp at this; omega))); (try have hyw2_w5 := Nat.le_of_lt hzw2_w5); (try have hzwa0_w5 : wa.heap.size < w5.heap.size := (by have := hz_w5; first | omega | (simp at this; omega))); (try have hywa0_w5 := Nat.le_of_lt hzwa0_w5); (try have hzwb0_w5 : wb.heap.size < w5.heap.size := (by have := hz_w5; first | omega | (simp at this; omega))); (try have hywb0_w5 := Nat.le_of_lt hzwb0_w5)
    have hz5 := hb5.size
    simp only [World.size_alloc] at hz5
    go_wp2_with fail
    all_goals
      first
        | (exfalso; omega)
        | (go_ret; exact ⟨by first | rfl | (simp; done) | (simp; omega), by (repeat' (first | (with_reducible exact Below.refl _ _) | (with_reducible assumption) | (with_reducible refine Below.alloc ?_ ?_ _) | (with_reducible refine Below.drew ?_) | (with_reducible refine Below_drewN ?_ _) | (with_reducible refine Below.setCell ?_ ?_ _) | (refine Below.step (B' := ?_) (b := ?_) ?_ ?_ ?_; rotate_left 2; (with_reducible assumption)) | go_size))⟩)
  · have q6 := q3 o1 o2
    clear q3
    go_enter Try.func12, Try.ntmps12
    go_wp2_with fail
    with_reducible refine (awake2 _).mono ?_
    rintro e w1 ⟨rfl, hb1⟩
    obtain ⟨hc_w1, hf_w1, hz_w1⟩ := kept hb1; (try simp only [World.size_drew] at hc_w1 hf_w1 hz_w1); (try have hzw0_w1 : w.heap.size < w1.heap.size := (by have := hz_w1; first | omega | (simp at this; omega))); (try have hyw0_w1 := Nat.le_of_lt hzw0_w1); (try have hzw1_w1 : w.heap.size + 1 < w1.heap.size := (by have := hz_w1; first | omega | (simp at this; omega))); (try have hyw1_w1 := Nat.le_of_lt hzw1_w1); (try have hzw2_w1 : w.heap.size + 1 + 1 < w1.heap.size := (by have := hz_w1; first | omega | (simp at this; omega))); (try have hyw2_w1 := Nat.le_of_lt hzw2_w1)
    have hz1 := hb1.size
    simp only [World.size_alloc] at hz1
    go_wp2_with fail
    with_reducible refine (wcmp_c _ _ _ _ _).mono ?_
    rintro e w2 ⟨rfl, hb2⟩
    obtain ⟨hc_w2, hf_w2, hz_w2⟩ := kept hb2; (try simp only [World.size_drew] at hc_w2 hf_w2 hz_w2); (try have hzw0_w2 : w.heap.size < w2.heap.size := (by have := hz_w2; first | omega | (simp at this; omega))); (try have hyw0_w2 := Nat.le_of_lt hzw0_w2); (try have hzw1_w2 : w.heap.size + 1 < w2.heap.size := (by have := hz_w2; first | omega | (simp at this; omega))); (try have hyw1_w2 := Nat.le_of_lt hzw1_w2); (try have hzw2_w2 : w.heap.size + 1 + 1 < w2.heap.size := (by have := hz_w2; first | omega | (simp at this; omega))); (try have hyw2_w2 := Nat.le_of_lt hzw2_w2)
    have hz2 := hb2.size
    go_wp2_with fail
    with_reducible refine (wcmp_c _ _ _ _ _).mono ?_
    rintro e w3 ⟨rfl, hb3⟩
    obtain ⟨hc_w3, hf_w3, hz_w3⟩ := kept hb3; (try simp only [World.size_drew] at hc_w3 hf_w3 hz_w3); (try have hzw0_w3 : w.heap.size < w3.heap.size := (by have := hz_w3; first | omega | (simp at this; omega))); (try have hyw0_w3 := Nat.le_of_lt hzw0_w3); (try have hzw1_w3 : w.heap.size + 1 < w3.heap.size := (by have := hz_w3; first | omega | (simp at this; omega))); (try have hyw1_w3 := Nat.le_of_lt hzw1_w3); (try have hzw2_w3 : w.heap.size + 1 + 1 < w3.heap.size := (by have := hz_w3; first | omega | (simp at this; omega))); (try have hyw2_w3 := Nat.le_of_lt hzw2_w3)
    have hz3 := hb3.size
    go_wp2_with fail
    with_reducible refine (wcmp_c _ _ _ _ _).mono ?_
    rintro e w4 ⟨rfl, hb4⟩
    obtain ⟨hc_w4, hf_w4, hz_w4⟩ := kept hb4; (try simp only [World.size_drew] at hc_w4 hf_w4 hz_w4); (try have hzw0_w4 : w.heap.size < w4.heap.size := (by have := hz_w4; first | omega | (simp at this; omega))); (try have hyw0_w4 := Nat.le_of_lt hzw0_w4); (try have hzw1_w4 : w.heap.size + 1 < w4.heap.size := (by have := hz_w4; first | omega | (simp at this; omega))); (try have hyw1_w4 := Nat.le_of_lt hzw1_w4); (try have hzw2_w4 : w.heap.size + 1 + 1 < w4.heap.size := (by have := hz_w4; first | omega | (simp at this; omega))); (try have hyw2_w4 := Nat.le_of_lt hzw2_w4)
    have hz4 := hb4.size
    go_wp2_with fail
    refine (wadd_c _ _ _ _ (by omega) (by omega) (by omega) (by omega) (by omega) (by omega) (by omega) (by omega) _).mono ?_
    rintro e wa ⟨rfl, hba⟩
    obtain ⟨hc_wa, hf_wa, hz_wa⟩ := kept hba; (try simp only [World.size_drew] at hc_wa hf_wa hz_wa); (try have hzw0_wa : w.heap.size < wa.heap.size := (by have := hz_wa; first | omega | (simp at this; omega))); (try have hyw0_wa := Nat.le_of_lt hzw0_wa); (try have hzw1_wa : w.heap.size + 1 < wa.heap.size := (by have := hz_wa; first | omega | (simp at this; omega))); (try have hyw1_wa := Nat.le_of_lt hzw1_wa); (try have hzw2_wa : w.heap.size + 1 + 1 < wa.heap.size := (by have := hz_wa; first | omega | (simp at this; omega))); (try have hyw2_wa := Nat.le_of_lt hzw2_wa)
    have hza := hba.size
    go_wp2_with fail
    refine (wadd_c _ _ _ _ (by omega) (by omega) (by omega) (by omega) (by omega) (by omega) (by omega) (by omega) _).mono ?_
    rintro e wb ⟨rfl, hbb⟩
    obtain ⟨hc_wb, hf_wb, hz_wb⟩ := kept hbb; (try simp only [World.size_drew] at hc_wb hf_wb hz_wb); (try have hzw0_wb : w.heap.size < wb.heap.size := (by have := hz_wb; first | omega | (simp at this; omega))); (try have hyw0_wb := Nat.le_of_lt hzw0_wb); (try have hzw1_wb : w.heap.size + 1 < wb.heap.size := (by have := hz_wb; first | omega | (simp at this; omega))); (try have hyw1_wb := Nat.le_of_lt hzw1_wb); (try have hzw2_wb : w.heap.size + 1 + 1 < wb.heap.size := (by have := hz_wb; first | omega | (simp at this; omega))); (try have hyw2_wb := Nat.le_of_lt hzw2_wb); (try have hzwa0_wb : wa.heap.size < wb.heap.size := (by have := hz_wb; first | omega | (simp at this; omega))); (try have hywa0_wb := Nat.le_of_lt hzwa0_wb)
    have hzb := hbb.size
    simp only [World.size_alloc] at hzb
    go_wp2_with fail
    with_reducible refine (wcmp_c _ _ _ _ _).mono ?_
    rintro e w5 ⟨rfl, hb5⟩
    obtain ⟨hc_w5, hf_w5, hz_w5⟩ := kept hb5; (try simp only [World.size_drew] at hc_w5 hf_w5 hz_w5); (try have hzw0_w5 : w.heap.size < w5.heap.size := (by have := hz_w5; first | omega | (simp at this; omega))); (try have hyw0_w5 := Nat.le_of_lt hzw0_w5); (try have hzw1_w5 : w.heap.size + 1 < w5.heap.size := (by have := hz_w5; first | omega | (simp at this; omega))); (try have hyw1_w5 := Nat.le_of_lt hzw1_w5); (try have hzw2_w5 : w.heap.size + 1 + 1 < w5.heap.size := (by have := hz_w5; first | omega | (simp at this; omega))); (try have hyw2_w5 := Nat.le_of_lt hzw2_w5); (try have hzwa0_w5 : wa.heap.size < w5.heap.size := (by have := hz_w5; first | omega | (simp at this; omega))); (try have hywa0_w5 := Nat.le_of_lt hzwa0_w5); (try have hzwb0_w5 : wb.heap.size < w5.heap.size := (by have := hz_w5; first | omega | (simp at this; omega))); (try have hywb0_w5 := Nat.le_of_lt hzwb0_w5)
    have hz5 := hb5.size
    simp only [World.size_alloc] at hz5
    go_wp2_with fail
    with_reducible refine (wcmp_c _ _ _ _ _).mono ?_
    rintro e w6 ⟨rfl, hb6⟩
    obtain ⟨hc_w6, hf_w6, hz_w6⟩ := kept hb6; (try simp only [World.size_drew] at hc_w6 hf_w6 hz_w6); (try have hzw0_w6 : w.heap.size < w6.heap.size := (by have := hz_w6; first | omega | (simp at this; omega))); (try have hyw0_w6 := Nat.le_of_lt hzw0_w6); (try have hzw1_w6 : w.heap.size + 1 < w6.heap.size := (by have := hz_w6; first | omega | (simp at this; omega))); (try have hyw1_w6 := Nat.le_of_lt hzw1_w6); (try have hzw2_w6 : w.heap.size + 1 + 1 < w6.heap.size := (by have := hz_w6; first | omega | (simp at this; omega))); (try have hyw2_w6 := Nat.le_of_lt hzw2_w6); (try have hzwa0_w6 : wa.heap.size < w6.heap.size := (by have := hz_w6; first | omega | (simp at this; omega))); (try have hywa0_w6 := Nat.le_of_lt hzwa0_w6); (try have hzwb0_w6 : wb.heap.size < w6.heap.size := (by have := hz_w6; first | omega | (simp at this; omega))); (try have hywb0_w6 := Nat.le_of_lt hzwb0_w6)
    have hz6 := hb6.size
    go_wp2_with fail
    all_goals
      first
        | (exfalso; omega)
        | (go_ret; exact ⟨by first | rfl | (simp; done) | (simp; omega), by (repeat' (first | (with_reducible exact Below.refl _ _) | (with_reducible assumption) | (with_reducible refine Below.alloc ?_ ?_ _) | (with_reducible refine Below.drew ?_) | (with_reducible refine Below_drewN ?_ _) | (with_reducible refine Below.setCell ?_ ?_ _) | (refine Below.step (B' := ?_) (b := ?_) ?_ ?_ ?_; rotate_left 2; (with_reducible assumption)) | go_size))⟩)

set_option maxRecDepth 100000 in
set_option maxHeartbeats 4000000 in
theorem wo_gt2a (xh xl yh yl zh zl : Int) (h1 : 0 ≤ xh) (g1 : xh < 18446744073709551616) (h2 : 0 ≤ xl) (g2 : xl < 18446744073709551616) (h3 : 0 ≤ yh) (g3 : yh < 18446744073709551616) (h4 : 0 ≤ yl) (g4 : yl < 18446744073709551616) (h5 : 0 ≤ zh) (g5 : zh < 18446744073709551616) (h6 : 0 ≤ zl) (g6 : zl < 18446744073709551616) (hc : yh * 18446744073709551616 + yl < xh * 18446744073709551616 + xl) (hp : zh * 18446744073709551616 + zl < yh * 18446744073709551616 + yl) (he : (xh == yh) = false) (w : World) :
  Calls Try.prog 12 #[.agg #[.int .u64 xh, .int .u64 xl], .agg #[.int .u64 yh, .int .u64 yl], .agg #[.int .u64 zh, .int .u64 zl]] w fun e w' => e = .returned (.bool true) ∧ Below w.heap.size w w' := by
  have q1 : cmpW xh xl yh yl = 1 := by rw [cmpW_cw _ _ _ _ h2 g2 h4 g4]; exact cw_gt hc
  have q2 : cmpW yh yl xh xl = -1 := by rw [cmpW_cw _ _ _ _ h4 g4 h2 g2]; exact cw_lt hc
  have q4 : cmpW yh yl zh zl = 1 := by rw [cmpW_cw _ _ _ _ h4 g4 h6 g6]; exact cw_gt hp
  have q5 : cmpW xh xl zh zl = 1 := by rw [cmpW_cw _ _ _ _ h2 g2 h6 g6]; exact cw_gt (by omega)
  have q3 : aOv xh xl zh zl = false → aOv yh yl zh zl = false → cmpW (aHi xh xl zh zl) (aLo xl zl) (aHi yh yl zh zl) (aLo yl zl) = 1 := fun o1 o2 => by
    obtain ⟨s1, s2, s3⟩ := sum_in xh xl zh zl h2 g2 h6 g6 h1 h5 o1
    obtain ⟨t1, t2, t3⟩ := sum_in yh yl zh zl h4 g4 h6 g6 h3 h5 o2
    rw [cmpW_cw _ _ _ _ s2 s3 t2 t3]; exact cw_gt (by omega)
  rcases (by cases aOv xh xl zh zl <;> cases aOv yh yl zh zl <;> simp : aOv xh xl zh zl = true ∨ aOv xh xl zh zl = false ∧ aOv yh yl zh zl = true ∨ aOv xh xl zh zl = false ∧ aOv yh yl zh zl = false) with o1 | ⟨o1, o2⟩ | ⟨o1, o2⟩
  · clear q3
    go_enter Try.func12, Try.ntmps12
    go_wp2_with fail
    with_reducible refine (awake2 _).mono ?_
    rintro e w1 ⟨rfl, hb1⟩
    obtain ⟨hc_w1, hf_w1, hz_w1⟩ := kept hb1; (try simp only [World.size_drew] at hc_w1 hf_w1 hz_w1); (try have hzw0_w1 : w.heap.size < w1.heap.size := (by have := hz_w1; first | omega | (simp at this; omega))); (try have hyw0_w1 := Nat.le_of_lt hzw0_w1); (try have hzw1_w1 : w.heap.size + 1 < w1.heap.size := (by have := hz_w1; first | omega | (simp at this; omega))); (try have hyw1_w1 := Nat.le_of_lt hzw1_w1); (try have hzw2_w1 : w.heap.size + 1 + 1 < w1.heap.size := (by have := hz_w1; first | omega | (simp at this; omega))); (try have hyw2_w1 := Nat.le_of_lt hzw2_w1)
    have hz1 := hb1.size
    simp only [World.size_alloc] at hz1
    go_wp2_with fail
    with_reducible refine (wcmp_c _ _ _ _ _).mono ?_
    rintro e w2 ⟨rfl, hb2⟩
    obtain ⟨hc_w2, hf_w2, hz_w2⟩ := kept hb2; (try simp only [World.size_drew] at hc_w2 hf_w2 hz_w2); (try have hzw0_w2 : w.heap.size < w2.heap.size := (by have := hz_w2; first | omega | (simp at this; omega))); (try have hyw0_w2 := Nat.le_of_lt hzw0_w2); (try have hzw1_w2 : w.heap.size + 1 < w2.heap.size := (by have := hz_w2; first | omega | (simp at this; omega))); (try have hyw1_w2 := Nat.le_of_lt hzw1_w2); (try have hzw2_w2 : w.heap.size + 1 + 1 < w2.heap.size := (by have := hz_w2; first | omega | (simp at this; omega))); (try have hyw2_w2 := Nat.le_of_lt hzw2_w2)
    have hz2 := hb2.size
    go_wp2_with fail
    with_reducible refine (wcmp_c _ _ _ _ _).mono ?_
    rintro e w3 ⟨rfl, hb3⟩
    obtain ⟨hc_w3, hf_w3, hz_w3⟩ := kept hb3; (try simp only [World.size_drew] at hc_w3 hf_w3 hz_w3); (try have hzw0_w3 : w.heap.size < w3.heap.size := (by have := hz_w3; first | omega | (simp at this; omega))); (try have hyw0_w3 := Nat.le_of_lt hzw0_w3); (try have hzw1_w3 : w.heap.size + 1 < w3.heap.size := (by have := hz_w3; first | omega | (simp at this; omega))); (try have hyw1_w3 := Nat.le_of_lt hzw1_w3); (try have hzw2_w3 : w.heap.size + 1 + 1 < w3.heap.size := (by have := hz_w3; first | omega | (simp at this; omega))); (try have hyw2_w3 := Nat.le_of_lt hzw2_w3)
    have hz3 := hb3.size
    go_wp2_with fail
    with_reducible refine (wcmp_c _ _ _ _ _).mono ?_
    rintro e w4 ⟨rfl, hb4⟩
    obtain ⟨hc_w4, hf_w4, hz_w4⟩ := kept hb4; (try simp only [World.size_drew] at hc_w4 hf_w4 hz_w4); (try have hzw0_w4 : w.heap.size < w4.heap.size := (by have := hz_w4; first | omega | (simp at this; omega))); (try have hyw0_w4 := Nat.le_of_lt hzw0_w4); (try have hzw1_w4 : w.heap.size + 1 < w4.heap.size := (by have := hz_w4; first | omega | (simp at this; omega))); (try have hyw1_w4 := Nat.le_of_lt hzw1_w4); (try have hzw2_w4 : w.heap.size + 1 + 1 < w4.heap.size := (by have := hz_w4; first | omega | (simp at this; omega))); (try have hyw2_w4 := Nat.le_of_lt hzw2_w4)
    have hz4 := hb4.size
    go_wp2_with fail
    with_reducible refine (wcmp_c _ _ _ _ _).mono ?_
    rintro e w5 ⟨rfl, hb5⟩
    obtain ⟨hc_w5, hf_w5, hz_w5⟩ := kept hb5; (try simp only [World.size_drew] at hc_w5 hf_w5 hz_w5); (try have hzw0_w5 : w.heap.size < w5.heap.size := (by have := hz_w5; first | omega | (simp at this; omega))); (try have hyw0_w5 := Nat.le_of_lt hzw0_w5); (try have hzw1_w5 : w.heap.size + 1 < w5.heap.size := (by have := hz_w5; first | omega | (simp at this; omega))); (try have hyw1_w5 := Nat.le_of_lt hzw1_w5); (try have hzw2_w5 : w.heap.size + 1 + 1 < w5.heap.size := (by have := hz_w5; first | omega | (simp at this; omega))); (try have hyw2_w5 := Nat.le_of_lt hzw2_w5)
    have hz5 := hb5.size
    go_wp2_with fail
    refine (wadd_c _ _ _ _ (by omega) (by omega) (by omega) (by omega) (by omega) (by omega) (by omega) (by omega) _).mono ?_
    rintro e wa ⟨rfl, hba⟩
    obtain ⟨hc_wa, hf_wa, hz_wa⟩ := kept hba; (try simp only [World.size_drew] at hc_wa hf_wa hz_wa); (try have hzw0_wa : w.heap.size < wa.heap.size := (by have := hz_wa; first | omega | (simp at this; omega))); (try have hyw0_wa := Nat.le_of_lt hzw0_wa); (try have hzw1_wa : w.heap.size + 1 < wa.heap.size := (by have := hz_wa; first | omega | (simp at this; omega))); (try have hyw1_wa := Nat.le_of_lt hzw1_wa); (try have hzw2_wa : w.heap.size + 1 + 1 < wa.heap.size := (by have := hz_wa; first | omega | (simp at this; omega))); (try have hyw2_wa := Nat.le_of_lt hzw2_wa)
    have hza := hba.size
    go_wp2_with fail
    refine (wadd_c _ _ _ _ (by omega) (by omega) (by omega) (by omega) (by omega) (by omega) (by omega) (by omega) _).mono ?_
    rintro e wb ⟨rfl, hbb⟩
    obtain ⟨hc_wb, hf_wb, hz_wb⟩ := kept hbb; (try simp only [World.size_drew] at hc_wb hf_wb hz_wb); (try have hzw0_wb : w.heap.size < wb.heap.size := (by have := hz_wb; first | omega | (simp at this; omega))); (try have hyw0_wb := Nat.le_of_lt hzw0_wb); (try have hzw1_wb : w.heap.size + 1 < wb.heap.size := (by have := hz_wb; first | omega | (simp at this; omega))); (try have hyw1_wb := Nat.le_of_lt hzw1_wb); (try have hzw2_wb : w.heap.size + 1 + 1 < wb.heap.size := (by have := hz_wb; first | omega | (simp at this; omega))); (try have hyw2_wb := Nat.le_of_lt hzw2_wb); (try have hzwa0_wb : wa.heap.size < wb.heap.size := (by have := hz_wb; first | omega | (simp at this; omega))); (try have hywa0_wb := Nat.le_of_lt hzwa0_wb)
    have hzb := hbb.size
    simp only [World.size_alloc] at hzb
    go_wp2_with fail
    with_reducible refine (wcmp_c _ _ _ _ _).mono ?_
    rintro e w6 ⟨rfl, hb6⟩
    obtain ⟨hc_w6, hf_w6, hz_w6⟩ := kept hb6; (try simp only [World.size_drew] at hc_w6 hf_w6 hz_w6); (try have hzw0_w6 : w.heap.size < w6.heap.size := (by have := hz_w6; first | omega | (simp at this; omega))); (try have hyw0_w6 := Nat.le_of_lt hzw0_w6); (try have hzw1_w6 : w.heap.size + 1 < w6.heap.size := (by have := hz_w6; first | omega | (simp at this; omega))); (try have hyw1_w6 := Nat.le_of_lt hzw1_w6); (try have hzw2_w6 : w.heap.size + 1 + 1 < w6.heap.size := (by have := hz_w6; first | omega | (simp at this; omega))); (try have hyw2_w6 := Nat.le_of_lt hzw2_w6); (try have hzwa0_w6 : wa.heap.size < w6.heap.size := (by have := hz_w6; first | omega | (simp at this; omega))); (try have hywa0_w6 := Nat.le_of_lt hzwa0_w6); (try have hzwb0_w6 : wb.heap.size < w6.heap.size := (by have := hz_w6; first | omega | (simp at this; omega))); (try have hywb0_w6 := Nat.le_of_lt hzwb0_w6)
    have hz6 := hb6.size
    simp only [World.size_alloc] at hz6
    go_wp2_with fail
    all_goals
      first
        | (exfalso; omega)
        | (go_ret; exact ⟨by first | rfl | (simp; done) | (simp; omega), by (repeat' (first | (with_reducible exact Below.refl _ _) | (with_reducible assumption) | (with_reducible refine Below.alloc ?_ ?_ _) | (with_reducible refine Below.drew ?_) | (with_reducible refine Below_drewN ?_ _) | (with_reducible refine Below.setCell ?_ ?_ _) | (refine Below.step (B' := ?_) (b := ?_) ?_ ?_ ?_; rotate_left 2; (with_reducible assumption)) | go_size))⟩)
  · clear q3
    go_enter Try.func12, Try.ntmps12
    go_wp2_with fail
    with_reducible refine (awake2 _).mono ?_
    rintro e w1 ⟨rfl, hb1⟩
    obtain ⟨hc_w1, hf_w1, hz_w1⟩ := kept hb1; (try simp only [World.size_drew] at hc_w1 hf_w1 hz_w1); (try have hzw0_w1 : w.heap.size < w1.heap.size := (by have := hz_w1; first | omega | (simp at this; omega))); (try have hyw0_w1 := Nat.le_of_lt hzw0_w1); (try have hzw1_w1 : w.heap.size + 1 < w1.heap.size := (by have := hz_w1; first | omega | (simp at this; omega))); (try have hyw1_w1 := Nat.le_of_lt hzw1_w1); (try have hzw2_w1 : w.heap.size + 1 + 1 < w1.heap.size := (by have := hz_w1; first | omega | (simp at this; omega))); (try have hyw2_w1 := Nat.le_of_lt hzw2_w1)
    have hz1 := hb1.size
    simp only [World.size_alloc] at hz1
    go_wp2_with fail
    with_reducible refine (wcmp_c _ _ _ _ _).mono ?_
    rintro e w2 ⟨rfl, hb2⟩
    obtain ⟨hc_w2, hf_w2, hz_w2⟩ := kept hb2; (try simp only [World.size_drew] at hc_w2 hf_w2 hz_w2); (try have hzw0_w2 : w.heap.size < w2.heap.size := (by have := hz_w2; first | omega | (simp at this; omega))); (try have hyw0_w2 := Nat.le_of_lt hzw0_w2); (try have hzw1_w2 : w.heap.size + 1 < w2.heap.size := (by have := hz_w2; first | omega | (simp at this; omega))); (try have hyw1_w2 := Nat.le_of_lt hzw1_w2); (try have hzw2_w2 : w.heap.size + 1 + 1 < w2.heap.size := (by have := hz_w2; first | omega | (simp at this; omega))); (try have hyw2_w2 := Nat.le_of_lt hzw2_w2)
    have hz2 := hb2.size
    go_wp2_with fail
    with_reducible refine (wcmp_c _ _ _ _ _).mono ?_
    rintro e w3 ⟨rfl, hb3⟩
    obtain ⟨hc_w3, hf_w3, hz_w3⟩ := kept hb3; (try simp only [World.size_drew] at hc_w3 hf_w3 hz_w3); (try have hzw0_w3 : w.heap.size < w3.heap.size := (by have := hz_w3; first | omega | (simp at this; omega))); (try have hyw0_w3 := Nat.le_of_lt hzw0_w3); (try have hzw1_w3 : w.heap.size + 1 < w3.heap.size := (by have := hz_w3; first | omega | (simp at this; omega))); (try have hyw1_w3 := Nat.le_of_lt hzw1_w3); (try have hzw2_w3 : w.heap.size + 1 + 1 < w3.heap.size := (by have := hz_w3; first | omega | (simp at this; omega))); (try have hyw2_w3 := Nat.le_of_lt hzw2_w3)
    have hz3 := hb3.size
    go_wp2_with fail
    with_reducible refine (wcmp_c _ _ _ _ _).mono ?_
    rintro e w4 ⟨rfl, hb4⟩
    obtain ⟨hc_w4, hf_w4, hz_w4⟩ := kept hb4; (try simp only [World.size_drew] at hc_w4 hf_w4 hz_w4); (try have hzw0_w4 : w.heap.size < w4.heap.size := (by have := hz_w4; first | omega | (simp at this; omega))); (try have hyw0_w4 := Nat.le_of_lt hzw0_w4); (try have hzw1_w4 : w.heap.size + 1 < w4.heap.size := (by have := hz_w4; first | omega | (simp at this; omega))); (try have hyw1_w4 := Nat.le_of_lt hzw1_w4); (try have hzw2_w4 : w.heap.size + 1 + 1 < w4.heap.size := (by have := hz_w4; first | omega | (simp at this; omega))); (try have hyw2_w4 := Nat.le_of_lt hzw2_w4)
    have hz4 := hb4.size
    go_wp2_with fail
    with_reducible refine (wcmp_c _ _ _ _ _).mono ?_
    rintro e w5 ⟨rfl, hb5⟩
    obtain ⟨hc_w5, hf_w5, hz_w5⟩ := kept hb5; (try simp only [World.size_drew] at hc_w5 hf_w5 hz_w5); (try have hzw0_w5 : w.heap.size < w5.heap.size := (by have := hz_w5; first | omega | (simp at this; omega))); (try have hyw0_w5 := Nat.le_of_lt hzw0_w5); (try have hzw1_w5 : w.heap.size + 1 < w5.heap.size := (by have := hz_w5; first | omega | (simp at this; omega))); (try have hyw1_w5 := Nat.le_of_lt hzw1_w5); (try have hzw2_w5 : w.heap.size + 1 + 1 < w5.heap.size := (by have := hz_w5; first | omega | (simp at this; omega))); (try have hyw2_w5 := Nat.le_of_lt hzw2_w5)
    have hz5 := hb5.size
    go_wp2_with fail
    refine (wadd_c _ _ _ _ (by omega) (by omega) (by omega) (by omega) (by omega) (by omega) (by omega) (by omega) _).mono ?_
    rintro e wa ⟨rfl, hba⟩
    obtain ⟨hc_wa, hf_wa, hz_wa⟩ := kept hba; (try simp only [World.size_drew] at hc_wa hf_wa hz_wa); (try have hzw0_wa : w.heap.size < wa.heap.size := (by have := hz_wa; first | omega | (simp at this; omega))); (try have hyw0_wa := Nat.le_of_lt hzw0_wa); (try have hzw1_wa : w.heap.size + 1 < wa.heap.size := (by have := hz_wa; first | omega | (simp at this; omega))); (try have hyw1_wa := Nat.le_of_lt hzw1_wa); (try have hzw2_wa : w.heap.size + 1 + 1 < wa.heap.size := (by have := hz_wa; first | omega | (simp at this; omega))); (try have hyw2_wa := Nat.le_of_lt hzw2_wa)
    have hza := hba.size
    go_wp2_with fail
    refine (wadd_c _ _ _ _ (by omega) (by omega) (by omega) (by omega) (by omega) (by omega) (by omega) (by omega) _).mono ?_
    rintro e wb ⟨rfl, hbb⟩
    obtain ⟨hc_wb, hf_wb, hz_wb⟩ := kept hbb; (try simp only [World.size_drew] at hc_wb hf_wb hz_wb); (try have hzw0_wb : w.heap.size < wb.heap.size := (by have := hz_wb; first | omega | (simp at this; omega))); (try have hyw0_wb := Nat.le_of_lt hzw0_wb); (try have hzw1_wb : w.heap.size + 1 < wb.heap.size := (by have := hz_wb; first | omega | (simp at this; omega))); (try have hyw1_wb := Nat.le_of_lt hzw1_wb); (try have hzw2_wb : w.heap.size + 1 + 1 < wb.heap.size := (by have := hz_wb; first | omega | (simp at this; omega))); (try have hyw2_wb := Nat.le_of_lt hzw2_wb); (try have hzwa0_wb : wa.heap.size < wb.heap.size := (by have := hz_wb; first | omega | (simp at this; omega))); (try have hywa0_wb := Nat.le_of_lt hzwa0_wb)
    have hzb := hbb.size
    simp only [World.size_alloc] at hzb
    go_wp2_with fail
    with_reducible refine (wcmp_c _ _ _ _ _).mono ?_
    rintro e w6 ⟨rfl, hb6⟩
    obtain ⟨hc_w6, hf_w6, hz_w6⟩ := kept hb6; (try simp only [World.size_drew] at hc_w6 hf_w6 hz_w6); (try have hzw0_w6 : w.heap.size < w6.heap.size := (by have := hz_w6; first | omega | (simp at this; omega))); (try have hyw0_w6 := Nat.le_of_lt hzw0_w6); (try have hzw1_w6 : w.heap.size + 1 < w6.heap.size := (by have := hz_w6; first | omega | (simp at this; omega))); (try have hyw1_w6 := Nat.le_of_lt hzw1_w6); (try have hzw2_w6 : w.heap.size + 1 + 1 < w6.heap.size := (by have := hz_w6; first | omega | (simp at this; omega))); (try have hyw2_w6 := Nat.le_of_lt hzw2_w6); (try have hzwa0_w6 : wa.heap.size < w6.heap.size := (by have := hz_w6; first | omega | (simp at this; omega))); (try have hywa0_w6 := Nat.le_of_lt hzwa0_w6); (try have hzwb0_w6 : wb.heap.size < w6.heap.size := (by have := hz_w6; first | omega | (simp at this; omega))); (try have hywb0_w6 := Nat.le_of_lt hzwb0_w6)
    have hz6 := hb6.size
    simp only [World.size_alloc] at hz6
    go_wp2_with fail
    all_goals
      first
        | (exfalso; omega)
        | (go_ret; exact ⟨by first | rfl | (simp; done) | (simp; omega), by (repeat' (first | (with_reducible exact Below.refl _ _) | (with_reducible assumption) | (with_reducible refine Below.alloc ?_ ?_ _) | (with_reducible refine Below.drew ?_) | (with_reducible refine Below_drewN ?_ _) | (with_reducible refine Below.setCell ?_ ?_ _) | (refine Below.step (B' := ?_) (b := ?_) ?_ ?_ ?_; rotate_left 2; (with_reducible assumption)) | go_size))⟩)
  · have q6 := q3 o1 o2
    clear q3
    go_enter Try.func12, Try.ntmps12
    go_wp2_with fail
    with_reducible refine (awake2 _).mono ?_
    rintro e w1 ⟨rfl, hb1⟩
    obtain ⟨hc_w1, hf_w1, hz_w1⟩ := kept hb1; (try simp only [World.size_drew] at hc_w1 hf_w1 hz_w1); (try have hzw0_w1 : w.heap.size < w1.heap.size := (by have := hz_w1; first | omega | (simp at this; omega))); (try have hyw0_w1 := Nat.le_of_lt hzw0_w1); (try have hzw1_w1 : w.heap.size + 1 < w1.heap.size := (by have := hz_w1; first | omega | (simp at this; omega))); (try have hyw1_w1 := Nat.le_of_lt hzw1_w1); (try have hzw2_w1 : w.heap.size + 1 + 1 < w1.heap.size := (by have := hz_w1; first | omega | (simp at this; omega))); (try have hyw2_w1 := Nat.le_of_lt hzw2_w1)
    have hz1 := hb1.size
    simp only [World.size_alloc] at hz1
    go_wp2_with fail
    with_reducible refine (wcmp_c _ _ _ _ _).mono ?_
    rintro e w2 ⟨rfl, hb2⟩
    obtain ⟨hc_w2, hf_w2, hz_w2⟩ := kept hb2; (try simp only [World.size_drew] at hc_w2 hf_w2 hz_w2); (try have hzw0_w2 : w.heap.size < w2.heap.size := (by have := hz_w2; first | omega | (simp at this; omega))); (try have hyw0_w2 := Nat.le_of_lt hzw0_w2); (try have hzw1_w2 : w.heap.size + 1 < w2.heap.size := (by have := hz_w2; first | omega | (simp at this; omega))); (try have hyw1_w2 := Nat.le_of_lt hzw1_w2); (try have hzw2_w2 : w.heap.size + 1 + 1 < w2.heap.size := (by have := hz_w2; first | omega | (simp at this; omega))); (try have hyw2_w2 := Nat.le_of_lt hzw2_w2)
    have hz2 := hb2.size
    go_wp2_with fail
    with_reducible refine (wcmp_c _ _ _ _ _).mono ?_
    rintro e w3 ⟨rfl, hb3⟩
    obtain ⟨hc_w3, hf_w3, hz_w3⟩ := kept hb3; (try simp only [World.size_drew] at hc_w3 hf_w3 hz_w3); (try have hzw0_w3 : w.heap.size < w3.heap.size := (by have := hz_w3; first | omega | (simp at this; omega))); (try have hyw0_w3 := Nat.le_of_lt hzw0_w3); (try have hzw1_w3 : w.heap.size + 1 < w3.heap.size := (by have := hz_w3; first | omega | (simp at this; omega))); (try have hyw1_w3 := Nat.le_of_lt hzw1_w3); (try have hzw2_w3 : w.heap.size + 1 + 1 < w3.heap.size := (by have := hz_w3; first | omega | (simp at this; omega))); (try have hyw2_w3 := Nat.le_of_lt hzw2_w3)
    have hz3 := hb3.size
    go_wp2_with fail
    with_reducible refine (wcmp_c _ _ _ _ _).mono ?_
    rintro e w4 ⟨rfl, hb4⟩
    obtain ⟨hc_w4, hf_w4, hz_w4⟩ := kept hb4; (try simp only [World.size_drew] at hc_w4 hf_w4 hz_w4); (try have hzw0_w4 : w.heap.size < w4.heap.size := (by have := hz_w4; first | omega | (simp at this; omega))); (try have hyw0_w4 := Nat.le_of_lt hzw0_w4); (try have hzw1_w4 : w.heap.size + 1 < w4.heap.size := (by have := hz_w4; first | omega | (simp at this; omega))); (try have hyw1_w4 := Nat.le_of_lt hzw1_w4); (try have hzw2_w4 : w.heap.size + 1 + 1 < w4.heap.size := (by have := hz_w4; first | omega | (simp at this; omega))); (try have hyw2_w4 := Nat.le_of_lt hzw2_w4)
    have hz4 := hb4.size
    go_wp2_with fail
    with_reducible refine (wcmp_c _ _ _ _ _).mono ?_
    rintro e w5 ⟨rfl, hb5⟩
    obtain ⟨hc_w5, hf_w5, hz_w5⟩ := kept hb5; (try simp only [World.size_drew] at hc_w5 hf_w5 hz_w5); (try have hzw0_w5 : w.heap.size < w5.heap.size := (by have := hz_w5; first | omega | (simp at this; omega))); (try have hyw0_w5 := Nat.le_of_lt hzw0_w5); (try have hzw1_w5 : w.heap.size + 1 < w5.heap.size := (by have := hz_w5; first | omega | (simp at this; omega))); (try have hyw1_w5 := Nat.le_of_lt hzw1_w5); (try have hzw2_w5 : w.heap.size + 1 + 1 < w5.heap.size := (by have := hz_w5; first | omega | (simp at this; omega))); (try have hyw2_w5 := Nat.le_of_lt hzw2_w5)
    have hz5 := hb5.size
    go_wp2_with fail
    refine (wadd_c _ _ _ _ (by omega) (by omega) (by omega) (by omega) (by omega) (by omega) (by omega) (by omega) _).mono ?_
    rintro e wa ⟨rfl, hba⟩
    obtain ⟨hc_wa, hf_wa, hz_wa⟩ := kept hba; (try simp only [World.size_drew] at hc_wa hf_wa hz_wa); (try have hzw0_wa : w.heap.size < wa.heap.size := (by have := hz_wa; first | omega | (simp at this; omega))); (try have hyw0_wa := Nat.le_of_lt hzw0_wa); (try have hzw1_wa : w.heap.size + 1 < wa.heap.size := (by have := hz_wa; first | omega | (simp at this; omega))); (try have hyw1_wa := Nat.le_of_lt hzw1_wa); (try have hzw2_wa : w.heap.size + 1 + 1 < wa.heap.size := (by have := hz_wa; first | omega | (simp at this; omega))); (try have hyw2_wa := Nat.le_of_lt hzw2_wa)
    have hza := hba.size
    go_wp2_with fail
    refine (wadd_c _ _ _ _ (by omega) (by omega) (by omega) (by omega) (by omega) (by omega) (by omega) (by omega) _).mono ?_
    rintro e wb ⟨rfl, hbb⟩
    obtain ⟨hc_wb, hf_wb, hz_wb⟩ := kept hbb; (try simp only [World.size_drew] at hc_wb hf_wb hz_wb); (try have hzw0_wb : w.heap.size < wb.heap.size := (by have := hz_wb; first | omega | (simp at this; omega))); (try have hyw0_wb := Nat.le_of_lt hzw0_wb); (try have hzw1_wb : w.heap.size + 1 < wb.heap.size := (by have := hz_wb; first | omega | (simp at this; omega))); (try have hyw1_wb := Nat.le_of_lt hzw1_wb); (try have hzw2_wb : w.heap.size + 1 + 1 < wb.heap.size := (by have := hz_wb; first | omega | (simp at this; omega))); (try have hyw2_wb := Nat.le_of_lt hzw2_wb); (try have hzwa0_wb : wa.heap.size < wb.heap.size := (by have := hz_wb; first | omega | (simp at this; omega))); (try have hywa0_wb := Nat.le_of_lt hzwa0_wb)
    have hzb := hbb.size
    simp only [World.size_alloc] at hzb
    go_wp2_with fail
    with_reducible refine (wcmp_c _ _ _ _ _).mono ?_
    rintro e w6 ⟨rfl, hb6⟩
    obtain ⟨hc_w6, hf_w6, hz_w6⟩ := kept hb6; (try simp only [World.size_drew] at hc_w6 hf_w6 hz_w6); (try have hzw0_w6 : w.heap.size < w6.heap.size := (by have := hz_w6; first | omega | (simp at this; omega))); (try have hyw0_w6 := Nat.le_of_lt hzw0_w6); (try have hzw1_w6 : w.heap.size + 1 < w6.heap.size := (by have := hz_w6; first | omega | (simp at this; omega))); (try have hyw1_w6 := Nat.le_of_lt hzw1_w6); (try have hzw2_w6 : w.heap.size + 1 + 1 < w6.heap.size := (by have := hz_w6; first | omega | (simp at this; omega))); (try have hyw2_w6 := Nat.le_of_lt hzw2_w6); (try have hzwa0_w6 : wa.heap.size < w6.heap.size := (by have := hz_w6; first | omega | (simp at this; omega))); (try have hywa0_w6 := Nat.le_of_lt hzwa0_w6); (try have hzwb0_w6 : wb.heap.size < w6.heap.size := (by have := hz_w6; first | omega | (simp at this; omega))); (try have hywb0_w6 := Nat.le_of_lt hzwb0_w6)
    have hz6 := hb6.size
    simp only [World.size_alloc] at hz6
    go_wp2_with fail
    with_reducible refine (wcmp_c _ _ _ _ _).mono ?_
    rintro e w7 ⟨rfl, hb7⟩
    obtain ⟨hc_w7, hf_w7, hz_w7⟩ := kept hb7; (try simp only [World.size_drew] at hc_w7 hf_w7 hz_w7); (try have hzw0_w7 : w.heap.size < w7.heap.size := (by have := hz_w7; first | omega | (simp at this; omega))); (try have hyw0_w7 := Nat.le_of_lt hzw0_w7); (try have hzw1_w7 : w.heap.size + 1 < w7.heap.size := (by have := hz_w7; first | omega | (simp at this; omega))); (try have hyw1_w7 := Nat.le_of_lt hzw1_w7); (try have hzw2_w7 : w.heap.size + 1 + 1 < w7.heap.size := (by have := hz_w7; first | omega | (simp at this; omega))); (try have hyw2_w7 := Nat.le_of_lt hzw2_w7); (try have hzwa0_w7 : wa.heap.size < w7.heap.size := (by have := hz_w7; first | omega | (simp at this; omega))); (try have hywa0_w7 := Nat.le_of_lt hzwa0_w7); (try have hzwb0_w7 : wb.heap.size < w7.heap.size := (by have := hz_w7; first | omega | (simp at this; omega))); (try have hywb0_w7 := Nat.le_of_lt hzwb0_w7)
    have hz7 := hb7.size
    go_wp2_with fail
    all_goals
      first
        | (exfalso; omega)
        | (go_ret; exact ⟨by first | rfl | (simp; done) | (simp; omega), by (repeat' (first | (with_reducible exact Below.refl _ _) | (with_reducible assumption) | (with_reducible refine Below.alloc ?_ ?_ _) | (with_reducible refine Below.drew ?_) | (with_reducible refine Below_drewN ?_ _) | (with_reducible refine Below.setCell ?_ ?_ _) | (refine Below.step (B' := ?_) (b := ?_) ?_ ?_ ?_; rotate_left 2; (with_reducible assumption)) | go_size))⟩)

set_option maxRecDepth 100000 in
set_option maxHeartbeats 4000000 in
theorem wo_gt2b (xh xl yl zh zl : Int) (h1 : 0 ≤ xh) (g1 : xh < 18446744073709551616) (h2 : 0 ≤ xl) (g2 : xl < 18446744073709551616) (h4 : 0 ≤ yl) (g4 : yl < 18446744073709551616) (h5 : 0 ≤ zh) (g5 : zh < 18446744073709551616) (h6 : 0 ≤ zl) (g6 : zl < 18446744073709551616) (hc : xh * 18446744073709551616 + yl < xh * 18446744073709551616 + xl) (hp : zh * 18446744073709551616 + zl < xh * 18446744073709551616 + yl) (he : (xl == yl) = false) (w : World) :
  Calls Try.prog 12 #[.agg #[.int .u64 xh, .int .u64 xl], .agg #[.int .u64 xh, .int .u64 yl], .agg #[.int .u64 zh, .int .u64 zl]] w fun e w' => e = .returned (.bool true) ∧ Below w.heap.size w w' := by
  have q1 : cmpW xh xl xh yl = 1 := by rw [cmpW_cw _ _ _ _ h2 g2 h4 g4]; exact cw_gt hc
  have q2 : cmpW xh yl xh xl = -1 := by rw [cmpW_cw _ _ _ _ h4 g4 h2 g2]; exact cw_lt hc
  have q4 : cmpW xh yl zh zl = 1 := by rw [cmpW_cw _ _ _ _ h4 g4 h6 g6]; exact cw_gt hp
  have q5 : cmpW xh xl zh zl = 1 := by rw [cmpW_cw _ _ _ _ h2 g2 h6 g6]; exact cw_gt (by omega)
  have q3 : aOv xh xl zh zl = false → aOv xh yl zh zl = false → cmpW (aHi xh xl zh zl) (aLo xl zl) (aHi xh yl zh zl) (aLo yl zl) = 1 := fun o1 o2 => by
    obtain ⟨s1, s2, s3⟩ := sum_in xh xl zh zl h2 g2 h6 g6 h1 h5 o1
    obtain ⟨t1, t2, t3⟩ := sum_in xh yl zh zl h4 g4 h6 g6 h1 h5 o2
    rw [cmpW_cw _ _ _ _ s2 s3 t2 t3]; exact cw_gt (by omega)
  rcases (by cases aOv xh xl zh zl <;> cases aOv xh yl zh zl <;> simp : aOv xh xl zh zl = true ∨ aOv xh xl zh zl = false ∧ aOv xh yl zh zl = true ∨ aOv xh xl zh zl = false ∧ aOv xh yl zh zl = false) with o1 | ⟨o1, o2⟩ | ⟨o1, o2⟩
  · clear q3
    go_enter Try.func12, Try.ntmps12
    go_wp2_with fail
    with_reducible refine (awake2 _).mono ?_
    rintro e w1 ⟨rfl, hb1⟩
    obtain ⟨hc_w1, hf_w1, hz_w1⟩ := kept hb1; (try simp only [World.size_drew] at hc_w1 hf_w1 hz_w1); (try have hzw0_w1 : w.heap.size < w1.heap.size := (by have := hz_w1; first | omega | (simp at this; omega))); (try have hyw0_w1 := Nat.le_of_lt hzw0_w1); (try have hzw1_w1 : w.heap.size + 1 < w1.heap.size := (by have := hz_w1; first | omega | (simp at this; omega))); (try have hyw1_w1 := Nat.le_of_lt hzw1_w1); (try have hzw2_w1 : w.heap.size + 1 + 1 < w1.heap.size := (by have := hz_w1; first | omega | (simp at this; omega))); (try have hyw2_w1 := Nat.le_of_lt hzw2_w1)
    have hz1 := hb1.size
    simp only [World.size_alloc] at hz1
    go_wp2_with fail
    with_reducible refine (wcmp_c _ _ _ _ _).mono ?_
    rintro e w2 ⟨rfl, hb2⟩
    obtain ⟨hc_w2, hf_w2, hz_w2⟩ := kept hb2; (try simp only [World.size_drew] at hc_w2 hf_w2 hz_w2); (try have hzw0_w2 : w.heap.size < w2.heap.size := (by have := hz_w2; first | omega | (simp at this; omega))); (try have hyw0_w2 := Nat.le_of_lt hzw0_w2); (try have hzw1_w2 : w.heap.size + 1 < w2.heap.size := (by have := hz_w2; first | omega | (simp at this; omega))); (try have hyw1_w2 := Nat.le_of_lt hzw1_w2); (try have hzw2_w2 : w.heap.size + 1 + 1 < w2.heap.size := (by have := hz_w2; first | omega | (simp at this; omega))); (try have hyw2_w2 := Nat.le_of_lt hzw2_w2)
    have hz2 := hb2.size
    go_wp2_with fail
    with_reducible refine (wcmp_c _ _ _ _ _).mono ?_
    rintro e w3 ⟨rfl, hb3⟩
    obtain ⟨hc_w3, hf_w3, hz_w3⟩ := kept hb3; (try simp only [World.size_drew] at hc_w3 hf_w3 hz_w3); (try have hzw0_w3 : w.heap.size < w3.heap.size := (by have := hz_w3; first | omega | (simp at this; omega))); (try have hyw0_w3 := Nat.le_of_lt hzw0_w3); (try have hzw1_w3 : w.heap.size + 1 < w3.heap.size := (by have := hz_w3; first | omega | (simp at this; omega))); (try have hyw1_w3 := Nat.le_of_lt hzw1_w3); (try have hzw2_w3 : w.heap.size + 1 + 1 < w3.heap.size := (by have := hz_w3; first | omega | (simp at this; omega))); (try have hyw2_w3 := Nat.le_of_lt hzw2_w3)
    have hz3 := hb3.size
    go_wp2_with fail
    with_reducible refine (wcmp_c _ _ _ _ _).mono ?_
    rintro e w4 ⟨rfl, hb4⟩
    obtain ⟨hc_w4, hf_w4, hz_w4⟩ := kept hb4; (try simp only [World.size_drew] at hc_w4 hf_w4 hz_w4); (try have hzw0_w4 : w.heap.size < w4.heap.size := (by have := hz_w4; first | omega | (simp at this; omega))); (try have hyw0_w4 := Nat.le_of_lt hzw0_w4); (try have hzw1_w4 : w.heap.size + 1 < w4.heap.size := (by have := hz_w4; first | omega | (simp at this; omega))); (try have hyw1_w4 := Nat.le_of_lt hzw1_w4); (try have hzw2_w4 : w.heap.size + 1 + 1 < w4.heap.size := (by have := hz_w4; first | omega | (simp at this; omega))); (try have hyw2_w4 := Nat.le_of_lt hzw2_w4)
    have hz4 := hb4.size
    go_wp2_with fail
    with_reducible refine (wcmp_c _ _ _ _ _).mono ?_
    rintro e w5 ⟨rfl, hb5⟩
    obtain ⟨hc_w5, hf_w5, hz_w5⟩ := kept hb5; (try simp only [World.size_drew] at hc_w5 hf_w5 hz_w5); (try have hzw0_w5 : w.heap.size < w5.heap.size := (by have := hz_w5; first | omega | (simp at this; omega))); (try have hyw0_w5 := Nat.le_of_lt hzw0_w5); (try have hzw1_w5 : w.heap.size + 1 < w5.heap.size := (by have := hz_w5; first | omega | (simp at this; omega))); (try have hyw1_w5 := Nat.le_of_lt hzw1_w5); (try have hzw2_w5 : w.heap.size + 1 + 1 < w5.heap.size := (by have := hz_w5; first | omega | (simp at this; omega))); (try have hyw2_w5 := Nat.le_of_lt hzw2_w5)
    have hz5 := hb5.size
    go_wp2_with fail
    refine (wadd_c _ _ _ _ (by omega) (by omega) (by omega) (by omega) (by omega) (by omega) (by omega) (by omega) _).mono ?_
    rintro e wa ⟨rfl, hba⟩
    obtain ⟨hc_wa, hf_wa, hz_wa⟩ := kept hba; (try simp only [World.size_drew] at hc_wa hf_wa hz_wa); (try have hzw0_wa : w.heap.size < wa.heap.size := (by have := hz_wa; first | omega | (simp at this; omega))); (try have hyw0_wa := Nat.le_of_lt hzw0_wa); (try have hzw1_wa : w.heap.size + 1 < wa.heap.size := (by have := hz_wa; first | omega | (simp at this; omega))); (try have hyw1_wa := Nat.le_of_lt hzw1_wa); (try have hzw2_wa : w.heap.size + 1 + 1 < wa.heap.size := (by have := hz_wa; first | omega | (simp at this; omega))); (try have hyw2_wa := Nat.le_of_lt hzw2_wa)
    have hza := hba.size
    go_wp2_with fail
    refine (wadd_c _ _ _ _ (by omega) (by omega) (by omega) (by omega) (by omega) (by omega) (by omega) (by omega) _).mono ?_
    rintro e wb ⟨rfl, hbb⟩
    obtain ⟨hc_wb, hf_wb, hz_wb⟩ := kept hbb; (try simp only [World.size_drew] at hc_wb hf_wb hz_wb); (try have hzw0_wb : w.heap.size < wb.heap.size := (by have := hz_wb; first | omega | (simp at this; omega))); (try have hyw0_wb := Nat.le_of_lt hzw0_wb); (try have hzw1_wb : w.heap.size + 1 < wb.heap.size := (by have := hz_wb; first | omega | (simp at this; omega))); (try have hyw1_wb := Nat.le_of_lt hzw1_wb); (try have hzw2_wb : w.heap.size + 1 + 1 < wb.heap.size := (by have := hz_wb; first | omega | (simp at this; omega))); (try have hyw2_wb := Nat.le_of_lt hzw2_wb); (try have hzwa0_wb : wa.heap.size < wb.heap.size := (by have := hz_wb; first | omega | (simp at this; omega))); (try have hywa0_wb := Nat.le_of_lt hzwa0_wb)
    have hzb := hbb.size
    simp only [World.size_alloc] at hzb
    go_wp2_with fail
    with_reducible refine (wcmp_c _ _ _ _ _).mono ?_
    rintro e w6 ⟨rfl, hb6⟩
    obtain ⟨hc_w6, hf_w6, hz_w6⟩ := kept hb6; (try simp only [World.size_drew] at hc_w6 hf_w6 hz_w6); (try have hzw0_w6 : w.heap.size < w6.heap.size := (by have := hz_w6; first | omega | (simp at this; omega))); (try have hyw0_w6 := Nat.le_of_lt hzw0_w6); (try have hzw1_w6 : w.heap.size + 1 < w6.heap.size := (by have := hz_w6; first | omega | (simp at this; omega))); (try have hyw1_w6 := Nat.le_of_lt hzw1_w6); (try have hzw2_w6 : w.heap.size + 1 + 1 < w6.heap.size := (by have := hz_w6; first | omega | (simp at this; omega))); (try have hyw2_w6 := Nat.le_of_lt hzw2_w6); (try have hzwa0_w6 : wa.heap.size < w6.heap.size := (by have := hz_w6; first | omega | (simp at this; omega))); (try have hywa0_w6 := Nat.le_of_lt hzwa0_w6); (try have hzwb0_w6 : wb.heap.size < w6.heap.size := (by have := hz_w6; first | omega | (simp at this; omega))); (try have hywb0_w6 := Nat.le_of_lt hzwb0_w6)
    have hz6 := hb6.size
    simp only [World.size_alloc] at hz6
    go_wp2_with fail
    all_goals
      first
        | (exfalso; omega)
        | (go_ret; exact ⟨by first | rfl | (simp; done) | (simp; omega), by (repeat' (first | (with_reducible exact Below.refl _ _) | (with_reducible assumption) | (with_reducible refine Below.alloc ?_ ?_ _) | (with_reducible refine Below.drew ?_) | (with_reducible refine Below_drewN ?_ _) | (with_reducible refine Below.setCell ?_ ?_ _) | (refine Below.step (B' := ?_) (b := ?_) ?_ ?_ ?_; rotate_left 2; (with_reducible assumption)) | go_size))⟩)
  · clear q3
    go_enter Try.func12, Try.ntmps12
    go_wp2_with fail
    with_reducible refine (awake2 _).mono ?_
    rintro e w1 ⟨rfl, hb1⟩
    obtain ⟨hc_w1, hf_w1, hz_w1⟩ := kept hb1; (try simp only [World.size_drew] at hc_w1 hf_w1 hz_w1); (try have hzw0_w1 : w.heap.size < w1.heap.size := (by have := hz_w1; first | omega | (simp at this; omega))); (try have hyw0_w1 := Nat.le_of_lt hzw0_w1); (try have hzw1_w1 : w.heap.size + 1 < w1.heap.size := (by have := hz_w1; first | omega | (simp at this; omega))); (try have hyw1_w1 := Nat.le_of_lt hzw1_w1); (try have hzw2_w1 : w.heap.size + 1 + 1 < w1.heap.size := (by have := hz_w1; first | omega | (simp at this; omega))); (try have hyw2_w1 := Nat.le_of_lt hzw2_w1)
    have hz1 := hb1.size
    simp only [World.size_alloc] at hz1
    go_wp2_with fail
    with_reducible refine (wcmp_c _ _ _ _ _).mono ?_
    rintro e w2 ⟨rfl, hb2⟩
    obtain ⟨hc_w2, hf_w2, hz_w2⟩ := kept hb2; (try simp only [World.size_drew] at hc_w2 hf_w2 hz_w2); (try have hzw0_w2 : w.heap.size < w2.heap.size := (by have := hz_w2; first | omega | (simp at this; omega))); (try have hyw0_w2 := Nat.le_of_lt hzw0_w2); (try have hzw1_w2 : w.heap.size + 1 < w2.heap.size := (by have := hz_w2; first | omega | (simp at this; omega))); (try have hyw1_w2 := Nat.le_of_lt hzw1_w2); (try have hzw2_w2 : w.heap.size + 1 + 1 < w2.heap.size := (by have := hz_w2; first | omega | (simp at this; omega))); (try have hyw2_w2 := Nat.le_of_lt hzw2_w2)
    have hz2 := hb2.size
    go_wp2_with fail
    with_reducible refine (wcmp_c _ _ _ _ _).mono ?_
    rintro e w3 ⟨rfl, hb3⟩
    obtain ⟨hc_w3, hf_w3, hz_w3⟩ := kept hb3; (try simp only [World.size_drew] at hc_w3 hf_w3 hz_w3); (try have hzw0_w3 : w.heap.size < w3.heap.size := (by have := hz_w3; first | omega | (simp at this; omega))); (try have hyw0_w3 := Nat.le_of_lt hzw0_w3); (try have hzw1_w3 : w.heap.size + 1 < w3.heap.size := (by have := hz_w3; first | omega | (simp at this; omega))); (try have hyw1_w3 := Nat.le_of_lt hzw1_w3); (try have hzw2_w3 : w.heap.size + 1 + 1 < w3.heap.size := (by have := hz_w3; first | omega | (simp at this; omega))); (try have hyw2_w3 := Nat.le_of_lt hzw2_w3)
    have hz3 := hb3.size
    go_wp2_with fail
    with_reducible refine (wcmp_c _ _ _ _ _).mono ?_
    rintro e w4 ⟨rfl, hb4⟩
    obtain ⟨hc_w4, hf_w4, hz_w4⟩ := kept hb4; (try simp only [World.size_drew] at hc_w4 hf_w4 hz_w4); (try have hzw0_w4 : w.heap.size < w4.heap.size := (by have := hz_w4; first | omega | (simp at this; omega))); (try have hyw0_w4 := Nat.le_of_lt hzw0_w4); (try have hzw1_w4 : w.heap.size + 1 < w4.heap.size := (by have := hz_w4; first | omega | (simp at this; omega))); (try have hyw1_w4 := Nat.le_of_lt hzw1_w4); (try have hzw2_w4 : w.heap.size + 1 + 1 < w4.heap.size := (by have := hz_w4; first | omega | (simp at this; omega))); (try have hyw2_w4 := Nat.le_of_lt hzw2_w4)
    have hz4 := hb4.size
    go_wp2_with fail
    with_reducible refine (wcmp_c _ _ _ _ _).mono ?_
    rintro e w5 ⟨rfl, hb5⟩
    obtain ⟨hc_w5, hf_w5, hz_w5⟩ := kept hb5; (try simp only [World.size_drew] at hc_w5 hf_w5 hz_w5); (try have hzw0_w5 : w.heap.size < w5.heap.size := (by have := hz_w5; first | omega | (simp at this; omega))); (try have hyw0_w5 := Nat.le_of_lt hzw0_w5); (try have hzw1_w5 : w.heap.size + 1 < w5.heap.size := (by have := hz_w5; first | omega | (simp at this; omega))); (try have hyw1_w5 := Nat.le_of_lt hzw1_w5); (try have hzw2_w5 : w.heap.size + 1 + 1 < w5.heap.size := (by have := hz_w5; first | omega | (simp at this; omega))); (try have hyw2_w5 := Nat.le_of_lt hzw2_w5)
    have hz5 := hb5.size
    go_wp2_with fail
    refine (wadd_c _ _ _ _ (by omega) (by omega) (by omega) (by omega) (by omega) (by omega) (by omega) (by omega) _).mono ?_
    rintro e wa ⟨rfl, hba⟩
    obtain ⟨hc_wa, hf_wa, hz_wa⟩ := kept hba; (try simp only [World.size_drew] at hc_wa hf_wa hz_wa); (try have hzw0_wa : w.heap.size < wa.heap.size := (by have := hz_wa; first | omega | (simp at this; omega))); (try have hyw0_wa := Nat.le_of_lt hzw0_wa); (try have hzw1_wa : w.heap.size + 1 < wa.heap.size := (by have := hz_wa; first | omega | (simp at this; omega))); (try have hyw1_wa := Nat.le_of_lt hzw1_wa); (try have hzw2_wa : w.heap.size + 1 + 1 < wa.heap.size := (by have := hz_wa; first | omega | (simp at this; omega))); (try have hyw2_wa := Nat.le_of_lt hzw2_wa)
    have hza := hba.size
    go_wp2_with fail
    refine (wadd_c _ _ _ _ (by omega) (by omega) (by omega) (by omega) (by omega) (by omega) (by omega) (by omega) _).mono ?_
    rintro e wb ⟨rfl, hbb⟩
    obtain ⟨hc_wb, hf_wb, hz_wb⟩ := kept hbb; (try simp only [World.size_drew] at hc_wb hf_wb hz_wb); (try have hzw0_wb : w.heap.size < wb.heap.size := (by have := hz_wb; first | omega | (simp at this; omega))); (try have hyw0_wb := Nat.le_of_lt hzw0_wb); (try have hzw1_wb : w.heap.size + 1 < wb.heap.size := (by have := hz_wb; first | omega | (simp at this; omega))); (try have hyw1_wb := Nat.le_of_lt hzw1_wb); (try have hzw2_wb : w.heap.size + 1 + 1 < wb.heap.size := (by have := hz_wb; first | omega | (simp at this; omega))); (try have hyw2_wb := Nat.le_of_lt hzw2_wb); (try have hzwa0_wb : wa.heap.size < wb.heap.size := (by have := hz_wb; first | omega | (simp at this; omega))); (try have hywa0_wb := Nat.le_of_lt hzwa0_wb)
    have hzb := hbb.size
    simp only [World.size_alloc] at hzb
    go_wp2_with fail
    with_reducible refine (wcmp_c _ _ _ _ _).mono ?_
    rintro e w6 ⟨rfl, hb6⟩
    obtain ⟨hc_w6, hf_w6, hz_w6⟩ := kept hb6; (try simp only [World.size_drew] at hc_w6 hf_w6 hz_w6); (try have hzw0_w6 : w.heap.size < w6.heap.size := (by have := hz_w6; first | omega | (simp at this; omega))); (try have hyw0_w6 := Nat.le_of_lt hzw0_w6); (try have hzw1_w6 : w.heap.size + 1 < w6.heap.size := (by have := hz_w6; first | omega | (simp at this; omega))); (try have hyw1_w6 := Nat.le_of_lt hzw1_w6); (try have hzw2_w6 : w.heap.size + 1 + 1 < w6.heap.size := (by have := hz_w6; first | omega | (simp at this; omega))); (try have hyw2_w6 := Nat.le_of_lt hzw2_w6); (try have hzwa0_w6 : wa.heap.size < w6.heap.size := (by have := hz_w6; first | omega | (simp at this; omega))); (try have hywa0_w6 := Nat.le_of_lt hzwa0_w6); (try have hzwb0_w6 : wb.heap.size < w6.heap.size := (by have := hz_w6; first | omega | (simp at this; omega))); (try have hywb0_w6 := Nat.le_of_lt hzwb0_w6)
    have hz6 := hb6.size
    simp only [World.size_alloc] at hz6
    go_wp2_with fail
    all_goals
      first
        | (exfalso; omega)
        | (go_ret; exact ⟨by first | rfl | (simp; done) | (simp; omega), by (repeat' (first | (with_reducible exact Below.refl _ _) | (with_reducible assumption) | (with_reducible refine Below.alloc ?_ ?_ _) | (with_reducible refine Below.drew ?_) | (with_reducible refine Below_drewN ?_ _) | (with_reducible refine Below.setCell ?_ ?_ _) | (refine Below.step (B' := ?_) (b := ?_) ?_ ?_ ?_; rotate_left 2; (with_reducible assumption)) | go_size))⟩)
  · have q6 := q3 o1 o2
    clear q3
    go_enter Try.func12, Try.ntmps12
    go_wp2_with fail
    with_reducible refine (awake2 _).mono ?_
    rintro e w1 ⟨rfl, hb1⟩
    obtain ⟨hc_w1, hf_w1, hz_w1⟩ := kept hb1; (try simp only [World.size_drew] at hc_w1 hf_w1 hz_w1); (try have hzw0_w1 : w.heap.size < w1.heap.size := (by have := hz_w1; first | omega | (simp at this; omega))); (try have hyw0_w1 := Nat.le_of_lt hzw0_w1); (try have hzw1_w1 : w.heap.size + 1 < w1.heap.size := (by have := hz_w1; first | omega | (simp at this; omega))); (try have hyw1_w1 := Nat.le_of_lt hzw1_w1); (try have hzw2_w1 : w.heap.size + 1 + 1 < w1.heap.size := (by have := hz_w1; first | omega | (simp at this; omega))); (try have hyw2_w1 := Nat.le_of_lt hzw2_w1)
    have hz1 := hb1.size
    simp only [World.size_alloc] at hz1
    go_wp2_with fail
    with_reducible refine (wcmp_c _ _ _ _ _).mono ?_
    rintro e w2 ⟨rfl, hb2⟩
    obtain ⟨hc_w2, hf_w2, hz_w2⟩ := kept hb2; (try simp only [World.size_drew] at hc_w2 hf_w2 hz_w2); (try have hzw0_w2 : w.heap.size < w2.heap.size := (by have := hz_w2; first | omega | (simp at this; omega))); (try have hyw0_w2 := Nat.le_of_lt hzw0_w2); (try have hzw1_w2 : w.heap.size + 1 < w2.heap.size := (by have := hz_w2; first | omega | (simp at this; omega))); (try have hyw1_w2 := Nat.le_of_lt hzw1_w2); (try have hzw2_w2 : w.heap.size + 1 + 1 < w2.heap.size := (by have := hz_w2; first | omega | (simp at this; omega))); (try have hyw2_w2 := Nat.le_of_lt hzw2_w2)
    have hz2 := hb2.size
    go_wp2_with fail
    with_reducible refine (wcmp_c _ _ _ _ _).mono ?_
    rintro e w3 ⟨rfl, hb3⟩
    obtain ⟨hc_w3, hf_w3, hz_w3⟩ := kept hb3; (try simp only [World.size_drew] at hc_w3 hf_w3 hz_w3); (try have hzw0_w3 : w.heap.size < w3.heap.size := (by have := hz_w3; first | omega | (simp at this; omega))); (try have hyw0_w3 := Nat.le_of_lt hzw0_w3); (try have hzw1_w3 : w.heap.size + 1 < w3.heap.size := (by have := hz_w3; first | omega | (simp at this; omega))); (try have hyw1_w3 := Nat.le_of_lt hzw1_w3); (try have hzw2_w3 : w.heap.size + 1 + 1 < w3.heap.size := (by have := hz_w3; first | omega | (simp at this; omega))); (try have hyw2_w3 := Nat.le_of_lt hzw2_w3)
    have hz3 := hb3.size
    go_wp2_with fail
    with_reducible refine (wcmp_c _ _ _ _ _).mono ?_
    rintro e w4 ⟨rfl, hb4⟩
    obtain ⟨hc_w4, hf_w4, hz_w4⟩ := kept hb4; (try simp only [World.size_drew] at hc_w4 hf_w4 hz_w4); (try have hzw0_w4 : w.heap.size < w4.heap.size := (by have := hz_w4; first | omega | (simp at this; omega))); (try have hyw0_w4 := Nat.le_of_lt hzw0_w4); (try have hzw1_w4 : w.heap.size + 1 < w4.heap.size := (by have := hz_w4; first | omega | (simp at this; omega))); (try have hyw1_w4 := Nat.le_of_lt hzw1_w4); (try have hzw2_w4 : w.heap.size + 1 + 1 < w4.heap.size := (by have := hz_w4; first | omega | (simp at this; omega))); (try have hyw2_w4 := Nat.le_of_lt hzw2_w4)
    have hz4 := hb4.size
    go_wp2_with fail
    with_reducible refine (wcmp_c _ _ _ _ _).mono ?_
    rintro e w5 ⟨rfl, hb5⟩
    obtain ⟨hc_w5, hf_w5, hz_w5⟩ := kept hb5; (try simp only [World.size_drew] at hc_w5 hf_w5 hz_w5); (try have hzw0_w5 : w.heap.size < w5.heap.size := (by have := hz_w5; first | omega | (simp at this; omega))); (try have hyw0_w5 := Nat.le_of_lt hzw0_w5); (try have hzw1_w5 : w.heap.size + 1 < w5.heap.size := (by have := hz_w5; first | omega | (simp at this; omega))); (try have hyw1_w5 := Nat.le_of_lt hzw1_w5); (try have hzw2_w5 : w.heap.size + 1 + 1 < w5.heap.size := (by have := hz_w5; first | omega | (simp at this; omega))); (try have hyw2_w5 := Nat.le_of_lt hzw2_w5)
    have hz5 := hb5.size
    go_wp2_with fail
    refine (wadd_c _ _ _ _ (by omega) (by omega) (by omega) (by omega) (by omega) (by omega) (by omega) (by omega) _).mono ?_
    rintro e wa ⟨rfl, hba⟩
    obtain ⟨hc_wa, hf_wa, hz_wa⟩ := kept hba; (try simp only [World.size_drew] at hc_wa hf_wa hz_wa); (try have hzw0_wa : w.heap.size < wa.heap.size := (by have := hz_wa; first | omega | (simp at this; omega))); (try have hyw0_wa := Nat.le_of_lt hzw0_wa); (try have hzw1_wa : w.heap.size + 1 < wa.heap.size := (by have := hz_wa; first | omega | (simp at this; omega))); (try have hyw1_wa := Nat.le_of_lt hzw1_wa); (try have hzw2_wa : w.heap.size + 1 + 1 < wa.heap.size := (by have := hz_wa; first | omega | (simp at this; omega))); (try have hyw2_wa := Nat.le_of_lt hzw2_wa)
    have hza := hba.size
    go_wp2_with fail
    refine (wadd_c _ _ _ _ (by omega) (by omega) (by omega) (by omega) (by omega) (by omega) (by omega) (by omega) _).mono ?_
    rintro e wb ⟨rfl, hbb⟩
    obtain ⟨hc_wb, hf_wb, hz_wb⟩ := kept hbb; (try simp only [World.size_drew] at hc_wb hf_wb hz_wb); (try have hzw0_wb : w.heap.size < wb.heap.size := (by have := hz_wb; first | omega | (simp at this; omega))); (try have hyw0_wb := Nat.le_of_lt hzw0_wb); (try have hzw1_wb : w.heap.size + 1 < wb.heap.size := (by have := hz_wb; first | omega | (simp at this; omega))); (try have hyw1_wb := Nat.le_of_lt hzw1_wb); (try have hzw2_wb : w.heap.size + 1 + 1 < wb.heap.size := (by have := hz_wb; first | omega | (simp at this; omega))); (try have hyw2_wb := Nat.le_of_lt hzw2_wb); (try have hzwa0_wb : wa.heap.size < wb.heap.size := (by have := hz_wb; first | omega | (simp at this; omega))); (try have hywa0_wb := Nat.le_of_lt hzwa0_wb)
    have hzb := hbb.size
    simp only [World.size_alloc] at hzb
    go_wp2_with fail
    with_reducible refine (wcmp_c _ _ _ _ _).mono ?_
    rintro e w6 ⟨rfl, hb6⟩
    obtain ⟨hc_w6, hf_w6, hz_w6⟩ := kept hb6; (try simp only [World.size_drew] at hc_w6 hf_w6 hz_w6); (try have hzw0_w6 : w.heap.size < w6.heap.size := (by have := hz_w6; first | omega | (simp at this; omega))); (try have hyw0_w6 := Nat.le_of_lt hzw0_w6); (try have hzw1_w6 : w.heap.size + 1 < w6.heap.size := (by have := hz_w6; first | omega | (simp at this; omega))); (try have hyw1_w6 := Nat.le_of_lt hzw1_w6); (try have hzw2_w6 : w.heap.size + 1 + 1 < w6.heap.size := (by have := hz_w6; first | omega | (simp at this; omega))); (try have hyw2_w6 := Nat.le_of_lt hzw2_w6); (try have hzwa0_w6 : wa.heap.size < w6.heap.size := (by have := hz_w6; first | omega | (simp at this; omega))); (try have hywa0_w6 := Nat.le_of_lt hzwa0_w6); (try have hzwb0_w6 : wb.heap.size < w6.heap.size := (by have := hz_w6; first | omega | (simp at this; omega))); (try have hywb0_w6 := Nat.le_of_lt hzwb0_w6)
    have hz6 := hb6.size
    simp only [World.size_alloc] at hz6
    go_wp2_with fail
    with_reducible refine (wcmp_c _ _ _ _ _).mono ?_
    rintro e w7 ⟨rfl, hb7⟩
    obtain ⟨hc_w7, hf_w7, hz_w7⟩ := kept hb7; (try simp only [World.size_drew] at hc_w7 hf_w7 hz_w7); (try have hzw0_w7 : w.heap.size < w7.heap.size := (by have := hz_w7; first | omega | (simp at this; omega))); (try have hyw0_w7 := Nat.le_of_lt hzw0_w7); (try have hzw1_w7 : w.heap.size + 1 < w7.heap.size := (by have := hz_w7; first | omega | (simp at this; omega))); (try have hyw1_w7 := Nat.le_of_lt hzw1_w7); (try have hzw2_w7 : w.heap.size + 1 + 1 < w7.heap.size := (by have := hz_w7; first | omega | (simp at this; omega))); (try have hyw2_w7 := Nat.le_of_lt hzw2_w7); (try have hzwa0_w7 : wa.heap.size < w7.heap.size := (by have := hz_w7; first | omega | (simp at this; omega))); (try have hywa0_w7 := Nat.le_of_lt hzwa0_w7); (try have hzwb0_w7 : wb.heap.size < w7.heap.size := (by have := hz_w7; first | omega | (simp at this; omega))); (try have hywb0_w7 := Nat.le_of_lt hzwb0_w7)
    have hz7 := hb7.size
    go_wp2_with fail
    all_goals
      first
        | (exfalso; omega)
        | (go_ret; exact ⟨by first | rfl | (simp; done) | (simp; omega), by (repeat' (first | (with_reducible exact Below.refl _ _) | (with_reducible assumption) | (with_reducible refine Below.alloc ?_ ?_ _) | (with_reducible refine Below.drew ?_) | (with_reducible refine Below_drewN ?_ _) | (with_reducible refine Below.setCell ?_ ?_ _) | (refine Below.step (B' := ?_) (b := ?_) ?_ ?_ ?_; rotate_left 2; (with_reducible assumption)) | go_size))⟩)

set_option maxRecDepth 100000 in
set_option maxHeartbeats 4000000 in
theorem wo_eq (xh xl zh zl : Int) (h1 : 0 ≤ xh) (g1 : xh < 18446744073709551616) (h2 : 0 ≤ xl) (g2 : xl < 18446744073709551616) (h5 : 0 ≤ zh) (g5 : zh < 18446744073709551616) (h6 : 0 ≤ zl) (g6 : zl < 18446744073709551616)  (w : World) :
  Calls Try.prog 12 #[.agg #[.int .u64 xh, .int .u64 xl], .agg #[.int .u64 xh, .int .u64 xl], .agg #[.int .u64 zh, .int .u64 zl]] w fun e w' => e = .returned (.bool true) ∧ Below w.heap.size w w' := by
  have q1 : cmpW xh xl xh xl = 0 := by rw [cmpW_cw _ _ _ _ h2 g2 h2 g2]; exact cw_eq _
  have b0 : 0 ≤ aLo xl zl ∧ aLo xl zl < 18446744073709551616 := (by unfold aLo; omega)
  have q6 : cmpW (aHi xh xl zh zl) (aLo xl zl) (aHi xh xl zh zl) (aLo xl zl) = 0 := (by rw [cmpW_cw _ _ _ _ b0.1 b0.2 b0.1 b0.2]; exact cw_eq _)
  clear b0
  rcases (by cases aOv xh xl zh zl <;> simp : aOv xh xl zh zl = true ∨ aOv xh xl zh zl = false) with o1 | o1
  · go_enter Try.func12, Try.ntmps12
    go_wp2_with fail
    with_reducible refine (awake2 _).mono ?_
    rintro e w1 ⟨rfl, hb1⟩
    obtain ⟨hc_w1, hf_w1, hz_w1⟩ := kept hb1; (try simp only [World.size_drew] at hc_w1 hf_w1 hz_w1); (try have hzw0_w1 : w.heap.size < w1.heap.size := (by have := hz_w1; first | omega | (simp at this; omega))); (try have hyw0_w1 := Nat.le_of_lt hzw0_w1); (try have hzw1_w1 : w.heap.size + 1 < w1.heap.size := (by have := hz_w1; first | omega | (simp at this; omega))); (try have hyw1_w1 := Nat.le_of_lt hzw1_w1); (try have hzw2_w1 : w.heap.size + 1 + 1 < w1.heap.size := (by have := hz_w1; first | omega | (simp at this; omega))); (try have hyw2_w1 := Nat.le_of_lt hzw2_w1)
    have hz1 := hb1.size
    simp only [World.size_alloc] at hz1
    go_wp2_with fail
    with_reducible refine (wcmp_c _ _ _ _ _).mono ?_
    rintro e w2 ⟨rfl, hb2⟩
    obtain ⟨hc_w2, hf_w2, hz_w2⟩ := kept hb2; (try simp only [World.size_drew] at hc_w2 hf_w2 hz_w2); (try have hzw0_w2 : w.heap.size < w2.heap.size := (by have := hz_w2; first | omega | (simp at this; omega))); (try have hyw0_w2 := Nat.le_of_lt hzw0_w2); (try have hzw1_w2 : w.heap.size + 1 < w2.heap.size := (by have := hz_w2; first | omega | (simp at this; omega))); (try have hyw1_w2 := Nat.le_of_lt hzw1_w2); (try have hzw2_w2 : w.heap.size + 1 + 1 < w2.heap.size := (by have := hz_w2; first | omega | (simp at this; omega))); (try have hyw2_w2 := Nat.le_of_lt hzw2_w2)
    have hz2 := hb2.size
    go_wp2_with fail
    with_reducible refine (wcmp_c _ _ _ _ _).mono ?_
    rintro e w3 ⟨rfl, hb3⟩
    obtain ⟨hc_w3, hf_w3, hz_w3⟩ := kept hb3; (try simp only [World.size_drew] at hc_w3 hf_w3 hz_w3); (try have hzw0_w3 : w.heap.size < w3.heap.size := (by have := hz_w3; first | omega | (simp at this; omega))); (try have hyw0_w3 := Nat.le_of_lt hzw0_w3); (try have hzw1_w3 : w.heap.size + 1 < w3.heap.size := (by have := hz_w3; first | omega | (simp at this; omega))); (try have hyw1_w3 := Nat.le_of_lt hzw1_w3); (try have hzw2_w3 : w.heap.size + 1 + 1 < w3.heap.size := (by have := hz_w3; first | omega | (simp at this; omega))); (try have hyw2_w3 := Nat.le_of_lt hzw2_w3)
    have hz3 := hb3.size
    go_wp2_with fail
    refine (wadd_c _ _ _ _ (by omega) (by omega) (by omega) (by omega) (by omega) (by omega) (by omega) (by omega) _).mono ?_
    rintro e wa ⟨rfl, hba⟩
    obtain ⟨hc_wa, hf_wa, hz_wa⟩ := kept hba; (try simp only [World.size_drew] at hc_wa hf_wa hz_wa); (try have hzw0_wa : w.heap.size < wa.heap.size := (by have := hz_wa; first | omega | (simp at this; omega))); (try have hyw0_wa := Nat.le_of_lt hzw0_wa); (try have hzw1_wa : w.heap.size + 1 < wa.heap.size := (by have := hz_wa; first | omega | (simp at this; omega))); (try have hyw1_wa := Nat.le_of_lt hzw1_wa); (try have hzw2_wa : w.heap.size + 1 + 1 < wa.heap.size := (by have := hz_wa; first | omega | (simp at this; omega))); (try have hyw2_wa := Nat.le_of_lt hzw2_wa)
    have hza := hba.size
    go_wp2_with fail
    refine (wadd_c _ _ _ _ (by omega) (by omega) (by omega) (by omega) (by omega) (by omega) (by omega) (by omega) _).mono ?_
    rintro e wb ⟨rfl, hbb⟩
    obtain ⟨hc_wb, hf_wb, hz_wb⟩ := kept hbb; (try simp only [World.size_drew] at hc_wb hf_wb hz_wb); (try have hzw0_wb : w.heap.size < wb.heap.size := (by have := hz_wb; first | omega | (simp at this; omega))); (try have hyw0_wb := Nat.le_of_lt hzw0_wb); (try have hzw1_wb : w.heap.size + 1 < wb.heap.size := (by have := hz_wb; first | omega | (simp at this; omega))); (try have hyw1_wb := Nat.le_of_lt hzw1_wb); (try have hzw2_wb : w.heap.size + 1 + 1 < wb.heap.size := (by have := hz_wb; first | omega | (simp at this; omega))); (try have hyw2_wb := Nat.le_of_lt hzw2_wb); (try have hzwa0_wb : wa.heap.size < wb.heap.size := (by have := hz_wb; first | omega | (simp at this; omega))); (try have hywa0_wb := Nat.le_of_lt hzwa0_wb)
    have hzb := hbb.size
    simp only [World.size_alloc] at hzb
    go_wp2_with fail
    with_reducible refine (wcmp_c _ _ _ _ _).mono ?_
    rintro e w4 ⟨rfl, hb4⟩
    obtain ⟨hc_w4, hf_w4, hz_w4⟩ := kept hb4; (try simp only [World.size_drew] at hc_w4 hf_w4 hz_w4); (try have hzw0_w4 : w.heap.size < w4.heap.size := (by have := hz_w4; first | omega | (simp at this; omega))); (try have hyw0_w4 := Nat.le_of_lt hzw0_w4); (try have hzw1_w4 : w.heap.size + 1 < w4.heap.size := (by have := hz_w4; first | omega | (simp at this; omega))); (try have hyw1_w4 := Nat.le_of_lt hzw1_w4); (try have hzw2_w4 : w.heap.size + 1 + 1 < w4.heap.size := (by have := hz_w4; first | omega | (simp at this; omega))); (try have hyw2_w4 := Nat.le_of_lt hzw2_w4); (try have hzwa0_w4 : wa.heap.size < w4.heap.size := (by have := hz_w4; first | omega | (simp at this; omega))); (try have hywa0_w4 := Nat.le_of_lt hzwa0_w4); (try have hzwb0_w4 : wb.heap.size < w4.heap.size := (by have := hz_w4; first | omega | (simp at this; omega))); (try have hywb0_w4 := Nat.le_of_lt hzwb0_w4)
    have hz4 := hb4.size
    simp only [World.size_alloc] at hz4
    go_wp2_with fail
    all_goals
      first
        | (exfalso; omega)
        | (go_ret; exact ⟨by first | rfl | (simp; done) | (simp; omega), by (repeat' (first | (with_reducible exact Below.refl _ _) | (with_reducible assumption) | (with_reducible refine Below.alloc ?_ ?_ _) | (with_reducible refine Below.drew ?_) | (with_reducible refine Below_drewN ?_ _) | (with_reducible refine Below.setCell ?_ ?_ _) | (refine Below.step (B' := ?_) (b := ?_) ?_ ?_ ?_; rotate_left 2; (with_reducible assumption)) | go_size))⟩)
  · go_enter Try.func12, Try.ntmps12
    go_wp2_with fail
    with_reducible refine (awake2 _).mono ?_
    rintro e w1 ⟨rfl, hb1⟩
    obtain ⟨hc_w1, hf_w1, hz_w1⟩ := kept hb1; (try simp only [World.size_drew] at hc_w1 hf_w1 hz_w1); (try have hzw0_w1 : w.heap.size < w1.heap.size := (by have := hz_w1; first | omega | (simp at this; omega))); (try have hyw0_w1 := Nat.le_of_lt hzw0_w1); (try have hzw1_w1 : w.heap.size + 1 < w1.heap.size := (by have := hz_w1; first | omega | (simp at this; omega))); (try have hyw1_w1 := Nat.le_of_lt hzw1_w1); (try have hzw2_w1 : w.heap.size + 1 + 1 < w1.heap.size := (by have := hz_w1; first | omega | (simp at this; omega))); (try have hyw2_w1 := Nat.le_of_lt hzw2_w1)
    have hz1 := hb1.size
    simp only [World.size_alloc] at hz1
    go_wp2_with fail
    with_reducible refine (wcmp_c _ _ _ _ _).mono ?_
    rintro e w2 ⟨rfl, hb2⟩
    obtain ⟨hc_w2, hf_w2, hz_w2⟩ := kept hb2; (try simp only [World.size_drew] at hc_w2 hf_w2 hz_w2); (try have hzw0_w2 : w.heap.size < w2.heap.size := (by have := hz_w2; first | omega | (simp at this; omega))); (try have hyw0_w2 := Nat.le_of_lt hzw0_w2); (try have hzw1_w2 : w.heap.size + 1 < w2.heap.size := (by have := hz_w2; first | omega | (simp at this; omega))); (try have hyw1_w2 := Nat.le_of_lt hzw1_w2); (try have hzw2_w2 : w.heap.size + 1 + 1 < w2.heap.size := (by have := hz_w2; first | omega | (simp at this; omega))); (try have hyw2_w2 := Nat.le_of_lt hzw2_w2)
    have hz2 := hb2.size
    go_wp2_with fail
    with_reducible refine (wcmp_c _ _ _ _ _).mono ?_
    rintro e w3 ⟨rfl, hb3⟩
    obtain ⟨hc_w3, hf_w3, hz_w3⟩ := kept hb3; (try simp only [World.size_drew] at hc_w3 hf_w3 hz_w3); (try have hzw0_w3 : w.heap.size < w3.heap.size := (by have := hz_w3; first | omega | (simp at this; omega))); (try have hyw0_w3 := Nat.le_of_lt hzw0_w3); (try have hzw1_w3 : w.heap.size + 1 < w3.heap.size := (by have := hz_w3; first | omega | (simp at this; omega))); (try have hyw1_w3 := Nat.le_of_lt hzw1_w3); (try have hzw2_w3 : w.heap.size + 1 + 1 < w3.heap.size := (by have := hz_w3; first | omega | (simp at this; omega))); (try have hyw2_w3 := Nat.le_of_lt hzw2_w3)
    have hz3 := hb3.size
    go_wp2_with fail
    refine (wadd_c _ _ _ _ (by omega) (by omega) (by omega) (by omega) (by omega) (by omega) (by omega) (by omega) _).mono ?_
    rintro e wa ⟨rfl, hba⟩
    obtain ⟨hc_wa, hf_wa, hz_wa⟩ := kept hba; (try simp only [World.size_drew] at hc_wa hf_wa hz_wa); (try have hzw0_wa : w.heap.size < wa.heap.size := (by have := hz_wa; first | omega | (simp at this; omega))); (try have hyw0_wa := Nat.le_of_lt hzw0_wa); (try have hzw1_wa : w.heap.size + 1 < wa.heap.size := (by have := hz_wa; first | omega | (simp at this; omega))); (try have hyw1_wa := Nat.le_of_lt hzw1_wa); (try have hzw2_wa : w.heap.size + 1 + 1 < wa.heap.size := (by have := hz_wa; first | omega | (simp at this; omega))); (try have hyw2_wa := Nat.le_of_lt hzw2_wa)
    have hza := hba.size
    go_wp2_with fail
    refine (wadd_c _ _ _ _ (by omega) (by omega) (by omega) (by omega) (by omega) (by omega) (by omega) (by omega) _).mono ?_
    rintro e wb ⟨rfl, hbb⟩
    obtain ⟨hc_wb, hf_wb, hz_wb⟩ := kept hbb; (try simp only [World.size_drew] at hc_wb hf_wb hz_wb); (try have hzw0_wb : w.heap.size < wb.heap.size := (by have := hz_wb; first | omega | (simp at this; omega))); (try have hyw0_wb := Nat.le_of_lt hzw0_wb); (try have hzw1_wb : w.heap.size + 1 < wb.heap.size := (by have := hz_wb; first | omega | (simp at this; omega))); (try have hyw1_wb := Nat.le_of_lt hzw1_wb); (try have hzw2_wb : w.heap.size + 1 + 1 < wb.heap.size := (by have := hz_wb; first | omega | (simp at this; omega))); (try have hyw2_wb := Nat.le_of_lt hzw2_wb); (try have hzwa0_wb : wa.heap.size < wb.heap.size := (by have := hz_wb; first | omega | (simp at this; omega))); (try have hywa0_wb := Nat.le_of_lt hzwa0_wb)
    have hzb := hbb.size
    simp only [World.size_alloc] at hzb
    go_wp2_with fail
    with_reducible refine (wcmp_c _ _ _ _ _).mono ?_
    rintro e w4 ⟨rfl, hb4⟩
    obtain ⟨hc_w4, hf_w4, hz_w4⟩ := kept hb4; (try simp only [World.size_drew] at hc_w4 hf_w4 hz_w4); (try have hzw0_w4 : w.heap.size < w4.heap.size := (by have := hz_w4; first | omega | (simp at this; omega))); (try have hyw0_w4 := Nat.le_of_lt hzw0_w4); (try have hzw1_w4 : w.heap.size + 1 < w4.heap.size := (by have := hz_w4; first | omega | (simp at this; omega))); (try have hyw1_w4 := Nat.le_of_lt hzw1_w4); (try have hzw2_w4 : w.heap.size + 1 + 1 < w4.heap.size := (by have := hz_w4; first | omega | (simp at this; omega))); (try have hyw2_w4 := Nat.le_of_lt hzw2_w4); (try have hzwa0_w4 : wa.heap.size < w4.heap.size := (by have := hz_w4; first | omega | (simp at this; omega))); (try have hywa0_w4 := Nat.le_of_lt hzwa0_w4); (try have hzwb0_w4 : wb.heap.size < w4.heap.size := (by have := hz_w4; first | omega | (simp at this; omega))); (try have hywb0_w4 := Nat.le_of_lt hzwb0_w4)
    have hz4 := hb4.size
    simp only [World.size_alloc] at hz4
    go_wp2_with fail
    with_reducible refine (wcmp_c _ _ _ _ _).mono ?_
    rintro e w5 ⟨rfl, hb5⟩
    obtain ⟨hc_w5, hf_w5, hz_w5⟩ := kept hb5; (try simp only [World.size_drew] at hc_w5 hf_w5 hz_w5); (try have hzw0_w5 : w.heap.size < w5.heap.size := (by have := hz_w5; first | omega | (simp at this; omega))); (try have hyw0_w5 := Nat.le_of_lt hzw0_w5); (try have hzw1_w5 : w.heap.size + 1 < w5.heap.size := (by have := hz_w5; first | omega | (simp at this; omega))); (try have hyw1_w5 := Nat.le_of_lt hzw1_w5); (try have hzw2_w5 : w.heap.size + 1 + 1 < w5.heap.size := (by have := hz_w5; first | omega | (simp at this; omega))); (try have hyw2_w5 := Nat.le_of_lt hzw2_w5); (try have hzwa0_w5 : wa.heap.size < w5.heap.size := (by have := hz_w5; first | omega | (simp at this; omega))); (try have hywa0_w5 := Nat.le_of_lt hzwa0_w5); (try have hzwb0_w5 : wb.heap.size < w5.heap.size := (by have := hz_w5; first | omega | (simp at this; omega))); (try have hywb0_w5 := Nat.le_of_lt hzwb0_w5)
    have hz5 := hb5.size
    go_wp2_with fail
    all_goals
      first
        | (exfalso; omega)
        | (go_ret; exact ⟨by first | rfl | (simp; done) | (simp; omega), by (repeat' (first | (with_reducible exact Below.refl _ _) | (with_reducible assumption) | (with_reducible refine Below.alloc ?_ ?_ _) | (with_reducible refine Below.drew ?_) | (with_reducible refine Below_drewN ?_ _) | (with_reducible refine Below.setCell ?_ ?_ _) | (refine Below.step (B' := ?_) (b := ?_) ?_ ?_ ?_; rotate_left 2; (with_reducible assumption)) | go_size))⟩)

theorem walk_WideOrder (a0 b0 a1 b1 a2 b2 : Int) (w0 : (Lit.int .u64 a0).wf = true) (z0 : (Lit.int .u64 b0).wf = true) (w1 : (Lit.int .u64 a1).wf = true) (z1 : (Lit.int .u64 b1).wf = true) (w2 : (Lit.int .u64 a2).wf = true) (z2 : (Lit.int .u64 b2).wf = true) (w : World) :
    Calls Try.prog 12 #[.agg #[.int .u64 a0, .int .u64 b0], .agg #[.int .u64 a1, .int .u64 b1], .agg #[.int .u64 a2, .int .u64 b2]] w fun e w' => e = .returned (.bool true) ∧ Below w.heap.size w w' := by
  obtain ⟨h1, g1⟩ := bounds_u64 w0
  obtain ⟨h2, g2⟩ := bounds_u64 z0
  obtain ⟨h3, g3⟩ := bounds_u64 w1
  obtain ⟨h4, g4⟩ := bounds_u64 z1
  obtain ⟨h5, g5⟩ := bounds_u64 w2
  obtain ⟨h6, g6⟩ := bounds_u64 z2
  rcases (by omega : a0 * 18446744073709551616 + b0 < a1 * 18446744073709551616 + b1 ∨ (a1 = a0 ∧ b1 = b0) ∨ a1 * 18446744073709551616 + b1 < a0 * 18446744073709551616 + b0) with h | ⟨rfl, rfl⟩ | h
  · by_cases e : a0 = a1
    · subst e
      exact wo_ltb a0 b0 b1 a2 b2 h1 (by omega) h2 (by omega) h4 (by omega) h5 (by omega) h6 (by omega) h (by simp; omega) w
    · exact wo_lta a0 b0 a1 b1 a2 b2 h1 (by omega) h2 (by omega) h3 (by omega) h4 (by omega) h5 (by omega) h6 (by omega) h (by simpa using e) w
  · exact wo_eq _ _ a2 b2 h1 (by omega) h2 (by omega) h5 (by omega) h6 (by omega) w
  · rcases (by omega : a1 * 18446744073709551616 + b1 ≤ a2 * 18446744073709551616 + b2 ∨ a2 * 18446744073709551616 + b2 < a1 * 18446744073709551616 + b1) with r | r
    · by_cases e : a0 = a1
      · subst e
        exact wo_gt1b a0 b0 b1 a2 b2 h1 (by omega) h2 (by omega) h4 (by omega) h5 (by omega) h6 (by omega) h r (by simp; omega) w
      · exact wo_gt1a a0 b0 a1 b1 a2 b2 h1 (by omega) h2 (by omega) h3 (by omega) h4 (by omega) h5 (by omega) h6 (by omega) h r (by simpa using e) w
    · by_cases e : a0 = a1
      · subst e
        exact wo_gt2b a0 b0 b1 a2 b2 h1 (by omega) h2 (by omega) h4 (by omega) h5 (by omega) h6 (by omega) h r (by simp; omega) w
      · exact wo_gt2a a0 b0 a1 b1 a2 b2 h1 (by omega) h2 (by omega) h3 (by omega) h4 (by omega) h5 (by omega) h6 (by omega) h r (by simpa using e) w
end Go.Proofs.Try
