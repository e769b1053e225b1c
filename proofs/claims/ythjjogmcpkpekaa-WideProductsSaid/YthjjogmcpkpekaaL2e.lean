/- The walk of WideProducts. -/

import Derived.Test.YthjjogmcpkpekaaW2
import Derived.Test.YthjjogmcpkpekaaLater
import Derived.ProofKit
import Derived.OpenShut
namespace Go.Proofs.Try
open Go.RowKit
set_option linter.unusedVariables false

theorem prod_in (a b : Int) (h0 : 0 ≤ a) (h1 : 0 ≤ b) (g0 : a ≤ 18446744073709551615) (g1 : b ≤ 18446744073709551615) : 0 ≤ a * b ∧ a * b ≤ 18446744073709551615 * b ∧ a * b ≤ 340282366920938463426481119284349108225 := by
  have p := Int.mul_nonneg h0 h1
  have q : a * b ≤ 18446744073709551615 * b := Int.mul_le_mul_of_nonneg_right g0 h1
  exact ⟨p, q, by omega⟩
theorem prod_sum (a b c : Int) (h0 : 0 ≤ a) (h1 : 0 ≤ b) (h2 : 0 ≤ c) (g0 : a ≤ 18446744073709551615) (hs : b + c < 18446744073709551616) :
    aOv (a * b / 18446744073709551616) (a * b % 18446744073709551616) (a * c / 18446744073709551616) (a * c % 18446744073709551616) = false ∧
    aHi (a * b / 18446744073709551616) (a * b % 18446744073709551616) (a * c / 18446744073709551616) (a * c % 18446744073709551616) = a * (b + c) / 18446744073709551616 ∧
    aLo (a * b % 18446744073709551616) (a * c % 18446744073709551616) = a * (b + c) % 18446744073709551616 := by
  obtain ⟨p1, _, p2⟩ := prod_in a (b + c) h0 (by omega) g0 (by omega)
  obtain ⟨q1, _, _⟩ := prod_in a b h0 h1 g0 (by omega)
  obtain ⟨r1, _, _⟩ := prod_in a c h0 h2 g0 (by omega)
  rw [Int.mul_add] at *
  unfold aOv aHi aLo
  generalize a * b = P at *
  generalize a * c = R at *
  simp only [decide_eq_false_iff_not]
  refine ⟨by omega, by omega, by omega⟩
theorem prod_div (a b : Int) (h0 : 0 ≤ a) (h1 : 0 < b) (g0 : a ≤ 18446744073709551615) :
    dHi (a * b / 18446744073709551616) b = 0 ∧ dLo (a * b / 18446744073709551616) (a * b % 18446744073709551616) b = a ∧ dRest (a * b / 18446744073709551616) (a * b % 18446744073709551616) b = 0 ∧ dE b = 0 := by
  have p := Int.mul_nonneg h0 (show 0 ≤ b by omega)
  have q : a * b ≤ 18446744073709551615 * b := Int.mul_le_mul_of_nonneg_right g0 (by omega)
  have t : a * b / 18446744073709551616 < b := by omega
  have u : 0 ≤ a * b / 18446744073709551616 := by omega
  have e : a * b / 18446744073709551616 % b * 18446744073709551616 + a * b % 18446744073709551616 = a * b := by rw [Int.emod_eq_of_lt u t]; omega
  unfold dHi dLo dRest dE
  rw [if_neg (by omega), if_neg (by omega), e]
  exact ⟨Int.ediv_eq_zero_of_lt u t, Int.mul_ediv_cancel _ (by omega), Int.mul_emod_left _ _, rfl⟩

set_option maxRecDepth 100000 in
set_option maxHeartbeats 4000000 in
theorem walk_WideProducts (a0 a1 a2 : Int) (w0 : (Lit.int .u64 a0).wf = true) (w1 : (Lit.int .u64 a1).wf = true) (w2 : (Lit.int .u64 a2).wf = true) (w : World) :
    Calls Try.prog 11 #[.int .u64 a0, .int .u64 a1, .int .u64 a2] w fun e w' => e = .returned (.bool true) ∧ Below w.heap.size w w' := by
  obtain ⟨h0, h0'⟩ := bounds_u64 w0
  obtain ⟨h1, h1'⟩ := bounds_u64 w1
  obtain ⟨h2, h2'⟩ := bounds_u64 w2
  clear w0 w1 w2
  obtain ⟨i1, _, i2⟩ := prod_in a0 a1 h0 h1 h0' h1'
  obtain ⟨j1, _, j2⟩ := prod_in a0 a2 h0 h2 h0' h2'
  have c1 : a1 * a0 = a0 * a1 := Int.mul_comm _ _
  have c2 : a0 / 18446744073709551616 = 0 := by omega
  have c3 : a0 % 18446744073709551616 = a0 := by omega
  by_cases hs : a1 + a2 < 18446744073709551616
  · obtain ⟨m1, m2, m3⟩ := prod_sum a0 a1 a2 h0 h1 h2 h0' hs
    by_cases hb0 : a1 = 0
    · subst hb0
      have k1 : dE 0 = 20 := by decide +kernel
      have e4 : decide (a2 < 0) = false := by simp; omega
      have e5 : ¬ a2 < 0 := by omega
      clear m1 m2 m3 c1
      have m1 : aOv 0 0 (a0 * a2 / 18446744073709551616) (a0 * a2 % 18446744073709551616) = false := by unfold aOv; simp; omega
      have m2 : aHi 0 0 (a0 * a2 / 18446744073709551616) (a0 * a2 % 18446744073709551616) = a0 * a2 / 18446744073709551616 := by unfold aHi; omega
      have m3 : aLo 0 (a0 * a2 % 18446744073709551616) = a0 * a2 % 18446744073709551616 := by unfold aLo; omega
      go_enter Try.func11, Try.ntmps11
      go_wp2_with fail
      with_reducible refine (awake2 _).mono ?_
      rintro e w1 ⟨rfl, hb1⟩
      obtain ⟨hc_w1, hf_w1, hz_w1⟩ := kept hb1; (try simp only [World.size_drew] at hc_w1 hf_w1 hz_w1)
      have hz1 := hb1.size
      go_wp2_with fail
      with_reducible refine (wmul_c _ _ (by omega) (by omega) (by omega) (by omega) _).mono ?_
      rintro e w2 ⟨rfl, hb2⟩
      obtain ⟨hc_w2, hf_w2, hz_w2⟩ := kept hb2; (try simp only [World.size_drew] at hc_w2 hf_w2 hz_w2)
      have hz2 := hb2.size
      go_wp2_with fail
      with_reducible refine (wmul_c _ _ (by omega) (by omega) (by omega) (by omega) _).mono ?_
      rintro e w3 ⟨rfl, hb3⟩
      obtain ⟨hc_w3, hf_w3, hz_w3⟩ := kept hb3; (try simp only [World.size_drew] at hc_w3 hf_w3 hz_w3)
      have hz3 := hb3.size
      go_wp2_with fail
      refine (wadd_c _ _ _ _ (by omega) (by omega) (by omega) (by omega) (by omega) (by omega) (by omega) (by omega) _).mono ?_
      rintro e w4 ⟨rfl, hb4⟩
      obtain ⟨hc_w4, hf_w4, hz_w4⟩ := kept hb4; (try simp only [World.size_drew] at hc_w4 hf_w4 hz_w4)
      have hz4 := hb4.size
      go_wp2_with fail
      (refine region_later (by kernel_rfl) (by kernel_rfl) ?_); (intro hlat); (repeat (go_big_quiet_step ((first | (go_at_call 46; with_reducible exact later_call (wof_c _ _)) | (go_at_call 40; with_reducible exact later_call (wmul_c _ _ (by omega) (by omega) (by omega) (by omega) _)))))); (refine wpQuiet_nil ?_); (intro W1 hbW1); (clear hlat)
      have hzW1 := hbW1.size
      simp only [World.size_alloc] at hzW1
      go_wp2_with fail
      refine (wmul_c _ _ (by omega) (by omega) (by omega) (by omega) _).mono ?_
      rintro e w5 ⟨rfl, hb5⟩
      obtain ⟨hc_w5, hf_w5, hz_w5⟩ := kept hb5; (try simp only [World.size_drew] at hc_w5 hf_w5 hz_w5)
      have hz5 := hb5.size
      go_wp2_with fail
      refine (wdiv_c _ _ _ (by omega) (by omega) (by omega) (by omega) (by omega) (by omega) _).mono ?_
      rintro e w6 ⟨rfl, hb6⟩
      obtain ⟨hc_w6, hf_w6, hz_w6⟩ := kept hb6; (try simp only [World.size_drew] at hc_w6 hf_w6 hz_w6)
      have hz6 := hb6.size
      go_wp2_with fail
      (refine region_later (by kernel_rfl) (by kernel_rfl) ?_); (intro hlat); (repeat (go_big_quiet_step ((first | (go_at_call 46; with_reducible exact later_call (wof_c _ _)) | (go_at_call 40; with_reducible exact later_call (wmul_c _ _ (by omega) (by omega) (by omega) (by omega) _)))))); (refine wpQuiet_nil ?_); (intro W2 hbW2); (clear hlat)
      have hzW2 := hbW2.size
      simp only [World.size_alloc] at hzW2
      go_wp2_with fail
      go_ret
      exact ⟨by first | rfl | (simp; done), by (repeat' (first | (with_reducible exact Below.refl _ _) | (with_reducible assumption) | (with_reducible refine Below.alloc ?_ ?_ _) | (with_reducible refine Below.drew ?_) | (with_reducible refine Below_drewN ?_ _) | (with_reducible refine Below.setCell ?_ ?_ _) | (refine Below.step (B' := ?_) (b := ?_) ?_ ?_ ?_; rotate_left 2; (with_reducible assumption)) | go_size))⟩
    · obtain ⟨k1, k2, k3, k4⟩ := prod_div a0 a1 h0 (by omega) h0'
      have e1 : (a1 == 0) = false := by simp; omega
      have e2 : 1 ≤ a1 := by omega
      have e6 : 0 < a1 := by omega
      have e7 : decide (0 < a1) = true := by simp; omega
      have e3 : decide (a1 + a2 < a1) = false := by simp; omega
      have e4 : decide (a2 < 0) = false := by simp; omega
      have e5 : ¬ a2 < 0 := by omega
      go_enter Try.func11, Try.ntmps11
      go_wp2_with fail
      with_reducible refine (awake2 _).mono ?_
      rintro e w1 ⟨rfl, hb1⟩
      obtain ⟨hc_w1, hf_w1, hz_w1⟩ := kept hb1; (try simp only [World.size_drew] at hc_w1 hf_w1 hz_w1)
      have hz1 := hb1.size
      go_wp2_with fail
      with_reducible refine (wmul_c _ _ (by omega) (by omega) (by omega) (by omega) _).mono ?_
      rintro e w2 ⟨rfl, hb2⟩
      obtain ⟨hc_w2, hf_w2, hz_w2⟩ := kept hb2; (try simp only [World.size_drew] at hc_w2 hf_w2 hz_w2)
      have hz2 := hb2.size
      go_wp2_with fail
      with_reducible refine (wmul_c _ _ (by omega) (by omega) (by omega) (by omega) _).mono ?_
      rintro e w3 ⟨rfl, hb3⟩
      obtain ⟨hc_w3, hf_w3, hz_w3⟩ := kept hb3; (try simp only [World.size_drew] at hc_w3 hf_w3 hz_w3)
      have hz3 := hb3.size
      go_wp2_with fail
      refine (wadd_c _ _ _ _ (by omega) (by omega) (by omega) (by omega) (by omega) (by omega) (by omega) (by omega) _).mono ?_
      rintro e w4 ⟨rfl, hb4⟩
      obtain ⟨hc_w4, hf_w4, hz_w4⟩ := kept hb4; (try simp only [World.size_drew] at hc_w4 hf_w4 hz_w4)
      have hz4 := hb4.size
      go_wp2_with fail
      (refine region_later (by kernel_rfl) (by kernel_rfl) ?_); (intro hlat); (repeat (go_big_quiet_step ((first | (go_at_call 46; with_reducible exact later_call (wof_c _ _)) | (go_at_call 40; with_reducible exact later_call (wmul_c _ _ (by omega) (by omega) (by omega) (by omega) _)))))); (refine wpQuiet_nil ?_); (intro W1 hbW1); (clear hlat)
      have hzW1 := hbW1.size
      simp only [World.size_alloc] at hzW1
      go_wp2_with fail
      refine (wmul_c _ _ (by omega) (by omega) (by omega) (by omega) _).mono ?_
      rintro e w5 ⟨rfl, hb5⟩
      obtain ⟨hc_w5, hf_w5, hz_w5⟩ := kept hb5; (try simp only [World.size_drew] at hc_w5 hf_w5 hz_w5)
      have hz5 := hb5.size
      go_wp2_with fail
      refine (wdiv_c _ _ _ (by omega) (by omega) (by omega) (by omega) (by omega) (by omega) _).mono ?_
      rintro e w6 ⟨rfl, hb6⟩
      obtain ⟨hc_w6, hf_w6, hz_w6⟩ := kept hb6; (try simp only [World.size_drew] at hc_w6 hf_w6 hz_w6)
      have hz6 := hb6.size
      go_wp2_with fail
      (refine region_later (by kernel_rfl) (by kernel_rfl) ?_); (intro hlat); (repeat (go_big_quiet_step ((first | (go_at_call 46; with_reducible exact later_call (wof_c _ _)) | (go_at_call 40; with_reducible exact later_call (wmul_c _ _ (by omega) (by omega) (by omega) (by omega) _)))))); (refine wpQuiet_nil ?_); (intro W2 hbW2); (clear hlat)
      have hzW2 := hbW2.size
      simp only [World.size_alloc] at hzW2
      go_wp2_with fail
      go_ret
      exact ⟨by first | rfl | (simp; done), by (repeat' (first | (with_reducible exact Below.refl _ _) | (with_reducible assumption) | (with_reducible refine Below.alloc ?_ ?_ _) | (with_reducible refine Below.drew ?_) | (with_reducible refine Below_drewN ?_ _) | (with_reducible refine Below.setCell ?_ ?_ _) | (refine Below.step (B' := ?_) (b := ?_) ?_ ?_ ?_; rotate_left 2; (with_reducible assumption)) | go_size))⟩
  · obtain ⟨sm, W1', sm0, sm1⟩ : ∃ sm, IntKind.u64.wrap (a1 + a2) = sm ∧ 0 ≤ sm ∧ sm < a1 := ⟨_, rfl, by rw [IntKind.wrap_u64]; omega, by rw [IntKind.wrap_u64]; omega⟩
    obtain ⟨k1, k2, k3, k4⟩ := prod_div a0 a1 h0 (by omega) h0'
    have e1 : (a1 == 0) = false := by simp; omega
    have e2 : 1 ≤ a1 := by omega
    have e6 : 0 < a1 := by omega
    have e7 : decide (0 < a1) = true := by simp; omega
    have e3 : decide (sm < a1) = true := by simp; omega
    go_enter Try.func11, Try.ntmps11
    go_wp2_with fail
    with_reducible refine (awake2 _).mono ?_
    rintro e w1 ⟨rfl, hb1⟩
    obtain ⟨hc_w1, hf_w1, hz_w1⟩ := kept hb1; (try simp only [World.size_drew] at hc_w1 hf_w1 hz_w1)
    have hz1 := hb1.size
    go_wp2_with fail
    with_reducible refine (wmul_c _ _ (by omega) (by omega) (by omega) (by omega) _).mono ?_
    rintro e w2 ⟨rfl, hb2⟩
    obtain ⟨hc_w2, hf_w2, hz_w2⟩ := kept hb2; (try simp only [World.size_drew] at hc_w2 hf_w2 hz_w2)
    have hz2 := hb2.size
    go_wp2_with fail
    with_reducible refine (wmul_c _ _ (by omega) (by omega) (by omega) (by omega) _).mono ?_
    rintro e w3 ⟨rfl, hb3⟩
    obtain ⟨hc_w3, hf_w3, hz_w3⟩ := kept hb3; (try simp only [World.size_drew] at hc_w3 hf_w3 hz_w3)
    have hz3 := hb3.size
    go_wp2_with fail
    refine (wadd_c _ _ _ _ (by omega) (by omega) (by omega) (by omega) (by omega) (by omega) (by omega) (by omega) _).mono ?_
    rintro e w4 ⟨rfl, hb4⟩
    obtain ⟨hc_w4, hf_w4, hz_w4⟩ := kept hb4; (try simp only [World.size_drew] at hc_w4 hf_w4 hz_w4)
    have hz4 := hb4.size
    go_wp2_with fail
    (refine region_later (by kernel_rfl) (by kernel_rfl) ?_); (intro hlat); (repeat (go_big_quiet_step ((first | (go_at_call 46; with_reducible exact later_call (wof_c _ _)) | (go_at_call 40; with_reducible exact later_call (wmul_c _ _ (by omega) (by omega) (by omega) (by omega) _)))))); (refine wpQuiet_nil ?_); (intro W1 hbW1); (clear hlat)
    have hzW1 := hbW1.size
    simp only [World.size_alloc] at hzW1
    go_wp2_with fail
    refine (wmul_c _ _ (by omega) (by omega) (by omega) (by omega) _).mono ?_
    rintro e w5 ⟨rfl, hb5⟩
    obtain ⟨hc_w5, hf_w5, hz_w5⟩ := kept hb5; (try simp only [World.size_drew] at hc_w5 hf_w5 hz_w5)
    have hz5 := hb5.size
    go_wp2_with fail
    refine (wdiv_c _ _ _ (by omega) (by omega) (by omega) (by omega) (by omega) (by omega) _).mono ?_
    rintro e w6 ⟨rfl, hb6⟩
    obtain ⟨hc_w6, hf_w6, hz_w6⟩ := kept hb6; (try simp only [World.size_drew] at hc_w6 hf_w6 hz_w6)
    have hz6 := hb6.size
    go_wp2_with fail
    (refine region_later (by kernel_rfl) (by kernel_rfl) ?_); (intro hlat); (repeat (go_big_quiet_step ((first | (go_at_call 46; with_reducible exact later_call (wof_c _ _)) | (go_at_call 40; with_reducible exact later_call (wmul_c _ _ (by omega) (by omega) (by omega) (by omega) _)))))); (refine wpQuiet_nil ?_); (intro W2 hbW2); (clear hlat)
    have hzW2 := hbW2.size
    simp only [World.size_alloc] at hzW2
    go_wp2_with fail
    go_ret
    exact ⟨by first | rfl | (simp; done), by (repeat' (first | (with_reducible exact Below.refl _ _) | (with_reducible assumption) | (with_reducible refine Below.alloc ?_ ?_ _) | (with_reducible refine Below.drew ?_) | (with_reducible refine Below_drewN ?_ _) | (with_reducible refine Below.setCell ?_ ?_ _) | (refine Below.step (B' := ?_) (b := ?_) ?_ ?_ ?_; rotate_left 2; (with_reducible assumption)) | go_size))⟩
end Go.Proofs.Try
