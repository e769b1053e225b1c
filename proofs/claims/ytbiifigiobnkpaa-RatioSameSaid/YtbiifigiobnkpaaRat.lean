/- Contracts of ratio.Ceil and ratio.Near. -/
import Derived.Test.YtbiifigiobnkpaaFix
import Derived.Test.YtbiifigiobnkpaaRef4
import Derived.Deep.RegionWith
import Derived.Deep.DeepCutAuto
namespace Go.Proofs.Try
open Go.RowKit
set_option linter.unusedVariables false

def pv (c n : Int) : Int := if c = 0 then 0 else if n < 18446744073709551616 then n else 0
def pe (c n : Int) : Int := if c = 0 then 20 else if n < 18446744073709551616 then 0 else 10
def cq (P c : Int) : Int := P / c + (if P % c = 0 then 0 else 1)
def nq (P c : Int) : Int := P / c + (if c - P % c ≤ P % c then 1 else 0)
theorem quo_b (P c : Int) (h0 : 0 ≤ P) (hc : 0 < c) (h : P ≤ 340282366920938463426481119284349108225) : P / c ≤ 340282366920938463426481119284349108225 :=
  Int.le_trans (Int.ediv_le_self c h0) h

theorem upC_t (r : Int) (h : r ≠ 0) (w : World) :
    Calls Try.prog 51 #[.int .u64 r] w fun e w' => e = .returned (.bool true) ∧ w = w' := by
  have h1 : (r != 0) = true := by simpa using h
  have h2 : (r == 0) = false := by simpa using h
  clear h
  go_enter Try.func51, Try.ntmps51
  go_wp2_with fail
  go_ret
  exact ⟨rfl, rfl⟩
theorem upC_f (r : Int) (h : r = 0) (w : World) :
    Calls Try.prog 51 #[.int .u64 r] w fun e w' => e = .returned (.bool false) ∧ w = w' := by
  subst h
  go_enter Try.func51, Try.ntmps51
  go_wp2_with fail
  go_ret
  exact ⟨rfl, rfl⟩
theorem upN_t (r c : Int) (g : Nat) (h0 : 0 ≤ r) (h1 : r ≤ c) (hc : c < 18446744073709551616) (h : c - r ≤ r) (w : World) (hg : w.cell? ⟨g, 0, none⟩ = some (.int .u64 c)) :
    Calls Try.prog 52 #[.int .u64 r, .pointer (some ⟨g, 0, none⟩)] w fun e w' => e = .returned (.bool true) ∧ w = w' := by
  have E1 : IntKind.u64.wrap (c - r) = c - r := by rw [IntKind.wrap_u64]; omega
  go_enter Try.func52, Try.ntmps52
  go_wp2_with fail
  go_ret
  exact ⟨by first | rfl | (simp; omega), rfl⟩
theorem upN_f (r c : Int) (g : Nat) (h0 : 0 ≤ r) (h1 : r ≤ c) (hc : c < 18446744073709551616) (h : ¬ c - r ≤ r) (w : World) (hg : w.cell? ⟨g, 0, none⟩ = some (.int .u64 c)) :
    Calls Try.prog 52 #[.int .u64 r, .pointer (some ⟨g, 0, none⟩)] w fun e w' => e = .returned (.bool false) ∧ w = w' := by
  have E1 : IntKind.u64.wrap (c - r) = c - r := by rw [IntKind.wrap_u64]; omega
  have h' : r < c - r := by omega
  clear h
  go_enter Try.func52, Try.ntmps52
  go_wp2_with fail
  go_ret
  exact ⟨by first | rfl | (simp; omega), rfl⟩

set_option maxRecDepth 100000 in
set_option maxHeartbeats 2000000 in
theorem partC_c (a b c : Int) (ha : 0 ≤ a) (hb : 0 ≤ b) (hc : 0 ≤ c) (ha' : a < 18446744073709551616) (hb' : b < 18446744073709551616) (hc' : c < 18446744073709551616) (w : World) :
    Calls Try.prog 48 #[.int .u64 a, .int .u64 b, .int .u64 c, .func (.func 51) #[] #[]] w fun r w' => r = .returned (.tuple #[.int .u64 (pv c (cq (a * b) c)), .int .i64 (pe c (cq (a * b) c))]) ∧ Below w.heap.size w w' := by
  have hp := Int.mul_nonneg ha hb
  have hp' : a * b ≤ 18446744073709551615 * 18446744073709551615 := Int.mul_le_mul (by omega) (by omega) hb (by omega)
  by_cases h0 : c = 0
  · subst h0
    have k1 : dE 0 = 20 := by decide +kernel
    have q1 : ∀ n, pv 0 n = 0 := fun n => by rw [pv, if_pos rfl]
    have q2 : ∀ n, pe 0 n = 20 := fun n => by rw [pe, if_pos rfl]
    go_enter Try.func48, Try.ntmps48
    go_wp2_with fail
    refine (wmul_c _ _ (by omega) (by omega) (by omega) (by omega) _).mono ?_
    rintro e w2 ⟨rfl, hb2⟩
    obtain ⟨hc_w2, hf_w2, hz_w2⟩ := kept hb2
    go_wp2_with fail
    refine (wdiv_c _ _ _ (by omega) (by omega) (by omega) (by omega) (by omega) (by omega) _).mono ?_
    rintro e w3 ⟨rfl, hb3⟩
    obtain ⟨hc_w3, hf_w3, hz_w3⟩ := kept hb3
    go_wp2_with fail
    go_ret2
    exact ⟨by rw [q1, q2]; try rfl, by (repeat' (first | (with_reducible exact Below.refl _ _) | (with_reducible assumption) | (with_reducible refine Below.alloc ?_ ?_ _) | (with_reducible refine Below.drew ?_) | (with_reducible refine Below_drewN ?_ _) | (with_reducible refine Below.setCell ?_ ?_ _) | (refine Below.step (B' := ?_) (b := ?_) ?_ ?_ ?_; rotate_left 2; (with_reducible assumption)) | go_size))⟩
  · obtain ⟨m1, m2, m3, m4, m5⟩ := part_math (a * b) c hp (by omega)
    have r0 := Int.emod_nonneg (a * b) h0
    have r1 := Int.emod_lt_of_pos (a * b) (show 0 < c by omega)
    have qb := quo_b (a * b) c hp (by omega) (by omega)
    by_cases hu : a * b % c = 0
    · by_cases h1 : a * b / c < 18446744073709551616
      · have n1 : cq (a * b) c = a * b / c := by unfold cq; rw [if_pos hu]; omega
        have q1 : pv c (cq (a * b) c) = a * b / c := by rw [n1, pv, if_neg h0, if_pos h1]
        have q2 : pe c (cq (a * b) c) = 0 := by rw [n1, pe, if_neg h0, if_pos h1]
        have e1 : (a * b / c) / 18446744073709551616 = 0 := by omega
        have e2 : (a * b / c) % 18446744073709551616 = a * b / c := by omega
        rw [e1] at m1
        rw [e2] at m2
        have HN := Lib.hid n1
        clear n1
        have HQ1 := Lib.hid q1
        have HQ2 := Lib.hid q2
        clear q1 q2
        go_enter Try.func48, Try.ntmps48
        go_wp2_with fail
        refine (wmul_c _ _ (by omega) (by omega) (by omega) (by omega) _).mono ?_
        rintro e w2 ⟨rfl, hb2⟩
        obtain ⟨hc_w2, hf_w2, hz_w2⟩ := kept hb2
        go_wp2_with fail
        refine (wdiv_c _ _ _ (by omega) (by omega) (by omega) (by omega) (by omega) (by omega) _).mono ?_
        rintro e w3 ⟨rfl, hb3⟩
        obtain ⟨hc_w3, hf_w3, hz_w3⟩ := kept hb3
        go_wp2_with fail
        refine (upC_f 0 rfl _).mono ?_
        rintro e w4 ⟨rfl, rfl⟩
        go_wp2_with fail
        go_ret2
        exact ⟨by rw [HQ1.out, HQ2.out]; try rfl, by (repeat' (first | (with_reducible exact Below.refl _ _) | (with_reducible assumption) | (with_reducible refine Below.alloc ?_ ?_ _) | (with_reducible refine Below.drew ?_) | (with_reducible refine Below_drewN ?_ _) | (with_reducible refine Below.setCell ?_ ?_ _) | (refine Below.step (B' := ?_) (b := ?_) ?_ ?_ ?_; rotate_left 2; (with_reducible assumption)) | go_size))⟩
      · have n1 : cq (a * b) c = a * b / c := by unfold cq; rw [if_pos hu]; omega
        have q1 : pv c (cq (a * b) c) = 0 := by rw [n1, pv, if_neg h0, if_neg h1]
        have q2 : pe c (cq (a * b) c) = 10 := by rw [n1, pe, if_neg h0, if_neg h1]
        have e1 : ((a * b / c) / 18446744073709551616 == 0) = false := by simp; omega
        have e2 : ((a * b / c) / 18446744073709551616 != 0) = true := by simp; omega
        have HN := Lib.hid n1
        clear n1
        have HQ1 := Lib.hid q1
        have HQ2 := Lib.hid q2
        clear q1 q2
        go_enter Try.func48, Try.ntmps48
        go_wp2_with fail
        refine (wmul_c _ _ (by omega) (by omega) (by omega) (by omega) _).mono ?_
        rintro e w2 ⟨rfl, hb2⟩
        obtain ⟨hc_w2, hf_w2, hz_w2⟩ := kept hb2
        go_wp2_with fail
        refine (wdiv_c _ _ _ (by omega) (by omega) (by omega) (by omega) (by omega) (by omega) _).mono ?_
        rintro e w3 ⟨rfl, hb3⟩
        obtain ⟨hc_w3, hf_w3, hz_w3⟩ := kept hb3
        go_wp2_with fail
        refine (upC_f 0 rfl _).mono ?_
        rintro e w4 ⟨rfl, rfl⟩
        go_wp2_with fail
        go_ret2
        exact ⟨by rw [HQ1.out, HQ2.out]; try rfl, by (repeat' (first | (with_reducible exact Below.refl _ _) | (with_reducible assumption) | (with_reducible refine Below.alloc ?_ ?_ _) | (with_reducible refine Below.drew ?_) | (with_reducible refine Below_drewN ?_ _) | (with_reducible refine Below.setCell ?_ ?_ _) | (refine Below.step (B' := ?_) (b := ?_) ?_ ?_ ?_; rotate_left 2; (with_reducible assumption)) | go_size))⟩
    · by_cases h1 : a * b / c + 1 < 18446744073709551616
      · have n1 : cq (a * b) c = a * b / c + 1 := by unfold cq; rw [if_neg hu]
        obtain ⟨s1, s2, s3⟩ := plus_math (a * b / c) 1 m5 (by omega) (by omega) (by omega)
        have q1 : pv c (cq (a * b) c) = a * b / c + 1 := by rw [n1, pv, if_neg h0, if_pos h1]
        have q2 : pe c (cq (a * b) c) = 0 := by rw [n1, pe, if_neg h0, if_pos h1]
        have e1 : (a * b / c + 1) / 18446744073709551616 = 0 := by omega
        have e2 : (a * b / c + 1) % 18446744073709551616 = a * b / c + 1 := by omega
        rw [e1] at s1
        rw [e2] at s2
        have HN := Lib.hid n1
        clear n1
        have HQ1 := Lib.hid q1
        have HQ2 := Lib.hid q2
        clear q1 q2
        go_enter Try.func48, Try.ntmps48
        go_wp2_with fail
        refine (wmul_c _ _ (by omega) (by omega) (by omega) (by omega) _).mono ?_
        rintro e w2 ⟨rfl, hb2⟩
        obtain ⟨hc_w2, hf_w2, hz_w2⟩ := kept hb2
        go_wp2_with fail
        refine (wdiv_c _ _ _ (by omega) (by omega) (by omega) (by omega) (by omega) (by omega) _).mono ?_
        rintro e w3 ⟨rfl, hb3⟩
        obtain ⟨hc_w3, hf_w3, hz_w3⟩ := kept hb3
        go_wp2_with fail
        refine (upC_t _ hu _).mono ?_
        rintro e w4 ⟨rfl, rfl⟩
        go_wp2_with fail
        go_region_with (first
          | (go_at_call 63; refine (wof_c _ _).mono ?_; rintro e w4 ⟨rfl, hb4⟩; obtain ⟨hc_w4, hf_w4, hz_w4⟩ := kept hb4; (try have hzw30_w4 : w3.heap.size < w4.heap.size := (by have := hz_w4; first | omega | (simp at this; omega))))
          | (go_at_call 54; refine (wadd_c _ _ _ _ (by omega) (by omega) (by omega) (by omega) (by omega) (by omega) (by omega) (by omega) _).mono ?_; rintro e w5 ⟨rfl, hb5⟩; obtain ⟨hc_w5, hf_w5, hz_w5⟩ := kept hb5; (try have hzw30_w5 : w3.heap.size < w5.heap.size := (by have := hz_w5; first | omega | (simp at this; omega)))))
        all_goals
          go_wp2_with fail
          go_ret2
          exact ⟨by rw [HQ1.out, HQ2.out]; try rfl, by (repeat' (first | (with_reducible exact Below.refl _ _) | (with_reducible assumption) | (with_reducible refine Below.alloc ?_ ?_ _) | (with_reducible refine Below.drew ?_) | (with_reducible refine Below_drewN ?_ _) | (with_reducible refine Below.setCell ?_ ?_ _) | (refine Below.step (B' := ?_) (b := ?_) ?_ ?_ ?_; rotate_left 2; (with_reducible assumption)) | go_size))⟩
      · have n1 : cq (a * b) c = a * b / c + 1 := by unfold cq; rw [if_neg hu]
        obtain ⟨s1, s2, s3⟩ := plus_math (a * b / c) 1 m5 (by omega) (by omega) (by omega)
        have q1 : pv c (cq (a * b) c) = 0 := by rw [n1, pv, if_neg h0, if_neg h1]
        have q2 : pe c (cq (a * b) c) = 10 := by rw [n1, pe, if_neg h0, if_neg h1]
        have e1 : ((a * b / c + 1) / 18446744073709551616 == 0) = false := by simp; omega
        have e2 : ((a * b / c + 1) / 18446744073709551616 != 0) = true := by simp; omega
        have HN := Lib.hid n1
        clear n1
        have HQ1 := Lib.hid q1
        have HQ2 := Lib.hid q2
        clear q1 q2
        go_enter Try.func48, Try.ntmps48
        go_wp2_with fail
        refine (wmul_c _ _ (by omega) (by omega) (by omega) (by omega) _).mono ?_
        rintro e w2 ⟨rfl, hb2⟩
        obtain ⟨hc_w2, hf_w2, hz_w2⟩ := kept hb2
        go_wp2_with fail
        refine (wdiv_c _ _ _ (by omega) (by omega) (by omega) (by omega) (by omega) (by omega) _).mono ?_
        rintro e w3 ⟨rfl, hb3⟩
        obtain ⟨hc_w3, hf_w3, hz_w3⟩ := kept hb3
        go_wp2_with fail
        refine (upC_t _ hu _).mono ?_
        rintro e w4 ⟨rfl, rfl⟩
        go_wp2_with fail
        go_region_with (first
          | (go_at_call 63; refine (wof_c _ _).mono ?_; rintro e w4 ⟨rfl, hb4⟩; obtain ⟨hc_w4, hf_w4, hz_w4⟩ := kept hb4; (try have hzw30_w4 : w3.heap.size < w4.heap.size := (by have := hz_w4; first | omega | (simp at this; omega))))
          | (go_at_call 54; refine (wadd_c _ _ _ _ (by omega) (by omega) (by omega) (by omega) (by omega) (by omega) (by omega) (by omega) _).mono ?_; rintro e w5 ⟨rfl, hb5⟩; obtain ⟨hc_w5, hf_w5, hz_w5⟩ := kept hb5; (try have hzw30_w5 : w3.heap.size < w5.heap.size := (by have := hz_w5; first | omega | (simp at this; omega)))))
        all_goals
          go_wp2_with fail
          go_ret2
          exact ⟨by rw [HQ1.out, HQ2.out]; try rfl, by (repeat' (first | (with_reducible exact Below.refl _ _) | (with_reducible assumption) | (with_reducible refine Below.alloc ?_ ?_ _) | (with_reducible refine Below.drew ?_) | (with_reducible refine Below_drewN ?_ _) | (with_reducible refine Below.setCell ?_ ?_ _) | (refine Below.step (B' := ?_) (b := ?_) ?_ ?_ ?_; rotate_left 2; (with_reducible assumption)) | go_size))⟩

set_option maxRecDepth 100000 in
set_option maxHeartbeats 2000000 in
theorem partN_c (a b c : Int) (g : Nat) (ha : 0 ≤ a) (hb : 0 ≤ b) (hc : 0 ≤ c) (ha' : a < 18446744073709551616) (hb' : b < 18446744073709551616) (hc' : c < 18446744073709551616) (w : World) (hg : g < w.heap.size) (hcg : w.cell? ⟨g, 0, none⟩ = some (.int .u64 c)) :
    Calls Try.prog 48 #[.int .u64 a, .int .u64 b, .int .u64 c, .func (.func 52) #[] #[.pointer (some ⟨g, 0, none⟩)]] w fun r w' => r = .returned (.tuple #[.int .u64 (pv c (nq (a * b) c)), .int .i64 (pe c (nq (a * b) c))]) ∧ Below w.heap.size w w' := by
  have hp := Int.mul_nonneg ha hb
  have hp' : a * b ≤ 18446744073709551615 * 18446744073709551615 := Int.mul_le_mul (by omega) (by omega) hb (by omega)
  by_cases h0 : c = 0
  · subst h0
    have k1 : dE 0 = 20 := by decide +kernel
    have q1 : ∀ n, pv 0 n = 0 := fun n => by rw [pv, if_pos rfl]
    have q2 : ∀ n, pe 0 n = 20 := fun n => by rw [pe, if_pos rfl]
    go_enter Try.func48, Try.ntmps48
    go_wp2_with fail
    refine (wmul_c _ _ (by omega) (by omega) (by omega) (by omega) _).mono ?_
    rintro e w2 ⟨rfl, hb2⟩
    obtain ⟨hc_w2, hf_w2, hz_w2⟩ := kept hb2
    go_wp2_with fail
    refine (wdiv_c _ _ _ (by omega) (by omega) (by omega) (by omega) (by omega) (by omega) _).mono ?_
    rintro e w3 ⟨rfl, hb3⟩
    obtain ⟨hc_w3, hf_w3, hz_w3⟩ := kept hb3
    go_wp2_with fail
    go_ret2
    exact ⟨by rw [q1, q2]; try rfl, by (repeat' (first | (with_reducible exact Below.refl _ _) | (with_reducible assumption) | (with_reducible refine Below.alloc ?_ ?_ _) | (with_reducible refine Below.drew ?_) | (with_reducible refine Below_drewN ?_ _) | (with_reducible refine Below.setCell ?_ ?_ _) | (refine Below.step (B' := ?_) (b := ?_) ?_ ?_ ?_; rotate_left 2; (with_reducible assumption)) | go_size))⟩
  · obtain ⟨m1, m2, m3, m4, m5⟩ := part_math (a * b) c hp (by omega)
    have r0 := Int.emod_nonneg (a * b) h0
    have r1 := Int.emod_lt_of_pos (a * b) (show 0 < c by omega)
    have qb := quo_b (a * b) c hp (by omega) (by omega)
    by_cases hu : c - a * b % c ≤ a * b % c
    · by_cases h1 : a * b / c + 1 < 18446744073709551616
      · have n1 : nq (a * b) c = a * b / c + 1 := by unfold nq; rw [if_pos hu]
        obtain ⟨s1, s2, s3⟩ := plus_math (a * b / c) 1 m5 (by omega) (by omega) (by omega)
        have q1 : pv c (nq (a * b) c) = a * b / c + 1 := by rw [n1, pv, if_neg h0, if_pos h1]
        have q2 : pe c (nq (a * b) c) = 0 := by rw [n1, pe, if_neg h0, if_pos h1]
        have e1 : (a * b / c + 1) / 18446744073709551616 = 0 := by omega
        have e2 : (a * b / c + 1) % 18446744073709551616 = a * b / c + 1 := by omega
        rw [e1] at s1
        rw [e2] at s2
        have HN := Lib.hid n1
        clear n1
        have HQ1 := Lib.hid q1
        have HQ2 := Lib.hid q2
        clear q1 q2
        go_enter Try.func48, Try.ntmps48
        go_wp2_with fail
        refine (wmul_c _ _ (by omega) (by omega) (by omega) (by omega) _).mono ?_
        rintro e w2 ⟨rfl, hb2⟩
        obtain ⟨hc_w2, hf_w2, hz_w2⟩ := kept hb2; (try have hzg_w2 : g < w2.heap.size := (by have := hz_w2; first | omega | (simp at this; omega)))
        go_wp2_with fail
        refine (wdiv_c _ _ _ (by omega) (by omega) (by omega) (by omega) (by omega) (by omega) _).mono ?_
        rintro e w3 ⟨rfl, hb3⟩
        obtain ⟨hc_w3, hf_w3, hz_w3⟩ := kept hb3; (try have hzg_w3 : g < w3.heap.size := (by have := hz_w3; first | omega | (simp at this; omega)))
        go_wp2_with fail
        refine (upN_t _ c g (by omega) (by omega) (by omega) hu _ (by go_simp)).mono ?_
        rintro e w4 ⟨rfl, rfl⟩
        go_wp2_with fail
        go_region_with (first
          | (go_at_call 63; refine (wof_c _ _).mono ?_; rintro e w4 ⟨rfl, hb4⟩; obtain ⟨hc_w4, hf_w4, hz_w4⟩ := kept hb4; (try have hzw30_w4 : w3.heap.size < w4.heap.size := (by have := hz_w4; first | omega | (simp at this; omega))))
          | (go_at_call 54; refine (wadd_c _ _ _ _ (by omega) (by omega) (by omega) (by omega) (by omega) (by omega) (by omega) (by omega) _).mono ?_; rintro e w5 ⟨rfl, hb5⟩; obtain ⟨hc_w5, hf_w5, hz_w5⟩ := kept hb5; (try have hzw30_w5 : w3.heap.size < w5.heap.size := (by have := hz_w5; first | omega | (simp at this; omega)))))
        all_goals
          go_wp2_with fail
          go_ret2
          exact ⟨by rw [HQ1.out, HQ2.out]; try rfl, by (repeat' (first | (with_reducible exact Below.refl _ _) | (with_reducible assumption) | (with_reducible refine Below.alloc ?_ ?_ _) | (with_reducible refine Below.drew ?_) | (with_reducible refine Below_drewN ?_ _) | (with_reducible refine Below.setCell ?_ ?_ _) | (refine Below.step (B' := ?_) (b := ?_) ?_ ?_ ?_; rotate_left 2; (with_reducible assumption)) | go_size))⟩
      · have n1 : nq (a * b) c = a * b / c + 1 := by unfold nq; rw [if_pos hu]
        obtain ⟨s1, s2, s3⟩ := plus_math (a * b / c) 1 m5 (by omega) (by omega) (by omega)
        have q1 : pv c (nq (a * b) c) = 0 := by rw [n1, pv, if_neg h0, if_neg h1]
        have q2 : pe c (nq (a * b) c) = 10 := by rw [n1, pe, if_neg h0, if_neg h1]
        have e1 : ((a * b / c + 1) / 18446744073709551616 == 0) = false := by simp; omega
        have e2 : ((a * b / c + 1) / 18446744073709551616 != 0) = true := by simp; omega
        have HN := Lib.hid n1
        clear n1
        have HQ1 := Lib.hid q1
        have HQ2 := Lib.hid q2
        clear q1 q2
        go_enter Try.func48, Try.ntmps48
        go_wp2_with fail
        refine (wmul_c _ _ (by omega) (by omega) (by omega) (by omega) _).mono ?_
        rintro e w2 ⟨rfl, hb2⟩
        obtain ⟨hc_w2, hf_w2, hz_w2⟩ := kept hb2; (try have hzg_w2 : g < w2.heap.size := (by have := hz_w2; first | omega | (simp at this; omega)))
        go_wp2_with fail
        refine (wdiv_c _ _ _ (by omega) (by omega) (by omega) (by omega) (by omega) (by omega) _).mono ?_
        rintro e w3 ⟨rfl, hb3⟩
        obtain ⟨hc_w3, hf_w3, hz_w3⟩ := kept hb3; (try have hzg_w3 : g < w3.heap.size := (by have := hz_w3; first | omega | (simp at this; omega)))
        go_wp2_with fail
        refine (upN_t _ c g (by omega) (by omega) (by omega) hu _ (by go_simp)).mono ?_
        rintro e w4 ⟨rfl, rfl⟩
        go_wp2_with fail
        go_region_with (first
          | (go_at_call 63; refine (wof_c _ _).mono ?_; rintro e w4 ⟨rfl, hb4⟩; obtain ⟨hc_w4, hf_w4, hz_w4⟩ := kept hb4; (try have hzw30_w4 : w3.heap.size < w4.heap.size := (by have := hz_w4; first | omega | (simp at this; omega))))
          | (go_at_call 54; refine (wadd_c _ _ _ _ (by omega) (by omega) (by omega) (by omega) (by omega) (by omega) (by omega) (by omega) _).mono ?_; rintro e w5 ⟨rfl, hb5⟩; obtain ⟨hc_w5, hf_w5, hz_w5⟩ := kept hb5; (try have hzw30_w5 : w3.heap.size < w5.heap.size := (by have := hz_w5; first | omega | (simp at this; omega)))))
        all_goals
          go_wp2_with fail
          go_ret2
          exact ⟨by rw [HQ1.out, HQ2.out]; try rfl, by (repeat' (first | (with_reducible exact Below.refl _ _) | (with_reducible assumption) | (with_reducible refine Below.alloc ?_ ?_ _) | (with_reducible refine Below.drew ?_) | (with_reducible refine Below_drewN ?_ _) | (with_reducible refine Below.setCell ?_ ?_ _) | (refine Below.step (B' := ?_) (b := ?_) ?_ ?_ ?_; rotate_left 2; (with_reducible assumption)) | go_size))⟩
    · by_cases h1 : a * b / c < 18446744073709551616
      · have n1 : nq (a * b) c = a * b / c := by unfold nq; rw [if_neg hu]; omega
        have q1 : pv c (nq (a * b) c) = a * b / c := by rw [n1, pv, if_neg h0, if_pos h1]
        have q2 : pe c (nq (a * b) c) = 0 := by rw [n1, pe, if_neg h0, if_pos h1]
        have e1 : (a * b / c) / 18446744073709551616 = 0 := by omega
        have e2 : (a * b / c) % 18446744073709551616 = a * b / c := by omega
        rw [e1] at m1
        rw [e2] at m2
        have HN := Lib.hid n1
        clear n1
        have HQ1 := Lib.hid q1
        have HQ2 := Lib.hid q2
        clear q1 q2
        go_enter Try.func48, Try.ntmps48
        go_wp2_with fail
        refine (wmul_c _ _ (by omega) (by omega) (by omega) (by omega) _).mono ?_
        rintro e w2 ⟨rfl, hb2⟩
        obtain ⟨hc_w2, hf_w2, hz_w2⟩ := kept hb2; (try have hzg_w2 : g < w2.heap.size := (by have := hz_w2; first | omega | (simp at this; omega)))
        go_wp2_with fail
        refine (wdiv_c _ _ _ (by omega) (by omega) (by omega) (by omega) (by omega) (by omega) _).mono ?_
        rintro e w3 ⟨rfl, hb3⟩
        obtain ⟨hc_w3, hf_w3, hz_w3⟩ := kept hb3; (try have hzg_w3 : g < w3.heap.size := (by have := hz_w3; first | omega | (simp at this; omega)))
        go_wp2_with fail
        refine (upN_f _ c g (by omega) (by omega) (by omega) (by omega) _ (by go_simp)).mono ?_
        rintro e w4 ⟨rfl, rfl⟩
        go_wp2_with fail
        go_ret2
        exact ⟨by rw [HQ1.out, HQ2.out]; try rfl, by (repeat' (first | (with_reducible exact Below.refl _ _) | (with_reducible assumption) | (with_reducible refine Below.alloc ?_ ?_ _) | (with_reducible refine Below.drew ?_) | (with_reducible refine Below_drewN ?_ _) | (with_reducible refine Below.setCell ?_ ?_ _) | (refine Below.step (B' := ?_) (b := ?_) ?_ ?_ ?_; rotate_left 2; (with_reducible assumption)) | go_size))⟩
      · have n1 : nq (a * b) c = a * b / c := by unfold nq; rw [if_neg hu]; omega
        have q1 : pv c (nq (a * b) c) = 0 := by rw [n1, pv, if_neg h0, if_neg h1]
        have q2 : pe c (nq (a * b) c) = 10 := by rw [n1, pe, if_neg h0, if_neg h1]
        have e1 : ((a * b / c) / 18446744073709551616 == 0) = false := by simp; omega
        have e2 : ((a * b / c) / 18446744073709551616 != 0) = true := by simp; omega
        have HN := Lib.hid n1
        clear n1
        have HQ1 := Lib.hid q1
        have HQ2 := Lib.hid q2
        clear q1 q2
        go_enter Try.func48, Try.ntmps48
        go_wp2_with fail
        refine (wmul_c _ _ (by omega) (by omega) (by omega) (by omega) _).mono ?_
        rintro e w2 ⟨rfl, hb2⟩
        obtain ⟨hc_w2, hf_w2, hz_w2⟩ := kept hb2; (try have hzg_w2 : g < w2.heap.size := (by have := hz_w2; first | omega | (simp at this; omega)))
        go_wp2_with fail
        refine (wdiv_c _ _ _ (by omega) (by omega) (by omega) (by omega) (by omega) (by omega) _).mono ?_
        rintro e w3 ⟨rfl, hb3⟩
        obtain ⟨hc_w3, hf_w3, hz_w3⟩ := kept hb3; (try have hzg_w3 : g < w3.heap.size := (by have := hz_w3; first | omega | (simp at this; omega)))
        go_wp2_with fail
        refine (upN_f _ c g (by omega) (by omega) (by omega) (by omega) _ (by go_simp)).mono ?_
        rintro e w4 ⟨rfl, rfl⟩
        go_wp2_with fail
        go_ret2
        exact ⟨by rw [HQ1.out, HQ2.out]; try rfl, by (repeat' (first | (with_reducible exact Below.refl _ _) | (with_reducible assumption) | (with_reducible refine Below.alloc ?_ ?_ _) | (with_reducible refine Below.drew ?_) | (with_reducible refine Below_drewN ?_ _) | (with_reducible refine Below.setCell ?_ ?_ _) | (refine Below.step (B' := ?_) (b := ?_) ?_ ?_ ?_; rotate_left 2; (with_reducible assumption)) | go_size))⟩


theorem ceil_c (a b c : Int) (ha : 0 ≤ a) (hb : 0 ≤ b) (hc : 0 ≤ c) (ha' : a < 18446744073709551616) (hb' : b < 18446744073709551616) (hc' : c < 18446744073709551616) (w : World) :
    Calls Try.prog 22 #[.int .u64 a, .int .u64 b, .int .u64 c] w fun r w' => r = .returned (.tuple #[.int .u64 (pv c (cq (a * b) c)), .int .i64 (pe c (cq (a * b) c))]) ∧ Below w.heap.size w w' := by
  have hmf : ∀ (fn : Fn) (first cap : Array Value) (w : World), (Instr.makeFunc fn first cap).run Try.prog w = .ok (.func fn first cap) w := fun _ _ _ _ => rfl
  go_enter Try.func22, Try.ntmps22
  go_wp2_with fail
  refine (partC_c _ _ _ ha hb hc ha' hb' hc' _).mono ?_
  rintro e w2 ⟨rfl, hb2⟩
  go_wp2_with fail
  go_ret2
  exact ⟨rfl, hb2⟩
theorem near_c (a b c : Int) (ha : 0 ≤ a) (hb : 0 ≤ b) (hc : 0 ≤ c) (ha' : a < 18446744073709551616) (hb' : b < 18446744073709551616) (hc' : c < 18446744073709551616) (w : World) :
    Calls Try.prog 24 #[.int .u64 a, .int .u64 b, .int .u64 c] w fun r w' => r = .returned (.tuple #[.int .u64 (pv c (nq (a * b) c)), .int .i64 (pe c (nq (a * b) c))]) ∧ Below w.heap.size w w' := by
  have hmf : ∀ (fn : Fn) (first cap : Array Value) (w : World), (Instr.makeFunc fn first cap).run Try.prog w = .ok (.func fn first cap) w := fun _ _ _ _ => rfl
  go_enter Try.func24, Try.ntmps24
  go_wp2_with fail
  refine (partN_c _ _ _ _ ha hb hc ha' hb' hc' _ (by simp) (by go_simp)).mono ?_
  rintro e w2 ⟨rfl, hb2⟩
  go_wp2_with fail
  go_ret2
  exact ⟨rfl, by (repeat' (first | (with_reducible exact Below.refl _ _) | (with_reducible assumption) | (with_reducible refine Below.alloc ?_ ?_ _) | (with_reducible refine Below.drew ?_) | (with_reducible refine Below_drewN ?_ _) | (with_reducible refine Below.setCell ?_ ?_ _) | (refine Below.step (B' := ?_) (b := ?_) ?_ ?_ ?_; rotate_left 2; (with_reducible assumption)) | go_size))⟩
end Go.Proofs.Try
