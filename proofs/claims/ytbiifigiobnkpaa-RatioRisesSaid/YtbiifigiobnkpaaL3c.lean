/- The walks of RatioParts and RatioRises. -/
import Derived.Test.YtbiifigiobnkpaaW3
namespace Go.Proofs.Try
open Go.RowKit
set_option linter.unusedVariables false

theorem floor_t (a b c x e : Int) (hx : fl a b c = x) (he : flE a b c = e) (ha : 0 ≤ a) (hb : 0 ≤ b) (hc : 0 ≤ c) (ha' : a < 18446744073709551616) (hb' : b < 18446744073709551616) (hc' : c < 18446744073709551616) (w : World) :
    Calls Try.prog 20 #[.int .u64 a, .int .u64 b, .int .u64 c] w fun r w' => r = .returned (.tuple #[.int .u64 x, .int .i64 e]) ∧ Below w.heap.size w w' := by
  subst hx he
  exact floor_c a b c ha hb hc ha' hb' hc' w
theorem ceil_t (a b c x e : Int) (hx : pv c (cq (a * b) c) = x) (he : pe c (cq (a * b) c) = e) (ha : 0 ≤ a) (hb : 0 ≤ b) (hc : 0 ≤ c) (ha' : a < 18446744073709551616) (hb' : b < 18446744073709551616) (hc' : c < 18446744073709551616) (w : World) :
    Calls Try.prog 22 #[.int .u64 a, .int .u64 b, .int .u64 c] w fun r w' => r = .returned (.tuple #[.int .u64 x, .int .i64 e]) ∧ Below w.heap.size w w' := by
  subst hx he
  exact ceil_c a b c ha hb hc ha' hb' hc' w
theorem near_t (a b c x e : Int) (hx : pv c (nq (a * b) c) = x) (he : pe c (nq (a * b) c) = e) (ha : 0 ≤ a) (hb : 0 ≤ b) (hc : 0 ≤ c) (ha' : a < 18446744073709551616) (hb' : b < 18446744073709551616) (hc' : c < 18446744073709551616) (w : World) :
    Calls Try.prog 24 #[.int .u64 a, .int .u64 b, .int .u64 c] w fun r w' => r = .returned (.tuple #[.int .u64 x, .int .i64 e]) ∧ Below w.heap.size w w' := by
  subst hx he
  exact near_c a b c ha hb hc ha' hb' hc' w
theorem fl_pv (a b c : Int) : fl a b c = pv c (a * b / c) ∧ flE a b c = pe c (a * b / c) := ⟨rfl, rfl⟩
theorem pv_z (n : Int) : pv 0 n = 0 ∧ pe 0 n = 20 := ⟨rfl, rfl⟩
theorem pv_y (c n : Int) (hc : 0 < c) (h : n < 18446744073709551616) : pv c n = n ∧ pe c n = 0 := by
  exact ⟨by rw [pv, if_neg (by omega), if_pos h], by rw [pe, if_neg (by omega), if_pos h]⟩
theorem pv_n (c n : Int) (hc : 0 < c) (h : 18446744073709551616 ≤ n) : pv c n = 0 ∧ pe c n = 10 := by
  exact ⟨by rw [pv, if_neg (by omega), if_neg (by omega)], by rw [pe, if_neg (by omega), if_neg (by omega)]⟩

theorem cq_anti (P c d : Int) (hP : 0 ≤ P) (hc : 0 < c) (h : c ≤ d) : cq P d ≤ cq P c := by
  rw [← ceil_eq P c hc, ← ceil_eq P d (by omega)]
  have h1 := Int.mul_ediv_add_emod (P + (c - 1)) c
  have h2 := Int.emod_lt_of_pos (P + (c - 1)) hc
  have h3 := Int.emod_nonneg (P + (c - 1)) (show c ≠ 0 by omega)
  have h4 : 0 ≤ (P + (c - 1)) / c := Int.ediv_nonneg (by omega) (by omega)
  generalize (P + (c - 1)) / c = q at *
  have h5 : (P + (d - 1)) < (q + 1) * d := by
    have : c * q ≤ d * q := Int.mul_le_mul_of_nonneg_right h h4
    rw [Int.add_mul, Int.mul_comm q d]; omega
  have := Int.ediv_lt_of_lt_mul (show 0 < d by omega) h5
  omega
theorem rises_f (a b c d : Int) (ha : 0 ≤ a) (hb : 0 ≤ b) (hc : 0 ≤ c) (hd : 0 ≤ d) :
    ∃ x e y f, fl (min a d) b c = x ∧ flE (min a d) b c = e ∧ fl (max a d) b c = y ∧ flE (max a d) b c = f ∧ ((e = 0 ∧ f = 0 ∧ x ≤ y) ∨ (e = 0 ∧ f = 10) ∨ (e = 10 ∧ f = 10) ∨ (e = 20 ∧ f = 20)) := by
  refine ⟨_, _, _, _, rfl, rfl, rfl, rfl, ?_⟩
  rw [(fl_pv _ _ _).1, (fl_pv _ _ _).2, (fl_pv _ _ _).1, (fl_pv _ _ _).2]
  by_cases h0 : c = 0
  · subst h0; exact .inr (.inr (.inr ⟨rfl, rfl⟩))
  · have hm : min a d * b / c ≤ max a d * b / c := Int.ediv_le_ediv (by omega) (Int.mul_le_mul_of_nonneg_right (by omega) hb)
    generalize min a d * b / c = q1 at *
    generalize max a d * b / c = q2 at *
    by_cases h1 : q1 < 18446744073709551616
    · have e1 := pv_y c q1 (by omega) h1
      by_cases h2 : q2 < 18446744073709551616
      · have e2 := pv_y c q2 (by omega) h2
        rw [e1.1, e1.2, e2.1, e2.2]; exact .inl ⟨rfl, rfl, hm⟩
      · have e2 := pv_n c q2 (by omega) (by omega)
        rw [e1.2, e2.2]; exact .inr (.inl ⟨rfl, rfl⟩)
    · have e1 := pv_n c q1 (by omega) (by omega)
      have e2 := pv_n c q2 (by omega) (by omega)
      rw [e1.2, e2.2]; exact .inr (.inr (.inl ⟨rfl, rfl⟩))
theorem rises_c (a b c d : Int) (ha : 0 ≤ a) (hb : 0 ≤ b) (hc : 0 ≤ c) (hd : 0 ≤ d) :
    ∃ x e y f, pv (min c d) (cq (a * b) (min c d)) = x ∧ pe (min c d) (cq (a * b) (min c d)) = e ∧ pv (max c d) (cq (a * b) (max c d)) = y ∧ pe (max c d) (cq (a * b) (max c d)) = f ∧ ((e = 0 ∧ f = 0 ∧ y ≤ x) ∨ e = 10 ∨ e = 20) := by
  refine ⟨_, _, _, _, rfl, rfl, rfl, rfl, ?_⟩
  have hp := Int.mul_nonneg ha hb
  by_cases h0 : min c d = 0
  · rw [h0]; exact .inr (.inr rfl)
  · have hm := cq_anti (a * b) (min c d) (max c d) hp (by omega) (by omega)
    have p1 : 0 < min c d := by omega
    have p2 : 0 < max c d := by omega
    generalize min c d = m at *
    generalize max c d = M at *
    by_cases h1 : cq (a * b) m < 18446744073709551616
    · have e1 := pv_y m _ p1 h1
      have e2 := pv_y M (cq (a * b) M) p2 (by omega)
      rw [e1.1, e1.2, e2.1, e2.2]; exact .inl ⟨rfl, rfl, hm⟩
    · have e1 := pv_n m (cq (a * b) m) p1 (by omega)
      rw [e1.2]; exact .inr (.inl rfl)

set_option maxRecDepth 100000 in
set_option maxHeartbeats 8000000 in
theorem walk_RatioRises (a0 a1 a2 a3 : Int) (w0 : (Lit.int .u64 a0).wf = true) (w1 : (Lit.int .u64 a1).wf = true) (w2 : (Lit.int .u64 a2).wf = true) (w3 : (Lit.int .u64 a3).wf = true) (w : World) :
    Calls Try.prog 8 #[.int .u64 a0, .int .u64 a1, .int .u64 a2, .int .u64 a3] w fun e w' => e = .returned (.bool true) ∧ Below w.heap.size w w' := by
  obtain ⟨h0, h0'⟩ := bounds_u64 w0
  obtain ⟨h1, h1'⟩ := bounds_u64 w1
  obtain ⟨h2, h2'⟩ := bounds_u64 w2
  obtain ⟨h3, h3'⟩ := bounds_u64 w3
  clear w0 w1 w2 w3
  obtain ⟨x, e, y, f, hx, he, hy, hf, hd⟩ := rises_f a0 a1 a2 a3 h0 h1 h2 h3
  obtain ⟨z, g, v, k, hz, hg, hv, hk, hd2⟩ := rises_c a0 a1 a2 a3 h0 h1 h2 h3
  have HX := Lib.hid hx
  have HE := Lib.hid he
  have HY := Lib.hid hy
  have HF := Lib.hid hf
  have HZ := Lib.hid hz
  have HG := Lib.hid hg
  have HV := Lib.hid hv
  have HK := Lib.hid hk
  clear hx he hy hf hz hg hv hk
  obtain ⟨j1, j2, j3, j4⟩ : (0 ≤ min a0 a3 ∧ min a0 a3 < 18446744073709551616) ∧ (0 ≤ max a0 a3 ∧ max a0 a3 < 18446744073709551616) ∧ (0 ≤ min a2 a3 ∧ min a2 a3 < 18446744073709551616) ∧ (0 ≤ max a2 a3 ∧ max a2 a3 < 18446744073709551616) := by omega
  obtain ⟨j1, j1'⟩ := j1
  obtain ⟨j2, j2'⟩ := j2
  obtain ⟨j3, j3'⟩ := j3
  obtain ⟨j4, j4'⟩ := j4
  rcases hd with ⟨rfl, rfl, hle⟩ | ⟨rfl, rfl⟩ | ⟨rfl, rfl⟩ | ⟨rfl, rfl⟩ <;> rcases hd2 with ⟨rfl, rfl, hle2⟩ | rfl | rfl
  all_goals
    go_enter Try.func8, Try.ntmps8
    go_wp2_with fail
    with_reducible refine (awake3 _).mono ?_
    rintro e w1 ⟨rfl, hb1⟩
    have hz1 := hb1.size
    go_wp2_with fail
    with_reducible refine (floor_t _ _ _ _ _ HX.out HE.out j1 h1 h2 j1' (by omega) (by omega) _).mono ?_
    rintro e w2 ⟨rfl, hb2⟩
    have hz2 := hb2.size
    go_wp2_with fail
    with_reducible refine (floor_t _ _ _ _ _ HY.out HF.out j2 h1 h2 j2' (by omega) (by omega) _).mono ?_
    rintro e w3 ⟨rfl, hb3⟩
    have hz3 := hb3.size
    go_wp2_with fail
    with_reducible refine (ceil_t _ _ _ _ _ HZ.out HG.out h0 h1 j3 (by omega) (by omega) j3' _).mono ?_
    rintro e w4 ⟨rfl, hb4⟩
    have hz4 := hb4.size
    go_wp2_with fail
    with_reducible refine (ceil_t _ _ _ _ _ HV.out HK.out h0 h1 j4 (by omega) (by omega) j4' _).mono ?_
    rintro e w5 ⟨rfl, hb5⟩
    have hz5 := hb5.size
    go_wp2_with fail
    go_ret
    exact ⟨by first | rfl | (simp; done) | (simp; omega), by (repeat' (first | (with_reducible exact Below.refl _ _) | (with_reducible assumption) | (with_reducible refine Below.alloc ?_ ?_ _) | (with_reducible refine Below.drew ?_) | (with_reducible refine Below_drewN ?_ _) | (with_reducible refine Below.setCell ?_ ?_ _) | (refine Below.step (B' := ?_) (b := ?_) ?_ ?_ ?_; rotate_left 2; (with_reducible assumption)) | go_size))⟩

/-- What the three parts tell. -/
def PartsAre (a b c x e y f z g : Int) : Prop :=
  (c = 0 ∧ e = 20 ∧ f = 20 ∧ g = 20 ∧ x = 0 ∧ y = 0 ∧ z = 0) ∨ (0 < c ∧ e = 10 ∧ f = 10 ∧ g = 10 ∧ x = 0 ∧ y = 0 ∧ z = 0) ∨
  (0 < c ∧ e = 0 ∧ x = 18446744073709551615 ∧ g = 10 ∧ z = 0 ∧ ((f = 0 ∧ y = 18446744073709551615) ∨ (f = 10 ∧ y = 0))) ∨
  (0 < c ∧ e = 0 ∧ f = 0 ∧ g = 0 ∧ 0 ≤ x ∧ x ≤ y ∧ y ≤ z ∧ z ≤ x + 1 ∧ z < 18446744073709551616 ∧ ((x * c = a * b ∧ z = x) ∨ (x * c ≠ a * b ∧ z = x + 1)))
theorem parts_are (a b c : Int) (ha : 0 ≤ a) (hb : 0 ≤ b) (hc : 0 ≤ c) :
    ∃ x e y f z g, (fl a b c = x ∧ flE a b c = e) ∧ (pv c (nq (a * b) c) = y ∧ pe c (nq (a * b) c) = f) ∧ (pv c (cq (a * b) c) = z ∧ pe c (cq (a * b) c) = g) ∧ PartsAre a b c x e y f z g := by
  refine ⟨_, _, _, _, _, _, ⟨rfl, rfl⟩, ⟨rfl, rfl⟩, ⟨rfl, rfl⟩, ?_⟩
  rw [(fl_pv _ _ _).1, (fl_pv _ _ _).2]
  have hp := Int.mul_nonneg ha hb
  unfold PartsAre
  by_cases h0 : c = 0
  · subst h0; exact .inl ⟨rfl, rfl, rfl, rfl, rfl, rfl, rfl⟩
  · right
    have hq := Int.mul_ediv_add_emod (a * b) c
    have hr := Int.emod_nonneg (a * b) h0
    have hr' := Int.emod_lt_of_pos (a * b) (show 0 < c by omega)
    have hq0 : 0 ≤ a * b / c := Int.ediv_nonneg hp hc
    have en : nq (a * b) c = a * b / c ∧ a * b % c < c - a * b % c ∨ nq (a * b) c = a * b / c + 1 ∧ c - a * b % c ≤ a * b % c := by unfold nq; split <;> omega
    have ec : cq (a * b) c = a * b / c ∧ a * b % c = 0 ∨ cq (a * b) c = a * b / c + 1 ∧ a * b % c ≠ 0 := by unfold cq; split <;> omega
    rw [Int.mul_comm c] at hq
    generalize nq (a * b) c = N at *
    generalize cq (a * b) c = C at *
    generalize a * b / c = q at *
    generalize a * b % c = r at *
    have hc0 : 0 < c := by omega
    by_cases h1 : C < 18446744073709551616
    · right; right
      have e1 := pv_y c q hc0 (by omega)
      have e2 := pv_y c N hc0 (by omega)
      have e3 := pv_y c C hc0 h1
      rw [e1.1, e1.2, e2.1, e2.2, e3.1, e3.2]
      refine ⟨hc0, rfl, rfl, rfl, hq0, by omega, by omega, by omega, h1, ?_⟩
      rcases ec with ⟨g1, g2⟩ | ⟨g1, g2⟩
      · exact .inl ⟨by omega, by omega⟩
      · exact .inr ⟨by omega, by omega⟩
    · have e3 := pv_n c C hc0 (by omega)
      by_cases h2 : q < 18446744073709551616
      · right; left
        have e1 := pv_y c q hc0 h2
        rw [e1.1, e1.2, e3.1, e3.2]
        refine ⟨hc0, rfl, by omega, rfl, rfl, ?_⟩
        by_cases h3 : N < 18446744073709551616
        · have e2 := pv_y c N hc0 h3
          rw [e2.1, e2.2]; exact .inl ⟨rfl, by omega⟩
        · have e2 := pv_n c N hc0 (by omega)
          rw [e2.1, e2.2]; exact .inr ⟨rfl, rfl⟩
      · left
        have e1 := pv_n c q hc0 (by omega)
        have e2 := pv_n c N hc0 (by omega)
        rw [e1.1, e1.2, e2.1, e2.2, e3.1, e3.2]
        exact ⟨hc0, rfl, rfl, rfl, rfl, rfl, rfl⟩
theorem one_pv (a b : Int) (h0 : 0 ≤ a * b) : (a * b < 18446744073709551616 ∧ fl a b 1 = a * b ∧ flE a b 1 = 0) ∨ (fl a b 1 = 0 ∧ flE a b 1 = 10) := by
  rw [(fl_pv _ _ _).1, (fl_pv _ _ _).2, Int.ediv_one]
  by_cases h : a * b < 18446744073709551616
  · exact .inl ⟨h, pv_y 1 _ (by omega) h⟩
  · exact .inr (pv_n 1 _ (by omega) (by omega))

set_option maxRecDepth 100000 in
set_option maxHeartbeats 8000000 in
theorem parts_walk (a b c x e y f z g p h q i : Int) (hx : fl a b c = x) (he : flE a b c = e) (hy : pv c (nq (a * b) c) = y) (hf : pe c (nq (a * b) c) = f) (hz : pv c (cq (a * b) c) = z) (hg : pe c (cq (a * b) c) = g)
    (hP : PartsAre a b c x e y f z g) (hp : fl x c 1 = p) (hh : flE x c 1 = h) (hq : fl a b 1 = q) (hi : flE a b 1 = i) (hpq : h = 10 ∨ h = 0 ∧ (i = 10 ∨ i = 0 ∧ p = x * c ∧ q = a * b))
    (ha : 0 ≤ a) (hb : 0 ≤ b) (hc : 0 ≤ c) (ha' : a < 18446744073709551616) (hb' : b < 18446744073709551616) (hc' : c < 18446744073709551616) (w : World) :
    Calls Try.prog 6 #[.int .u64 a, .int .u64 b, .int .u64 c] w fun e w' => e = .returned (.bool true) ∧ Below w.heap.size w w' := by
  have HX := Lib.hid hx
  have HE := Lib.hid he
  have HY := Lib.hid hy
  have HF := Lib.hid hf
  have HZ := Lib.hid hz
  have HG := Lib.hid hg
  have HP := Lib.hid hp
  have HH := Lib.hid hh
  have HQ := Lib.hid hq
  have HI := Lib.hid hi
  clear hx he hy hf hz hg hp hh hq hi
  have start : ∀ (e f g : Int) (hE : flE a b c = e) (hF : pe c (nq (a * b) c) = f) (hG : pe c (cq (a * b) c) = g), True := fun _ _ _ _ _ _ => trivial
  clear start
  rcases hP with ⟨rfl, rfl, rfl, rfl, rfl, rfl, rfl⟩ | ⟨h0, rfl, rfl, rfl, rfl, rfl, rfl⟩ | ⟨h0, rfl, rfl, rfl, rfl, hfy⟩ | ⟨h0, rfl, rfl, rfl, hx0, hxy, hyz, hzx, hzb, hrem⟩
  · go_enter Try.func6, Try.ntmps6
    go_wp2_with fail
    with_reducible refine (awake3 _).mono ?_
    rintro e w1 ⟨rfl, hb1⟩
    have hz1 := hb1.size
    go_wp2_with fail
    with_reducible refine (floor_t _ _ _ _ _ HX.out HE.out ha hb hc ha' hb' hc' _).mono ?_
    rintro e w2 ⟨rfl, hb2⟩
    have hz2 := hb2.size
    go_wp2_with fail
    with_reducible refine (near_t _ _ _ _ _ HY.out HF.out ha hb hc ha' hb' hc' _).mono ?_
    rintro e w3 ⟨rfl, hb3⟩
    have hz3 := hb3.size
    go_wp2_with fail
    with_reducible refine (ceil_t _ _ _ _ _ HZ.out HG.out ha hb hc ha' hb' hc' _).mono ?_
    rintro e w4 ⟨rfl, hb4⟩
    have hz4 := hb4.size
    go_wp2_with fail
    go_ret
    exact ⟨by first | rfl | (simp; done), by (repeat' (first | (with_reducible exact Below.refl _ _) | (with_reducible assumption) | (with_reducible refine Below.alloc ?_ ?_ _) | (with_reducible refine Below.drew ?_) | (with_reducible refine Below_drewN ?_ _) | (with_reducible refine Below.setCell ?_ ?_ _) | (refine Below.step (B' := ?_) (b := ?_) ?_ ?_ ?_; rotate_left 2; (with_reducible assumption)) | go_size))⟩
  · have h1 : (c == 0) = false := by simp; omega
    go_enter Try.func6, Try.ntmps6
    go_wp2_with fail
    with_reducible refine (awake3 _).mono ?_
    rintro e w1 ⟨rfl, hb1⟩
    have hz1 := hb1.size
    go_wp2_with fail
    with_reducible refine (floor_t _ _ _ _ _ HX.out HE.out ha hb hc ha' hb' hc' _).mono ?_
    rintro e w2 ⟨rfl, hb2⟩
    have hz2 := hb2.size
    go_wp2_with fail
    with_reducible refine (near_t _ _ _ _ _ HY.out HF.out ha hb hc ha' hb' hc' _).mono ?_
    rintro e w3 ⟨rfl, hb3⟩
    have hz3 := hb3.size
    go_wp2_with fail
    with_reducible refine (ceil_t _ _ _ _ _ HZ.out HG.out ha hb hc ha' hb' hc' _).mono ?_
    rintro e w4 ⟨rfl, hb4⟩
    have hz4 := hb4.size
    go_wp2_with fail
    go_ret
    exact ⟨by first | rfl | (simp; done), by (repeat' (first | (with_reducible exact Below.refl _ _) | (with_reducible assumption) | (with_reducible refine Below.alloc ?_ ?_ _) | (with_reducible refine Below.drew ?_) | (with_reducible refine Below_drewN ?_ _) | (with_reducible refine Below.setCell ?_ ?_ _) | (refine Below.step (B' := ?_) (b := ?_) ?_ ?_ ?_; rotate_left 2; (with_reducible assumption)) | go_size))⟩
  · have h1 : (c == 0) = false := by simp; omega
    rcases hfy with ⟨rfl, rfl⟩ | ⟨rfl, rfl⟩
    all_goals
      go_enter Try.func6, Try.ntmps6
      go_wp2_with fail
      with_reducible refine (awake3 _).mono ?_
      rintro e w1 ⟨rfl, hb1⟩
      have hz1 := hb1.size
      go_wp2_with fail
      with_reducible refine (floor_t _ _ _ _ _ HX.out HE.out ha hb hc ha' hb' hc' _).mono ?_
      rintro e w2 ⟨rfl, hb2⟩
      have hz2 := hb2.size
      go_wp2_with fail
      with_reducible refine (near_t _ _ _ _ _ HY.out HF.out ha hb hc ha' hb' hc' _).mono ?_
      rintro e w3 ⟨rfl, hb3⟩
      have hz3 := hb3.size
      go_wp2_with fail
      with_reducible refine (ceil_t _ _ _ _ _ HZ.out HG.out ha hb hc ha' hb' hc' _).mono ?_
      rintro e w4 ⟨rfl, hb4⟩
      have hz4 := hb4.size
      go_wp2_with fail
      go_ret
      exact ⟨by first | rfl | (simp; done), by (repeat' (first | (with_reducible exact Below.refl _ _) | (with_reducible assumption) | (with_reducible refine Below.alloc ?_ ?_ _) | (with_reducible refine Below.drew ?_) | (with_reducible refine Below_drewN ?_ _) | (with_reducible refine Below.setCell ?_ ?_ _) | (refine Below.step (B' := ?_) (b := ?_) ?_ ?_ ?_; rotate_left 2; (with_reducible assumption)) | go_size))⟩
  · rcases hpq with rfl | ⟨rfl, hpq⟩
    · go_enter Try.func6, Try.ntmps6
      go_wp2_with fail
      with_reducible refine (awake3 _).mono ?_
      rintro e w1 ⟨rfl, hb1⟩
      have hz1 := hb1.size
      go_wp2_with fail
      with_reducible refine (floor_t _ _ _ _ _ HX.out HE.out ha hb hc ha' hb' hc' _).mono ?_
      rintro e w2 ⟨rfl, hb2⟩
      have hz2 := hb2.size
      go_wp2_with fail
      with_reducible refine (near_t _ _ _ _ _ HY.out HF.out ha hb hc ha' hb' hc' _).mono ?_
      rintro e w3 ⟨rfl, hb3⟩
      have hz3 := hb3.size
      go_wp2_with fail
      with_reducible refine (ceil_t _ _ _ _ _ HZ.out HG.out ha hb hc ha' hb' hc' _).mono ?_
      rintro e w4 ⟨rfl, hb4⟩
      have hz4 := hb4.size
      go_wp2_with fail
      with_reducible refine (floor_t _ _ _ _ _ HP.out HH.out (by omega) hc (by omega) (by omega) hc' (by omega) _).mono ?_
      rintro e w5 ⟨rfl, hb5⟩
      have hz5 := hb5.size
      go_wp2_with fail
      with_reducible refine (floor_t _ _ _ _ _ HQ.out HI.out ha hb (by omega) ha' hb' (by omega) _).mono ?_
      rintro e w6 ⟨rfl, hb6⟩
      have hz6 := hb6.size
      go_wp2_with fail
      go_ret
      exact ⟨by first | rfl | (simp; done) | (simp; omega), by (repeat' (first | (with_reducible exact Below.refl _ _) | (with_reducible assumption) | (with_reducible refine Below.alloc ?_ ?_ _) | (with_reducible refine Below.drew ?_) | (with_reducible refine Below_drewN ?_ _) | (with_reducible refine Below.setCell ?_ ?_ _) | (refine Below.step (B' := ?_) (b := ?_) ?_ ?_ ?_; rotate_left 2; (with_reducible assumption)) | go_size))⟩
    · rcases hpq with rfl | ⟨rfl, e1, e2⟩
      · go_enter Try.func6, Try.ntmps6
        go_wp2_with fail
        with_reducible refine (awake3 _).mono ?_
        rintro e w1 ⟨rfl, hb1⟩
        have hz1 := hb1.size
        go_wp2_with fail
        with_reducible refine (floor_t _ _ _ _ _ HX.out HE.out ha hb hc ha' hb' hc' _).mono ?_
        rintro e w2 ⟨rfl, hb2⟩
        have hz2 := hb2.size
        go_wp2_with fail
        with_reducible refine (near_t _ _ _ _ _ HY.out HF.out ha hb hc ha' hb' hc' _).mono ?_
        rintro e w3 ⟨rfl, hb3⟩
        have hz3 := hb3.size
        go_wp2_with fail
        with_reducible refine (ceil_t _ _ _ _ _ HZ.out HG.out ha hb hc ha' hb' hc' _).mono ?_
        rintro e w4 ⟨rfl, hb4⟩
        have hz4 := hb4.size
        go_wp2_with fail
        with_reducible refine (floor_t _ _ _ _ _ HP.out HH.out (by omega) hc (by omega) (by omega) hc' (by omega) _).mono ?_
        rintro e w5 ⟨rfl, hb5⟩
        have hz5 := hb5.size
        go_wp2_with fail
        with_reducible refine (floor_t _ _ _ _ _ HQ.out HI.out ha hb (by omega) ha' hb' (by omega) _).mono ?_
        rintro e w6 ⟨rfl, hb6⟩
        have hz6 := hb6.size
        go_wp2_with fail
        go_ret
        exact ⟨by first | rfl | (simp; done) | (simp; omega), by (repeat' (first | (with_reducible exact Below.refl _ _) | (with_reducible assumption) | (with_reducible refine Below.alloc ?_ ?_ _) | (with_reducible refine Below.drew ?_) | (with_reducible refine Below_drewN ?_ _) | (with_reducible refine Below.setCell ?_ ?_ _) | (refine Below.step (B' := ?_) (b := ?_) ?_ ?_ ?_; rotate_left 2; (with_reducible assumption)) | go_size))⟩
      · have hb1 : ((p == q) == (x == z)) = true := by
          rcases hrem with ⟨r1, r2⟩ | ⟨r1, r2⟩
          · have g1 : (p == q) = true := by simp; omega
            have g2 : (x == z) = true := by simp; omega
            rw [g1, g2]; rfl
          · have g1 : (p == q) = false := by simp; omega
            have g2 : (x == z) = false := by simp; omega
            rw [g1, g2]; rfl
        have HB := Lib.hid hb1
        clear hb1 hrem e1 e2
        cases g1 : (p == q) <;> cases g2 : (x == z)
        · go_enter Try.func6, Try.ntmps6
          go_wp2_with fail
          with_reducible refine (awake3 _).mono ?_
          rintro e w1 ⟨rfl, hb1⟩
          have hz1 := hb1.size
          go_wp2_with fail
          with_reducible refine (floor_t _ _ _ _ _ HX.out HE.out ha hb hc ha' hb' hc' _).mono ?_
          rintro e w2 ⟨rfl, hb2⟩
          have hz2 := hb2.size
          go_wp2_with fail
          with_reducible refine (near_t _ _ _ _ _ HY.out HF.out ha hb hc ha' hb' hc' _).mono ?_
          rintro e w3 ⟨rfl, hb3⟩
          have hz3 := hb3.size
          go_wp2_with fail
          with_reducible refine (ceil_t _ _ _ _ _ HZ.out HG.out ha hb hc ha' hb' hc' _).mono ?_
          rintro e w4 ⟨rfl, hb4⟩
          have hz4 := hb4.size
          go_wp2_with fail
          with_reducible refine (floor_t _ _ _ _ _ HP.out HH.out (by omega) hc (by omega) (by omega) hc' (by omega) _).mono ?_
          rintro e w5 ⟨rfl, hb5⟩
          have hz5 := hb5.size
          go_wp2_with fail
          with_reducible refine (floor_t _ _ _ _ _ HQ.out HI.out ha hb (by omega) ha' hb' (by omega) _).mono ?_
          rintro e w6 ⟨rfl, hb6⟩
          have hz6 := hb6.size
          go_wp2_with fail
          go_ret
          exact ⟨by first | rfl | (simp; done) | (simp; omega), by (repeat' (first | (with_reducible exact Below.refl _ _) | (with_reducible assumption) | (with_reducible refine Below.alloc ?_ ?_ _) | (with_reducible refine Below.drew ?_) | (with_reducible refine Below_drewN ?_ _) | (with_reducible refine Below.setCell ?_ ?_ _) | (refine Below.step (B' := ?_) (b := ?_) ?_ ?_ ?_; rotate_left 2; (with_reducible assumption)) | go_size))⟩
        · have := HB.out; rw [g1, g2] at this; cases this
        · have := HB.out; rw [g1, g2] at this; cases this
        · go_enter Try.func6, Try.ntmps6
          go_wp2_with fail
          with_reducible refine (awake3 _).mono ?_
          rintro e w1 ⟨rfl, hb1⟩
          have hz1 := hb1.size
          go_wp2_with fail
          with_reducible refine (floor_t _ _ _ _ _ HX.out HE.out ha hb hc ha' hb' hc' _).mono ?_
          rintro e w2 ⟨rfl, hb2⟩
          have hz2 := hb2.size
          go_wp2_with fail
          with_reducible refine (near_t _ _ _ _ _ HY.out HF.out ha hb hc ha' hb' hc' _).mono ?_
          rintro e w3 ⟨rfl, hb3⟩
          have hz3 := hb3.size
          go_wp2_with fail
          with_reducible refine (ceil_t _ _ _ _ _ HZ.out HG.out ha hb hc ha' hb' hc' _).mono ?_
          rintro e w4 ⟨rfl, hb4⟩
          have hz4 := hb4.size
          go_wp2_with fail
          with_reducible refine (floor_t _ _ _ _ _ HP.out HH.out (by omega) hc (by omega) (by omega) hc' (by omega) _).mono ?_
          rintro e w5 ⟨rfl, hb5⟩
          have hz5 := hb5.size
          go_wp2_with fail
          with_reducible refine (floor_t _ _ _ _ _ HQ.out HI.out ha hb (by omega) ha' hb' (by omega) _).mono ?_
          rintro e w6 ⟨rfl, hb6⟩
          have hz6 := hb6.size
          go_wp2_with fail
          go_ret
          exact ⟨by first | rfl | (simp; done) | (simp; omega), by (repeat' (first | (with_reducible exact Below.refl _ _) | (with_reducible assumption) | (with_reducible refine Below.alloc ?_ ?_ _) | (with_reducible refine Below.drew ?_) | (with_reducible refine Below_drewN ?_ _) | (with_reducible refine Below.setCell ?_ ?_ _) | (refine Below.step (B' := ?_) (b := ?_) ?_ ?_ ?_; rotate_left 2; (with_reducible assumption)) | go_size))⟩

theorem walk_RatioParts (a0 a1 a2 : Int) (w0 : (Lit.int .u64 a0).wf = true) (w1 : (Lit.int .u64 a1).wf = true) (w2 : (Lit.int .u64 a2).wf = true) (w : World) :
    Calls Try.prog 6 #[.int .u64 a0, .int .u64 a1, .int .u64 a2] w fun e w' => e = .returned (.bool true) ∧ Below w.heap.size w w' := by
  obtain ⟨h0, h0'⟩ := bounds_u64 w0
  obtain ⟨h1, h1'⟩ := bounds_u64 w1
  obtain ⟨h2, h2'⟩ := bounds_u64 w2
  obtain ⟨x, e, y, f, z, g, ⟨hx, he⟩, ⟨hy, hf⟩, ⟨hz, hg⟩, hP⟩ := parts_are a0 a1 a2 h0 h1 h2
  have hx0 : 0 ≤ x * a2 := by
    refine Int.mul_nonneg ?_ h2
    unfold PartsAre at hP
    rcases hP with ⟨_, _, _, _, rfl, _⟩ | ⟨_, _, _, _, rfl, _⟩ | ⟨_, _, rfl, _⟩ | ⟨_, _, _, _, h, _⟩ <;> omega
  refine parts_walk a0 a1 a2 x e y f z g _ _ _ _ hx he hy hf hz hg hP rfl rfl rfl rfl ?_ h0 h1 h2 (by omega) (by omega) (by omega) w
  rcases one_pv x a2 hx0 with ⟨_, g1, g2⟩ | ⟨g1, g2⟩
  · rcases one_pv a0 a1 (Int.mul_nonneg h0 h1) with ⟨_, k1, k2⟩ | ⟨k1, k2⟩
    · exact .inr ⟨g2, .inr ⟨k2, g1, k1⟩⟩
    · exact .inr ⟨g2, .inl k2⟩
  · exact .inl g2
end Go.Proofs.Try
