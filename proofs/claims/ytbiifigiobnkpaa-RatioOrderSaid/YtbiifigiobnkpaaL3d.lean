/- The walks of RatioOrder and RatioSame. -/
import Derived.Test.YtbiifigiobnkpaaL3f
namespace Go.Proofs.Try
open Go.RowKit
set_option linter.unusedVariables false

set_option maxRecDepth 100000 in
set_option maxHeartbeats 8000000 in
theorem order_walk (a0 b0 a1 b1 a2 b2 n e m k g l h t i : Int) (q1 : rcV a0 b0 a1 b1 = n) (q2 : rcE b0 b1 = e) (q3 : rcV a1 b1 a0 b0 = m) (q4 : rcE b1 b0 = e) (q5 : rcV a1 b1 a2 b2 = k) (q6 : rcE b1 b2 = g) (q7 : rcV a0 b0 a2 b2 = l) (q8 : rcE b0 b2 = h)
    (q9 : rcV b0 a0 b1 a1 = t) (q10 : rcE a0 a1 = i)
    (hc : (e = 20 ∧ n = 0 ∧ m = 0 ∧ (g = 20 ∧ k = 0 ∨ g = 0)) ∨ (e = 0 ∧ g = 20 ∧ k = 0) ∨ (e = 0 ∧ g = 0 ∧ h = 0 ∧ n = -m ∧ (n ≤ 0 ∨ k ≤ 0 ∨ 0 < l) ∧ (n < 0 ∨ 0 < n ∨ k < 0 ∨ 0 < k ∨ l = 0) ∧ ((i = 20 ∧ (a0 = 0 ∨ a1 = 0)) ∨ (i = 0 ∧ t = -n))))
    (bn : -1 ≤ n ∧ n ≤ 1) (bm : -1 ≤ m ∧ m ≤ 1) (bk : -1 ≤ k ∧ k ≤ 1) (bl : -1 ≤ l ∧ l ≤ 1) (bt : -1 ≤ t ∧ t ≤ 1)
    (h1 : 0 ≤ a0) (h2 : 0 ≤ b0) (h3 : 0 ≤ a1) (h4 : 0 ≤ b1) (h5 : 0 ≤ a2) (h6 : 0 ≤ b2) (g1 : a0 < 18446744073709551616) (g2 : b0 < 18446744073709551616) (g3 : a1 < 18446744073709551616) (g4 : b1 < 18446744073709551616) (g5 : a2 < 18446744073709551616) (g6 : b2 < 18446744073709551616) (w : World) :
    Calls Try.prog 4 #[.agg #[.int .u64 a0, .int .u64 b0], .agg #[.int .u64 a1, .int .u64 b1], .agg #[.int .u64 a2, .int .u64 b2]] w fun e w' => e = .returned (.bool true) ∧ Below w.heap.size w w' := by
  have Q1 := Lib.hid q1
  have Q2 := Lib.hid q2
  have Q3 := Lib.hid q3
  have Q4 := Lib.hid q4
  have Q5 := Lib.hid q5
  have Q6 := Lib.hid q6
  have Q7 := Lib.hid q7
  have Q8 := Lib.hid q8
  have Q9 := Lib.hid q9
  have Q10 := Lib.hid q10
  clear q1 q2 q3 q4 q5 q6 q7 q8 q9 q10
  obtain ⟨bn1, bn2⟩ := bn
  obtain ⟨bm1, bm2⟩ := bm
  obtain ⟨bk1, bk2⟩ := bk
  obtain ⟨bl1, bl2⟩ := bl
  obtain ⟨bt1, bt2⟩ := bt
  rcases hc with ⟨rfl, rfl, rfl, hgk⟩ | ⟨rfl, rfl, rfl⟩ | ⟨rfl, rfl, rfl, hnm, hgt, heq, hti⟩
  · rcases hgk with ⟨rfl, rfl⟩ | rfl
    all_goals
      go_enter Try.func4, Try.ntmps4
      go_wp2_with fail
      with_reducible refine (awake3 _).mono ?_
      rintro e w1 ⟨rfl, hb1⟩
      obtain ⟨hc_w1, hf_w1, hz_w1⟩ := kept hb1; (try have hzw0_w1 : w.heap.size < w1.heap.size := (by have := hz_w1; first | omega | (simp at this; omega))); (try have hzw1_w1 : w.heap.size + 1 < w1.heap.size := (by have := hz_w1; first | omega | (simp at this; omega))); (try have hzw2_w1 : w.heap.size + 1 + 1 < w1.heap.size := (by have := hz_w1; first | omega | (simp at this; omega)))
      have hz1 := hb1.size
      go_wp2_with fail
      with_reducible refine (rcmp_t _ _ _ _ _ _ Q1.out Q2.out h1 h2 h3 h4 g1 g2 g3 g4 _).mono ?_
      rintro e w2 ⟨rfl, hb2⟩
      obtain ⟨hc_w2, hf_w2, hz_w2⟩ := kept hb2; (try have hzw0_w2 : w.heap.size < w2.heap.size := (by have := hz_w2; first | omega | (simp at this; omega))); (try have hzw1_w2 : w.heap.size + 1 < w2.heap.size := (by have := hz_w2; first | omega | (simp at this; omega))); (try have hzw2_w2 : w.heap.size + 1 + 1 < w2.heap.size := (by have := hz_w2; first | omega | (simp at this; omega)))
      have hz2 := hb2.size
      go_wp2_with fail
      with_reducible refine (rcmp_t _ _ _ _ _ _ Q3.out Q4.out h3 h4 h1 h2 g3 g4 g1 g2 _).mono ?_
      rintro e w3 ⟨rfl, hb3⟩
      obtain ⟨hc_w3, hf_w3, hz_w3⟩ := kept hb3; (try have hzw0_w3 : w.heap.size < w3.heap.size := (by have := hz_w3; first | omega | (simp at this; omega))); (try have hzw1_w3 : w.heap.size + 1 < w3.heap.size := (by have := hz_w3; first | omega | (simp at this; omega))); (try have hzw2_w3 : w.heap.size + 1 + 1 < w3.heap.size := (by have := hz_w3; first | omega | (simp at this; omega)))
      have hz3 := hb3.size
      go_wp2_with fail
      with_reducible refine (rcmp_t _ _ _ _ _ _ Q5.out Q6.out h3 h4 h5 h6 g3 g4 g5 g6 _).mono ?_
      rintro e w4 ⟨rfl, hb4⟩
      obtain ⟨hc_w4, hf_w4, hz_w4⟩ := kept hb4; (try have hzw0_w4 : w.heap.size < w4.heap.size := (by have := hz_w4; first | omega | (simp at this; omega))); (try have hzw1_w4 : w.heap.size + 1 < w4.heap.size := (by have := hz_w4; first | omega | (simp at this; omega))); (try have hzw2_w4 : w.heap.size + 1 + 1 < w4.heap.size := (by have := hz_w4; first | omega | (simp at this; omega)))
      have hz4 := hb4.size
      go_wp2_with fail
      with_reducible refine (rcmp_t _ _ _ _ _ _ Q7.out Q8.out h1 h2 h5 h6 g1 g2 g5 g6 _).mono ?_
      rintro e w5 ⟨rfl, hb5⟩
      obtain ⟨hc_w5, hf_w5, hz_w5⟩ := kept hb5; (try have hzw0_w5 : w.heap.size < w5.heap.size := (by have := hz_w5; first | omega | (simp at this; omega))); (try have hzw1_w5 : w.heap.size + 1 < w5.heap.size := (by have := hz_w5; first | omega | (simp at this; omega))); (try have hzw2_w5 : w.heap.size + 1 + 1 < w5.heap.size := (by have := hz_w5; first | omega | (simp at this; omega)))
      have hz5 := hb5.size
      go_wp2_with fail
      go_ret
      exact ⟨by first | rfl | (simp; done), by (repeat' (first | (with_reducible exact Below.refl _ _) | (with_reducible assumption) | (with_reducible refine Below.alloc ?_ ?_ _) | (with_reducible refine Below.drew ?_) | (with_reducible refine Below_drewN ?_ _) | (with_reducible refine Below.setCell ?_ ?_ _) | (refine Below.step (B' := ?_) (b := ?_) ?_ ?_ ?_; rotate_left 2; (with_reducible assumption)) | go_size))⟩
  · go_enter Try.func4, Try.ntmps4
    go_wp2_with fail
    with_reducible refine (awake3 _).mono ?_
    rintro e w1 ⟨rfl, hb1⟩
    obtain ⟨hc_w1, hf_w1, hz_w1⟩ := kept hb1; (try have hzw0_w1 : w.heap.size < w1.heap.size := (by have := hz_w1; first | omega | (simp at this; omega))); (try have hzw1_w1 : w.heap.size + 1 < w1.heap.size := (by have := hz_w1; first | omega | (simp at this; omega))); (try have hzw2_w1 : w.heap.size + 1 + 1 < w1.heap.size := (by have := hz_w1; first | omega | (simp at this; omega)))
    have hz1 := hb1.size
    go_wp2_with fail
    with_reducible refine (rcmp_t _ _ _ _ _ _ Q1.out Q2.out h1 h2 h3 h4 g1 g2 g3 g4 _).mono ?_
    rintro e w2 ⟨rfl, hb2⟩
    obtain ⟨hc_w2, hf_w2, hz_w2⟩ := kept hb2; (try have hzw0_w2 : w.heap.size < w2.heap.size := (by have := hz_w2; first | omega | (simp at this; omega))); (try have hzw1_w2 : w.heap.size + 1 < w2.heap.size := (by have := hz_w2; first | omega | (simp at this; omega))); (try have hzw2_w2 : w.heap.size + 1 + 1 < w2.heap.size := (by have := hz_w2; first | omega | (simp at this; omega)))
    have hz2 := hb2.size
    go_wp2_with fail
    with_reducible refine (rcmp_t _ _ _ _ _ _ Q3.out Q4.out h3 h4 h1 h2 g3 g4 g1 g2 _).mono ?_
    rintro e w3 ⟨rfl, hb3⟩
    obtain ⟨hc_w3, hf_w3, hz_w3⟩ := kept hb3; (try have hzw0_w3 : w.heap.size < w3.heap.size := (by have := hz_w3; first | omega | (simp at this; omega))); (try have hzw1_w3 : w.heap.size + 1 < w3.heap.size := (by have := hz_w3; first | omega | (simp at this; omega))); (try have hzw2_w3 : w.heap.size + 1 + 1 < w3.heap.size := (by have := hz_w3; first | omega | (simp at this; omega)))
    have hz3 := hb3.size
    go_wp2_with fail
    with_reducible refine (rcmp_t _ _ _ _ _ _ Q5.out Q6.out h3 h4 h5 h6 g3 g4 g5 g6 _).mono ?_
    rintro e w4 ⟨rfl, hb4⟩
    obtain ⟨hc_w4, hf_w4, hz_w4⟩ := kept hb4; (try have hzw0_w4 : w.heap.size < w4.heap.size := (by have := hz_w4; first | omega | (simp at this; omega))); (try have hzw1_w4 : w.heap.size + 1 < w4.heap.size := (by have := hz_w4; first | omega | (simp at this; omega))); (try have hzw2_w4 : w.heap.size + 1 + 1 < w4.heap.size := (by have := hz_w4; first | omega | (simp at this; omega)))
    have hz4 := hb4.size
    go_wp2_with fail
    with_reducible refine (rcmp_t _ _ _ _ _ _ Q7.out Q8.out h1 h2 h5 h6 g1 g2 g5 g6 _).mono ?_
    rintro e w5 ⟨rfl, hb5⟩
    obtain ⟨hc_w5, hf_w5, hz_w5⟩ := kept hb5; (try have hzw0_w5 : w.heap.size < w5.heap.size := (by have := hz_w5; first | omega | (simp at this; omega))); (try have hzw1_w5 : w.heap.size + 1 < w5.heap.size := (by have := hz_w5; first | omega | (simp at this; omega))); (try have hzw2_w5 : w.heap.size + 1 + 1 < w5.heap.size := (by have := hz_w5; first | omega | (simp at this; omega)))
    have hz5 := hb5.size
    go_wp2_with fail
    go_ret
    exact ⟨by first | rfl | (simp; done), by (repeat' (first | (with_reducible exact Below.refl _ _) | (with_reducible assumption) | (with_reducible refine Below.alloc ?_ ?_ _) | (with_reducible refine Below.drew ?_) | (with_reducible refine Below_drewN ?_ _) | (with_reducible refine Below.setCell ?_ ?_ _) | (refine Below.step (B' := ?_) (b := ?_) ?_ ?_ ?_; rotate_left 2; (with_reducible assumption)) | go_size))⟩
  · subst hnm
    rcases hti with ⟨rfl, ha⟩ | ⟨rfl, rfl⟩
    · rcases ha with rfl | rfl
      · go_enter Try.func4, Try.ntmps4
        go_wp2_with fail
        with_reducible refine (awake3 _).mono ?_
        rintro e w1 ⟨rfl, hb1⟩
        obtain ⟨hc_w1, hf_w1, hz_w1⟩ := kept hb1; (try have hzw0_w1 : w.heap.size < w1.heap.size := (by have := hz_w1; first | omega | (simp at this; omega))); (try have hzw1_w1 : w.heap.size + 1 < w1.heap.size := (by have := hz_w1; first | omega | (simp at this; omega))); (try have hzw2_w1 : w.heap.size + 1 + 1 < w1.heap.size := (by have := hz_w1; first | omega | (simp at this; omega)))
        have hz1 := hb1.size
        go_wp2_with fail
        with_reducible refine (rcmp_t _ _ _ _ _ _ Q1.out Q2.out h1 h2 h3 h4 g1 g2 g3 g4 _).mono ?_
        rintro e w2 ⟨rfl, hb2⟩
        obtain ⟨hc_w2, hf_w2, hz_w2⟩ := kept hb2; (try have hzw0_w2 : w.heap.size < w2.heap.size := (by have := hz_w2; first | omega | (simp at this; omega))); (try have hzw1_w2 : w.heap.size + 1 < w2.heap.size := (by have := hz_w2; first | omega | (simp at this; omega))); (try have hzw2_w2 : w.heap.size + 1 + 1 < w2.heap.size := (by have := hz_w2; first | omega | (simp at this; omega)))
        have hz2 := hb2.size
        go_wp2_with fail
        with_reducible refine (rcmp_t _ _ _ _ _ _ Q3.out Q4.out h3 h4 h1 h2 g3 g4 g1 g2 _).mono ?_
        rintro e w3 ⟨rfl, hb3⟩
        obtain ⟨hc_w3, hf_w3, hz_w3⟩ := kept hb3; (try have hzw0_w3 : w.heap.size < w3.heap.size := (by have := hz_w3; first | omega | (simp at this; omega))); (try have hzw1_w3 : w.heap.size + 1 < w3.heap.size := (by have := hz_w3; first | omega | (simp at this; omega))); (try have hzw2_w3 : w.heap.size + 1 + 1 < w3.heap.size := (by have := hz_w3; first | omega | (simp at this; omega)))
        have hz3 := hb3.size
        go_wp2_with fail
        with_reducible refine (rcmp_t _ _ _ _ _ _ Q5.out Q6.out h3 h4 h5 h6 g3 g4 g5 g6 _).mono ?_
        rintro e w4 ⟨rfl, hb4⟩
        obtain ⟨hc_w4, hf_w4, hz_w4⟩ := kept hb4; (try have hzw0_w4 : w.heap.size < w4.heap.size := (by have := hz_w4; first | omega | (simp at this; omega))); (try have hzw1_w4 : w.heap.size + 1 < w4.heap.size := (by have := hz_w4; first | omega | (simp at this; omega))); (try have hzw2_w4 : w.heap.size + 1 + 1 < w4.heap.size := (by have := hz_w4; first | omega | (simp at this; omega)))
        have hz4 := hb4.size
        go_wp2_with fail
        with_reducible refine (rcmp_t _ _ _ _ _ _ Q7.out Q8.out h1 h2 h5 h6 g1 g2 g5 g6 _).mono ?_
        rintro e w5 ⟨rfl, hb5⟩
        obtain ⟨hc_w5, hf_w5, hz_w5⟩ := kept hb5; (try have hzw0_w5 : w.heap.size < w5.heap.size := (by have := hz_w5; first | omega | (simp at this; omega))); (try have hzw1_w5 : w.heap.size + 1 < w5.heap.size := (by have := hz_w5; first | omega | (simp at this; omega))); (try have hzw2_w5 : w.heap.size + 1 + 1 < w5.heap.size := (by have := hz_w5; first | omega | (simp at this; omega)))
        have hz5 := hb5.size
        go_wp2_with fail
        with_reducible refine (rcmp_t _ _ _ _ _ _ Q9.out Q10.out h2 h1 h4 h3 g2 g1 g4 g3 _).mono ?_
        rintro e w6 ⟨rfl, hb6⟩
        obtain ⟨hc_w6, hf_w6, hz_w6⟩ := kept hb6; (try have hzw0_w6 : w.heap.size < w6.heap.size := (by have := hz_w6; first | omega | (simp at this; omega))); (try have hzw1_w6 : w.heap.size + 1 < w6.heap.size := (by have := hz_w6; first | omega | (simp at this; omega))); (try have hzw2_w6 : w.heap.size + 1 + 1 < w6.heap.size := (by have := hz_w6; first | omega | (simp at this; omega)))
        have hz6 := hb6.size
        go_wp2_with fail
        all_goals (go_ret; exact ⟨by first | rfl | (simp; done) | (simp; omega) | (exfalso; omega), by (repeat' (first | (with_reducible exact Below.refl _ _) | (with_reducible assumption) | (with_reducible refine Below.alloc ?_ ?_ _) | (with_reducible refine Below.drew ?_) | (with_reducible refine Below_drewN ?_ _) | (with_reducible refine Below.setCell ?_ ?_ _) | (refine Below.step (B' := ?_) (b := ?_) ?_ ?_ ?_; rotate_left 2; (with_reducible assumption)) | go_size))⟩)
      · by_cases hz0 : a0 = 0
        · subst hz0
          go_enter Try.func4, Try.ntmps4
          go_wp2_with fail
          with_reducible refine (awake3 _).mono ?_
          rintro e w1 ⟨rfl, hb1⟩
          obtain ⟨hc_w1, hf_w1, hz_w1⟩ := kept hb1; (try have hzw0_w1 : w.heap.size < w1.heap.size := (by have := hz_w1; first | omega | (simp at this; omega))); (try have hzw1_w1 : w.heap.size + 1 < w1.heap.size := (by have := hz_w1; first | omega | (simp at this; omega))); (try have hzw2_w1 : w.heap.size + 1 + 1 < w1.heap.size := (by have := hz_w1; first | omega | (simp at this; omega)))
          have hz1 := hb1.size
          go_wp2_with fail
          with_reducible refine (rcmp_t _ _ _ _ _ _ Q1.out Q2.out h1 h2 h3 h4 g1 g2 g3 g4 _).mono ?_
          rintro e w2 ⟨rfl, hb2⟩
          obtain ⟨hc_w2, hf_w2, hz_w2⟩ := kept hb2; (try have hzw0_w2 : w.heap.size < w2.heap.size := (by have := hz_w2; first | omega | (simp at this; omega))); (try have hzw1_w2 : w.heap.size + 1 < w2.heap.size := (by have := hz_w2; first | omega | (simp at this; omega))); (try have hzw2_w2 : w.heap.size + 1 + 1 < w2.heap.size := (by have := hz_w2; first | omega | (simp at this; omega)))
          have hz2 := hb2.size
          go_wp2_with fail
          with_reducible refine (rcmp_t _ _ _ _ _ _ Q3.out Q4.out h3 h4 h1 h2 g3 g4 g1 g2 _).mono ?_
          rintro e w3 ⟨rfl, hb3⟩
          obtain ⟨hc_w3, hf_w3, hz_w3⟩ := kept hb3; (try have hzw0_w3 : w.heap.size < w3.heap.size := (by have := hz_w3; first | omega | (simp at this; omega))); (try have hzw1_w3 : w.heap.size + 1 < w3.heap.size := (by have := hz_w3; first | omega | (simp at this; omega))); (try have hzw2_w3 : w.heap.size + 1 + 1 < w3.heap.size := (by have := hz_w3; first | omega | (simp at this; omega)))
          have hz3 := hb3.size
          go_wp2_with fail
          with_reducible refine (rcmp_t _ _ _ _ _ _ Q5.out Q6.out h3 h4 h5 h6 g3 g4 g5 g6 _).mono ?_
          rintro e w4 ⟨rfl, hb4⟩
          obtain ⟨hc_w4, hf_w4, hz_w4⟩ := kept hb4; (try have hzw0_w4 : w.heap.size < w4.heap.size := (by have := hz_w4; first | omega | (simp at this; omega))); (try have hzw1_w4 : w.heap.size + 1 < w4.heap.size := (by have := hz_w4; first | omega | (simp at this; omega))); (try have hzw2_w4 : w.heap.size + 1 + 1 < w4.heap.size := (by have := hz_w4; first | omega | (simp at this; omega)))
          have hz4 := hb4.size
          go_wp2_with fail
          with_reducible refine (rcmp_t _ _ _ _ _ _ Q7.out Q8.out h1 h2 h5 h6 g1 g2 g5 g6 _).mono ?_
          rintro e w5 ⟨rfl, hb5⟩
          obtain ⟨hc_w5, hf_w5, hz_w5⟩ := kept hb5; (try have hzw0_w5 : w.heap.size < w5.heap.size := (by have := hz_w5; first | omega | (simp at this; omega))); (try have hzw1_w5 : w.heap.size + 1 < w5.heap.size := (by have := hz_w5; first | omega | (simp at this; omega))); (try have hzw2_w5 : w.heap.size + 1 + 1 < w5.heap.size := (by have := hz_w5; first | omega | (simp at this; omega)))
          have hz5 := hb5.size
          go_wp2_with fail
          with_reducible refine (rcmp_t _ _ _ _ _ _ Q9.out Q10.out h2 h1 h4 h3 g2 g1 g4 g3 _).mono ?_
          rintro e w6 ⟨rfl, hb6⟩
          obtain ⟨hc_w6, hf_w6, hz_w6⟩ := kept hb6; (try have hzw0_w6 : w.heap.size < w6.heap.size := (by have := hz_w6; first | omega | (simp at this; omega))); (try have hzw1_w6 : w.heap.size + 1 < w6.heap.size := (by have := hz_w6; first | omega | (simp at this; omega))); (try have hzw2_w6 : w.heap.size + 1 + 1 < w6.heap.size := (by have := hz_w6; first | omega | (simp at this; omega)))
          have hz6 := hb6.size
          go_wp2_with fail
          all_goals (go_ret; exact ⟨by first | rfl | (simp; done) | (simp; omega) | (exfalso; omega), by (repeat' (first | (with_reducible exact Below.refl _ _) | (with_reducible assumption) | (with_reducible refine Below.alloc ?_ ?_ _) | (with_reducible refine Below.drew ?_) | (with_reducible refine Below_drewN ?_ _) | (with_reducible refine Below.setCell ?_ ?_ _) | (refine Below.step (B' := ?_) (b := ?_) ?_ ?_ ?_; rotate_left 2; (with_reducible assumption)) | go_size))⟩)
        · have hz1' : (a0 == 0) = false := by simpa using hz0
          clear hz0
          go_enter Try.func4, Try.ntmps4
          go_wp2_with fail
          with_reducible refine (awake3 _).mono ?_
          rintro e w1 ⟨rfl, hb1⟩
          obtain ⟨hc_w1, hf_w1, hz_w1⟩ := kept hb1; (try have hzw0_w1 : w.heap.size < w1.heap.size := (by have := hz_w1; first | omega | (simp at this; omega))); (try have hzw1_w1 : w.heap.size + 1 < w1.heap.size := (by have := hz_w1; first | omega | (simp at this; omega))); (try have hzw2_w1 : w.heap.size + 1 + 1 < w1.heap.size := (by have := hz_w1; first | omega | (simp at this; omega)))
          have hz1 := hb1.size
          go_wp2_with fail
          with_reducible refine (rcmp_t _ _ _ _ _ _ Q1.out Q2.out h1 h2 h3 h4 g1 g2 g3 g4 _).mono ?_
          rintro e w2 ⟨rfl, hb2⟩
          obtain ⟨hc_w2, hf_w2, hz_w2⟩ := kept hb2; (try have hzw0_w2 : w.heap.size < w2.heap.size := (by have := hz_w2; first | omega | (simp at this; omega))); (try have hzw1_w2 : w.heap.size + 1 < w2.heap.size := (by have := hz_w2; first | omega | (simp at this; omega))); (try have hzw2_w2 : w.heap.size + 1 + 1 < w2.heap.size := (by have := hz_w2; first | omega | (simp at this; omega)))
          have hz2 := hb2.size
          go_wp2_with fail
          with_reducible refine (rcmp_t _ _ _ _ _ _ Q3.out Q4.out h3 h4 h1 h2 g3 g4 g1 g2 _).mono ?_
          rintro e w3 ⟨rfl, hb3⟩
          obtain ⟨hc_w3, hf_w3, hz_w3⟩ := kept hb3; (try have hzw0_w3 : w.heap.size < w3.heap.size := (by have := hz_w3; first | omega | (simp at this; omega))); (try have hzw1_w3 : w.heap.size + 1 < w3.heap.size := (by have := hz_w3; first | omega | (simp at this; omega))); (try have hzw2_w3 : w.heap.size + 1 + 1 < w3.heap.size := (by have := hz_w3; first | omega | (simp at this; omega)))
          have hz3 := hb3.size
          go_wp2_with fail
          with_reducible refine (rcmp_t _ _ _ _ _ _ Q5.out Q6.out h3 h4 h5 h6 g3 g4 g5 g6 _).mono ?_
          rintro e w4 ⟨rfl, hb4⟩
          obtain ⟨hc_w4, hf_w4, hz_w4⟩ := kept hb4; (try have hzw0_w4 : w.heap.size < w4.heap.size := (by have := hz_w4; first | omega | (simp at this; omega))); (try have hzw1_w4 : w.heap.size + 1 < w4.heap.size := (by have := hz_w4; first | omega | (simp at this; omega))); (try have hzw2_w4 : w.heap.size + 1 + 1 < w4.heap.size := (by have := hz_w4; first | omega | (simp at this; omega)))
          have hz4 := hb4.size
          go_wp2_with fail
          with_reducible refine (rcmp_t _ _ _ _ _ _ Q7.out Q8.out h1 h2 h5 h6 g1 g2 g5 g6 _).mono ?_
          rintro e w5 ⟨rfl, hb5⟩
          obtain ⟨hc_w5, hf_w5, hz_w5⟩ := kept hb5; (try have hzw0_w5 : w.heap.size < w5.heap.size := (by have := hz_w5; first | omega | (simp at this; omega))); (try have hzw1_w5 : w.heap.size + 1 < w5.heap.size := (by have := hz_w5; first | omega | (simp at this; omega))); (try have hzw2_w5 : w.heap.size + 1 + 1 < w5.heap.size := (by have := hz_w5; first | omega | (simp at this; omega)))
          have hz5 := hb5.size
          go_wp2_with fail
          with_reducible refine (rcmp_t _ _ _ _ _ _ Q9.out Q10.out h2 h1 h4 h3 g2 g1 g4 g3 _).mono ?_
          rintro e w6 ⟨rfl, hb6⟩
          obtain ⟨hc_w6, hf_w6, hz_w6⟩ := kept hb6; (try have hzw0_w6 : w.heap.size < w6.heap.size := (by have := hz_w6; first | omega | (simp at this; omega))); (try have hzw1_w6 : w.heap.size + 1 < w6.heap.size := (by have := hz_w6; first | omega | (simp at this; omega))); (try have hzw2_w6 : w.heap.size + 1 + 1 < w6.heap.size := (by have := hz_w6; first | omega | (simp at this; omega)))
          have hz6 := hb6.size
          go_wp2_with fail
          all_goals (go_ret; exact ⟨by first | rfl | (simp; done) | (simp; omega) | (exfalso; omega), by (repeat' (first | (with_reducible exact Below.refl _ _) | (with_reducible assumption) | (with_reducible refine Below.alloc ?_ ?_ _) | (with_reducible refine Below.drew ?_) | (with_reducible refine Below_drewN ?_ _) | (with_reducible refine Below.setCell ?_ ?_ _) | (refine Below.step (B' := ?_) (b := ?_) ?_ ?_ ?_; rotate_left 2; (with_reducible assumption)) | go_size))⟩)
    · go_enter Try.func4, Try.ntmps4
      go_wp2_with fail
      with_reducible refine (awake3 _).mono ?_
      rintro e w1 ⟨rfl, hb1⟩
      obtain ⟨hc_w1, hf_w1, hz_w1⟩ := kept hb1; (try have hzw0_w1 : w.heap.size < w1.heap.size := (by have := hz_w1; first | omega | (simp at this; omega))); (try have hzw1_w1 : w.heap.size + 1 < w1.heap.size := (by have := hz_w1; first | omega | (simp at this; omega))); (try have hzw2_w1 : w.heap.size + 1 + 1 < w1.heap.size := (by have := hz_w1; first | omega | (simp at this; omega)))
      have hz1 := hb1.size
      go_wp2_with fail
      with_reducible refine (rcmp_t _ _ _ _ _ _ Q1.out Q2.out h1 h2 h3 h4 g1 g2 g3 g4 _).mono ?_
      rintro e w2 ⟨rfl, hb2⟩
      obtain ⟨hc_w2, hf_w2, hz_w2⟩ := kept hb2; (try have hzw0_w2 : w.heap.size < w2.heap.size := (by have := hz_w2; first | omega | (simp at this; omega))); (try have hzw1_w2 : w.heap.size + 1 < w2.heap.size := (by have := hz_w2; first | omega | (simp at this; omega))); (try have hzw2_w2 : w.heap.size + 1 + 1 < w2.heap.size := (by have := hz_w2; first | omega | (simp at this; omega)))
      have hz2 := hb2.size
      go_wp2_with fail
      with_reducible refine (rcmp_t _ _ _ _ _ _ Q3.out Q4.out h3 h4 h1 h2 g3 g4 g1 g2 _).mono ?_
      rintro e w3 ⟨rfl, hb3⟩
      obtain ⟨hc_w3, hf_w3, hz_w3⟩ := kept hb3; (try have hzw0_w3 : w.heap.size < w3.heap.size := (by have := hz_w3; first | omega | (simp at this; omega))); (try have hzw1_w3 : w.heap.size + 1 < w3.heap.size := (by have := hz_w3; first | omega | (simp at this; omega))); (try have hzw2_w3 : w.heap.size + 1 + 1 < w3.heap.size := (by have := hz_w3; first | omega | (simp at this; omega)))
      have hz3 := hb3.size
      go_wp2_with fail
      with_reducible refine (rcmp_t _ _ _ _ _ _ Q5.out Q6.out h3 h4 h5 h6 g3 g4 g5 g6 _).mono ?_
      rintro e w4 ⟨rfl, hb4⟩
      obtain ⟨hc_w4, hf_w4, hz_w4⟩ := kept hb4; (try have hzw0_w4 : w.heap.size < w4.heap.size := (by have := hz_w4; first | omega | (simp at this; omega))); (try have hzw1_w4 : w.heap.size + 1 < w4.heap.size := (by have := hz_w4; first | omega | (simp at this; omega))); (try have hzw2_w4 : w.heap.size + 1 + 1 < w4.heap.size := (by have := hz_w4; first | omega | (simp at this; omega)))
      have hz4 := hb4.size
      go_wp2_with fail
      with_reducible refine (rcmp_t _ _ _ _ _ _ Q7.out Q8.out h1 h2 h5 h6 g1 g2 g5 g6 _).mono ?_
      rintro e w5 ⟨rfl, hb5⟩
      obtain ⟨hc_w5, hf_w5, hz_w5⟩ := kept hb5; (try have hzw0_w5 : w.heap.size < w5.heap.size := (by have := hz_w5; first | omega | (simp at this; omega))); (try have hzw1_w5 : w.heap.size + 1 < w5.heap.size := (by have := hz_w5; first | omega | (simp at this; omega))); (try have hzw2_w5 : w.heap.size + 1 + 1 < w5.heap.size := (by have := hz_w5; first | omega | (simp at this; omega)))
      have hz5 := hb5.size
      go_wp2_with fail
      with_reducible refine (rcmp_t _ _ _ _ _ _ Q9.out Q10.out h2 h1 h4 h3 g2 g1 g4 g3 _).mono ?_
      rintro e w6 ⟨rfl, hb6⟩
      obtain ⟨hc_w6, hf_w6, hz_w6⟩ := kept hb6; (try have hzw0_w6 : w.heap.size < w6.heap.size := (by have := hz_w6; first | omega | (simp at this; omega))); (try have hzw1_w6 : w.heap.size + 1 < w6.heap.size := (by have := hz_w6; first | omega | (simp at this; omega))); (try have hzw2_w6 : w.heap.size + 1 + 1 < w6.heap.size := (by have := hz_w6; first | omega | (simp at this; omega)))
      have hz6 := hb6.size
      go_wp2_with fail
      all_goals (go_ret; exact ⟨by first | rfl | (simp; done) | (simp; omega) | (exfalso; omega), by (repeat' (first | (with_reducible exact Below.refl _ _) | (with_reducible assumption) | (with_reducible refine Below.alloc ?_ ?_ _) | (with_reducible refine Below.drew ?_) | (with_reducible refine Below_drewN ?_ _) | (with_reducible refine Below.setCell ?_ ?_ _) | (refine Below.step (B' := ?_) (b := ?_) ?_ ?_ ?_; rotate_left 2; (with_reducible assumption)) | go_size))⟩)

theorem rcV_in (a b c d : Int) : -1 ≤ rcV a b c d ∧ rcV a b c d ≤ 1 := by
  unfold rcV
  split
  · omega
  · exact cmpI_in _ _
theorem walk_RatioOrder (a0 b0 a1 b1 a2 b2 : Int) (w0 : (Lit.int .u64 a0).wf = true) (z0 : (Lit.int .u64 b0).wf = true) (w1 : (Lit.int .u64 a1).wf = true) (z1 : (Lit.int .u64 b1).wf = true) (w2 : (Lit.int .u64 a2).wf = true) (z2 : (Lit.int .u64 b2).wf = true) (w : World) :
    Calls Try.prog 4 #[.agg #[.int .u64 a0, .int .u64 b0], .agg #[.int .u64 a1, .int .u64 b1], .agg #[.int .u64 a2, .int .u64 b2]] w fun e w' => e = .returned (.bool true) ∧ Below w.heap.size w w' := by
  obtain ⟨h0, h0'⟩ := bounds_u64 w0
  obtain ⟨g0, g0'⟩ := bounds_u64 z0
  obtain ⟨h1, h1'⟩ := bounds_u64 w1
  obtain ⟨g1, g1'⟩ := bounds_u64 z1
  obtain ⟨h2, h2'⟩ := bounds_u64 w2
  obtain ⟨g2, g2'⟩ := bounds_u64 z2
  have e4 : rcE b1 b0 = rcE b0 b1 := by
    unfold rcE
    by_cases h : b0 = 0 ∨ b1 = 0
    · rw [if_pos h, if_pos (Or.comm.1 h)]
    · rw [if_neg h, if_neg (fun g => h (Or.comm.1 g))]
  refine order_walk a0 b0 a1 b1 a2 b2 _ _ _ _ _ _ _ _ _ rfl rfl rfl e4 rfl rfl rfl rfl rfl rfl ?_ (rcV_in _ _ _ _) (rcV_in _ _ _ _) (rcV_in _ _ _ _) (rcV_in _ _ _ _) (rcV_in _ _ _ _) h0 g0 h1 g1 h2 g2 (by omega) (by omega) (by omega) (by omega) (by omega) (by omega) w
  have zE : ∀ x y : Int, (x = 0 ∨ y = 0) → rcE x y = 20 := fun x y h => by unfold rcE; rw [if_pos h]
  have nE : ∀ x y : Int, ¬ (x = 0 ∨ y = 0) → rcE x y = 0 := fun x y h => by unfold rcE; rw [if_neg h]
  have zV : ∀ a x b y : Int, (x = 0 ∨ y = 0) → rcV a x b y = 0 := fun a x b y h => by unfold rcV; rw [if_pos h]
  have nV : ∀ a x b y : Int, ¬ (x = 0 ∨ y = 0) → rcV a x b y = cmpI (a * y) (b * x) := fun a x b y h => by unfold rcV; rw [if_neg h]
  by_cases hA : b0 = 0 ∨ b1 = 0
  · refine .inl ⟨zE _ _ hA, zV _ _ _ _ hA, zV _ _ _ _ (Or.comm.1 hA), ?_⟩
    by_cases hB : b1 = 0 ∨ b2 = 0
    · exact .inl ⟨zE _ _ hB, zV _ _ _ _ hB⟩
    · exact .inr (nE _ _ hB)
  · by_cases hB : b1 = 0 ∨ b2 = 0
    · exact .inr (.inl ⟨nE _ _ hA, zE _ _ hB, zV _ _ _ _ hB⟩)
    · have hC : ¬ (b0 = 0 ∨ b2 = 0) := by omega
      refine .inr (.inr ⟨nE _ _ hA, nE _ _ hB, nE _ _ hC, ?_, ?_, ?_, ?_⟩)
      · rw [nV _ _ _ _ hA, nV _ _ _ _ (fun h => hA (Or.comm.1 h))]
        exact cmpI_turn _ _
      · rw [nV _ _ _ _ hA, nV _ _ _ _ hB, nV _ _ _ _ hC]
        by_cases p1 : a1 * b0 < a0 * b1
        · by_cases p2 : a2 * b1 < a1 * b2
          · right; right
            exact (cmpI_gt _ _).2 (cr_trans a2 b2 a1 b1 a0 b0 (by omega) (by omega) (by omega) p2 (by omega))
          · right; left
            have := mt (cmpI_gt (a1 * b2) (a2 * b1)).1 p2
            omega
        · left
          have := mt (cmpI_gt (a0 * b1) (a1 * b0)).1 p1
          omega
      · rw [nV _ _ _ _ hA, nV _ _ _ _ hB, nV _ _ _ _ hC]
        by_cases p1 : a0 * b1 = a1 * b0
        · by_cases p2 : a1 * b2 = a2 * b1
          · right; right; right; right
            exact (cmpI_eq _ _).2 (cr_eq a0 b0 a1 b1 a2 b2 (by omega) p1 p2)
          · have := mt (cmpI_eq (a1 * b2) (a2 * b1)).1 p2
            omega
        · have := mt (cmpI_eq (a0 * b1) (a1 * b0)).1 p1
          omega
      · by_cases hD : a0 = 0 ∨ a1 = 0
        · exact .inl ⟨zE _ _ hD, hD⟩
        · refine .inr ⟨nE _ _ hD, ?_⟩
          rw [nV _ _ _ _ hD, nV _ _ _ _ hA, ← cmpI_turn]
          rw [Int.mul_comm b0 a1, Int.mul_comm b1 a0]

end Go.Proofs.Try
