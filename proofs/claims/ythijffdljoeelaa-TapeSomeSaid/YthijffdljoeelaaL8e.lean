/- The walk of TapeSome. -/
import Derived.Test.YthijffdljoeelaaTape5
import Derived.Test.YthijffdljoeelaaLater
namespace Go.Proofs.Try
open Go.RowKit
set_option linter.unusedVariables false

/-- What a world holds while the list is looked at: both tapes, and the list. -/
def P8 (w W : World) (B C b : Nat) (s : ByteArray) (i j : Int) (xs : List Int) : Prop :=
  tapeAt W B s i ∧ tapeAt W C s j ∧ rowAt W b xs ∧ B < W.heap.size ∧ C < W.heap.size ∧ b < W.heap.size ∧ Below w.heap.size w W
theorem P8.drewN {w W : World} {B C b : Nat} {s : ByteArray} {i j : Int} {xs : List Int} (h : P8 w W B C b s i j xs) (q : Nat) : P8 w (W.drewN q) B C b s i j xs := by
  obtain ⟨h1, h2, h3, h4, h5, h6, h7⟩ := h
  exact ⟨h1, h2, h3, by simpa using h4, by simpa using h5, by simpa using h6, Below_drewN h7 q⟩
theorem P8.below {w W W' : World} {B C b : Nat} {s : ByteArray} {i j : Int} {xs : List Int} (h : P8 w W B C b s i j xs) (hb : Below W.heap.size W W') (hw : w.heap.size ≤ W.heap.size) : P8 w W' B C b s i j xs := by
  obtain ⟨h1, h2, h3, h4, h5, h6, h7⟩ := h
  have := hb.size
  exact ⟨h1.below hb h4, h2.below hb h5, h3.below hb h6, by omega, by omega, by omega, h7.trans (hb.mono hw)⟩

set_option maxRecDepth 100000 in
set_option maxHeartbeats 4000000 in
theorem walk_TapeSome (a0 : ByteArray) (b0 a1 a2 : Int) (w0 : a0.size ≤ maxLen) (z0 : (Lit.int .i64 b0).wf = true) (w1 : (Lit.int .u8 a1).wf = true) (w2 : (Lit.int .u8 a2).wf = true) (w : World) :
    Calls Try.prog 6 #[.agg #[.string a0, .int .i64 b0], .int .u8 a1, .int .u8 a2] w fun e w' => e = .returned (.bool true) ∧ Below w.heap.size w w' := by
  obtain ⟨g0, g0'⟩ := bounds_i64 z0
  obtain ⟨h1, h1'⟩ := bounds_u8 w1
  obtain ⟨h2, h2'⟩ := bounds_u8 w2
  clear z0 w1 w2
  by_cases c0 : a0.size ≤ 1000
  · have d0 : decide (1000 < (a0.size : Int)) = false := by simp; omega
    clear w0
    obtain ⟨K, hK, hK1, hK2⟩ : ∃ K : Nat, 1 + a1 % 50 = K ∧ 1 ≤ K ∧ K ≤ 50 := ⟨(1 + a1 % 50).toNat, by omega, by omega, by omega⟩
    obtain ⟨M, hM, hM1, hM2⟩ : ∃ M : Nat, 1 + a2 % 60 = M ∧ 1 ≤ M ∧ M ≤ 60 := ⟨(1 + a2 % 60).toNat, by omega, by omega, by omega⟩
    obtain ⟨m, hm, hm1, hm2, hm3⟩ : ∃ m : Nat, min (K : Int) M = m ∧ (min (M : Int) K).toNat = m ∧ 1 ≤ m ∧ m ≤ K := ⟨(min (M : Int) K).toNat, by omega, rfl, by omega, by omega⟩
    have hmK : min (m : Int) K = m := by omega
    have S1 := some_ok a0 b0 K M (by omega) g0 g0' hK1 (by omega) (by omega)
    have S2 := some_ok a0 b0 K K (by omega) g0 g0' hK1 (by omega) (by omega)
    rw [hm1, someA_val a0 m b0 K hm3 (by omega)] at S1
    rw [show (min (K : Int) K).toNat = K by omega] at S2
    change ∀ w, Calls _ _ _ w fun r w' => ∃ b, _ ∧ _ ∧ rowAt w' b (someL a0 m b0 (ups K)) ∧ _ at S1
    change ∀ w, Calls _ _ _ w fun r w' => ∃ b, _ ∧ _ ∧ rowAt w' b (someL a0 K b0 (ups K)) ∧ _ at S2
    obtain ⟨hnd, hrg⟩ := someL_fine a0 m b0 K hm3 (by omega)
    have htk := someL_take a0 m K b0 (ups K) hm3
    have hl1 := someL_len a0 m b0 (ups K)
    have hl2 := someL_len a0 K b0 (ups K)
    generalize someL a0 m b0 (ups K) = XS at *
    generalize someL a0 K b0 (ups K) = XA at *
    generalize someA a0 K b0 K = j2 at *
    have HL := left_c a0 b0 (by omega) g0 g0'
    have hL0 : 0 ≤ leftN a0 b0 := by unfold leftN; omega
    have hL1 : leftN a0 b0 ≤ 250 := by unfold leftN many; omega
    generalize leftN a0 b0 = Lf at *
    obtain ⟨d, hd⟩ : ∃ d, min (m : Int) Lf = d := ⟨_, rfl⟩
    have hd0 : 0 ≤ d ∧ d ≤ 250 := by omega
    rw [hd] at S1
    obtain ⟨J, hJ⟩ : ∃ J, (if b0 < 0 then b0 else b0 + d) = J := ⟨_, rfl⟩
    rw [hJ] at S1
    have HJ := Lib.hid hJ
    clear hJ
    unfold tp at S1 S2 HL
    have HX := Lib.hid (And.intro hnd hrg)
    clear hnd hrg
    go_enter Try.func6, Try.ntmps6
    go_wp2_with fail
    with_reducible refine (awake8 _).mono ?_
    rintro e w1 ⟨rfl, hb1⟩
    obtain ⟨hc_w1, hf_w1, hz_w1⟩ := kept hb1; (try have hzw0_w1 : w.heap.size < w1.heap.size := (by have := hz_w1; first | omega | (simp at this; omega)))
    have hT1 : tapeAt w1 w.heap.size a0 b0 := tapeAt.below (W := w.alloc (.cells #[.string a0, .int .i64 b0] 23)) ⟨by go_simp, by go_simp, by go_simp, by go_simp⟩ hb1 (by simp)
    have hz1 := hb1.size
    simp only [World.size_alloc] at hz1
    go_wp2_with fail
    refine (S1 _).mono ?_
    rintro e w2 ⟨b, rfl, hbs, hrow, hb2⟩
    obtain ⟨hc_w2, hf_w2, hz_w2⟩ := kept hb2; (try have hzw0_w2 : w.heap.size < w2.heap.size := (by have := hz_w2; first | omega | (simp at this; omega)))
    have hz2 := hb2.size
    have hB2 : Below w.heap.size w w2 := by (repeat' (first | (with_reducible exact Below.refl _ _) | (with_reducible assumption) | (with_reducible refine Below.alloc ?_ ?_ _) | (with_reducible refine Below.drew ?_) | (with_reducible refine Below_drewN ?_ _) | (with_reducible refine Below.setCell ?_ ?_ _) | (refine Below.step (B' := ?_) (b := ?_) ?_ ?_ ?_; rotate_left 2; (with_reducible assumption)) | go_size))
    have HP : Hid (∀ J, P8 w (w2.alloc (.cells #[.string a0, .int .i64 J] 23)) w.heap.size w2.heap.size b a0 b0 J XS) := fun J =>
      ⟨(hT1.below hb2 (by omega)).alloc (by omega) _, ⟨by go_simp, by go_simp, by go_simp, by go_simp⟩, hrow.alloc hbs _, by simp; omega, by simp, by simp; omega, by (repeat' (first | (with_reducible exact Below.refl _ _) | (with_reducible assumption) | (with_reducible refine Below.alloc ?_ ?_ _) | (with_reducible refine Below.drew ?_) | (with_reducible refine Below_drewN ?_ _) | (with_reducible refine Below.setCell ?_ ?_ _) | (refine Below.step (B' := ?_) (b := ?_) ?_ ?_ ?_; rotate_left 2; (with_reducible assumption)) | go_size))⟩
    clear hb1 hT1 hrow hB2 hc_w1 hf_w1 hz_w1 hc_w2 hf_w2 hz_w2
    have HBB := Lib.hid hb2
    clear hb2
    have HQ := Lib.hid (HP.out J)
    clear HP
    go_wp2_with fail
    go_loopw [11] (fun x wr => ∃ k : Nat, k ≤ m ∧ x = .int .i64 k ∧ P8 w wr w.heap.size w2.heap.size b a0 b0 J XS) (fun x _ => m - (intOf x).toNat)
    case atStart => exact ⟨0, by omega, rfl, HQ.out⟩
    case round =>
      obtain ⟨k, hk, rfl, hP⟩ := hrel
      have HP := Lib.hid hP
      obtain ⟨_, _, hrow, _, _, hbz, _⟩ := hP
      by_cases hlt : k < m
      · obtain ⟨x, hx⟩ : ∃ x, XS.getD k 0 = x := ⟨_, rfl⟩
        have hin := HX.out.2 _ (getD_in XS k (by omega))
        have hcell := (hrow k (by omega)).1
        rw [hx] at hin hcell
        obtain ⟨x0, x1⟩ := hin
        have e1 : decide (x < 0) = false := by simp; omega
        have e2 : decide ((K : Int) ≤ x) = false := by simp; omega
        clear hrow
        go_wp2_with fail
        go_loopw [12] (fun y W => ∃ j : Nat, j ≤ k ∧ y = .int .i64 j ∧ P8 w W w.heap.size w2.heap.size b a0 b0 J XS) (fun y _ => k - (intOf y).toNat)
        case atStart => exact ⟨0, by omega, rfl, HP.out⟩
        case round =>
          obtain ⟨j, hj, rfl, hP⟩ := hrel
          have HP2 := Lib.hid hP
          obtain ⟨_, _, hrow, _, _, hbz2, _⟩ := hP
          by_cases hlt2 : j < k
          · obtain ⟨y, hy⟩ : ∃ y, XS.getD j 0 = y := ⟨_, rfl⟩
            have hne := getD_unlike XS HX.out.1 k j (by omega) (by omega) (by omega)
            have hc1 := (hrow k (by omega)).1
            have hc2 := (hrow j (by omega)).1
            rw [hx] at hc1 hne
            rw [hy] at hc2 hne
            have e3 : (x == y) = false := by simpa using hne
            clear hrow hcell
            go_wp2_with fail
            go_quiet (fail)
            go_wp2_with fail
            go_roundw
            case rel => exact ⟨j + 1, by omega, by go_num, HP2.out.drewN _⟩
            case measure => simp [intOf]; omega
          · have hje : k = j := by omega
            subst hje
            clear hrow
            go_wp2_with fail
            go_roundw
            case rel => exact ⟨k + 1, by omega, by go_num, HP2.out⟩
            case measure => simp [intOf]; omega
      · have hke : m = k := by omega
        subst hke
        clear hrow
        obtain ⟨⟨t0, t1, t2, t3⟩, ⟨u0, u1, u2, u3⟩, hrow, z0, z1, z2, hB⟩ := HP.out
        have HR := Lib.hid hrow
        have HB := Lib.hid hB
        clear hrow hB
        go_wp2_with fail
        refine (S2 _).mono ?_
        rintro e w3 ⟨b', rfl, hbs3, hrow3, hb3⟩
        have hz3 := hb3.size
        have HP3 := Lib.hid (HP.out.below hb3 (by omega))
        obtain ⟨⟨v0, v1, v2, v3⟩, ⟨r0, r1, r2, r3⟩, _, n0, n1, n2, _⟩ := HP3.out
        clear t0 t1 t2 t3 u0 u1 u2 u3 hb3
        by_cases hi : b0 < 0
        · have hJJ : J = b0 := by have := HJ.out; rw [if_pos hi] at this; exact this.symm
          subst hJJ
          go_wp2_with fail
          (refine region_later (by kernel_rfl) (by kernel_rfl) ?_); (intro hlat); (repeat (go_big_quiet_step ((first | (go_at_call 22; with_reducible exact later_call (HL _)))))); (refine wpQuiet_nil ?_); (intro W1 hbW1); (clear hlat)
          have hzW1 := hbW1.size
          simp only [World.size_alloc] at hzW1
          have HW := Lib.hid ((HP3.out.below ((Below.refl _ _).alloc (Nat.le_refl _) (.cells #[.string a0, .int .i64 j2] 23)) (by omega)).below hbW1 (by simp; omega))
          have HA := Lib.hid (((hrow3.alloc hbs3 (.cells #[.string a0, .int .i64 j2] 23))).below hbW1 (by simp; omega))
          obtain ⟨⟨p0, p1, p2, p3⟩, ⟨q0, q1, q2, q3⟩, hrw, y0, y1, y2, hBW⟩ := HW.out
          have HRW := Lib.hid hrw
          clear hrw hrow3 v0 v1 v2 v3 r0 r1 r2 r3
          go_wp2_with fail
          refine (same_t _ _ m _ _ XS _ ?_ ?_ (by omega)).mono ?_
          · have := (HA.out.sees (by omega)).first m (by omega)
            rwa [htk] at this
          · have := HRW.out.sees (by omega)
            rwa [hl1] at this
          rintro e w5 ⟨rfl, hb5⟩
          obtain ⟨hc_w5, hf_w5, hz_w5⟩ := kept hb5
          have hz5 := hb5.size
          go_wp2_with fail
          go_ret
          exact ⟨by first | rfl | (simp; done), by (repeat' (first | (with_reducible exact Below.refl _ _) | (with_reducible assumption) | (with_reducible refine Below.alloc ?_ ?_ _) | (with_reducible refine Below.drew ?_) | (with_reducible refine Below_drewN ?_ _) | (with_reducible refine Below.setCell ?_ ?_ _) | (refine Below.step (B' := ?_) (b := ?_) ?_ ?_ ?_; rotate_left 2; (with_reducible assumption)) | go_size))⟩
        · have hJJ : J = b0 + d := by have := HJ.out; rw [if_neg hi] at this; exact this.symm
          subst hJJ
          have f1 : decide (b0 < 0) = false := by simpa using hi
          have f2 : decide (0 ≤ b0) = true := by simp; omega
          have f3 : 0 ≤ b0 := by omega
          have f4 : b0 + d - b0 = d := by omega
          go_wp2_with fail
          (refine region_later (by kernel_rfl) (by kernel_rfl) ?_); (intro hlat); (repeat (go_big_quiet_step ((first | (go_at_call 22; with_reducible exact later_call (HL _)))))); (refine wpQuiet_nil ?_); (intro W1 hbW1); (clear hlat)
          have hzW1 := hbW1.size
          simp only [World.size_alloc] at hzW1
          have HW := Lib.hid ((HP3.out.below ((Below.refl _ _).alloc (Nat.le_refl _) (.cells #[.string a0, .int .i64 j2] 23)) (by omega)).below hbW1 (by simp; omega))
          have HA := Lib.hid (((hrow3.alloc hbs3 (.cells #[.string a0, .int .i64 j2] 23))).below hbW1 (by simp; omega))
          obtain ⟨⟨p0, p1, p2, p3⟩, ⟨q0, q1, q2, q3⟩, hrw, y0, y1, y2, hBW⟩ := HW.out
          have HRW := Lib.hid hrw
          clear hrw hrow3 v0 v1 v2 v3 r0 r1 r2 r3
          go_wp2_with fail
          refine (same_t _ _ m _ _ XS _ ?_ ?_ (by omega)).mono ?_
          · have := (HA.out.sees (by omega)).first m (by omega)
            rwa [htk] at this
          · have := HRW.out.sees (by omega)
            rwa [hl1] at this
          rintro e w5 ⟨rfl, hb5⟩
          obtain ⟨hc_w5, hf_w5, hz_w5⟩ := kept hb5
          have hz5 := hb5.size
          go_wp2_with fail
          go_ret
          exact ⟨by first | rfl | (simp; done), by (repeat' (first | (with_reducible exact Below.refl _ _) | (with_reducible assumption) | (with_reducible refine Below.alloc ?_ ?_ _) | (with_reducible refine Below.drew ?_) | (with_reducible refine Below_drewN ?_ _) | (with_reducible refine Below.setCell ?_ ?_ _) | (refine Below.step (B' := ?_) (b := ?_) ?_ ?_ ?_; rotate_left 2; (with_reducible assumption)) | go_size))⟩
  · have d0 : 1000 < (a0.size : Int) := by omega
    go_enter Try.func6, Try.ntmps6
    go_wp2_with fail
    with_reducible refine (awake8 _).mono ?_
    rintro e w1 ⟨rfl, hb1⟩
    obtain ⟨hc_w1, hf_w1, hz_w1⟩ := kept hb1; (try have hzw0_w1 : w.heap.size < w1.heap.size := (by have := hz_w1; first | omega | (simp at this; omega)))
    have hz1 := hb1.size
    simp only [World.size_alloc] at hz1
    go_wp2_with fail
    go_ret
    exact ⟨rfl, by (repeat' (first | (with_reducible exact Below.refl _ _) | (with_reducible assumption) | (with_reducible refine Below.alloc ?_ ?_ _) | (with_reducible refine Below.drew ?_) | (with_reducible refine Below_drewN ?_ _) | (with_reducible refine Below.setCell ?_ ?_ _) | (refine Below.step (B' := ?_) (b := ?_) ?_ ?_ ?_; rotate_left 2; (with_reducible assumption)) | go_size))⟩
end Go.Proofs.Try
