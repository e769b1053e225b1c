/- The walk of TapeOrder. -/
import Derived.Test.YthijffdljoeelaaW8
namespace Go.Proofs.Try
open Go.RowKit
set_option linter.unusedVariables false

theorem bytes4 (a b c d : Int) (ha : 0 ≤ a ∧ a < 256) (hb : 0 ≤ b ∧ b < 256) (hc : 0 ≤ c ∧ c < 256) (hd : 0 ≤ d ∧ d < 256) (D : Int) (h : a + 256 * b + 65536 * c + 16777216 * d = D) :
    D % 256 = a ∧ D / 256 % 256 = b ∧ D / 65536 % 256 = c ∧ D / 16777216 = d ∧ 0 ≤ D ∧ D < 4294967296 := by omega
theorem index_i (s : ByteArray) (i : Nat) (x : Int) (hx : x = i) (h : i < s.size) (W : World) : (Instr.index 9 (.string s) (.int .i64 x)).run Try.prog W = .ok (.int .u8 (bt s i)) W := by
  subst hx
  exact index_t s i h .i64 W

set_option maxRecDepth 100000 in
set_option maxHeartbeats 4000000 in
theorem walk_TapeOrder (a0 : ByteArray) (w0 : a0.size ≤ maxLen) (w : World) :
    Calls Try.prog 4 #[.string a0] w fun e w' => e = .returned (.bool true) ∧ Below w.heap.size w w' := by
  by_cases c0 : a0.size ≤ 1000
  · have d0 : decide (1000 < (a0.size : Int)) = false := by simp; omega
    clear w0
    obtain ⟨m, hm, hm2⟩ : ∃ m : Nat, (a0.size : Int) / 4 = m ∧ many a0 = m := ⟨a0.size / 4, by omega, by unfold many; omega⟩
    have HL0 := left_c a0 0 (by omega) (by omega) (by omega)
    rw [show leftN a0 0 = m by unfold leftN; omega] at HL0
    unfold tp at HL0
    go_enter Try.func4, Try.ntmps4
    go_wp2_with fail
    with_reducible refine (awake8 _).mono ?_
    rintro e w1 ⟨rfl, hb1⟩
    have hz1 := hb1.size
    go_wp2_with fail
    refine (HL0 _).mono ?_
    rintro e w2 ⟨rfl, hb2⟩
    have hT : tapeAt w2 w1.heap.size a0 0 := tapeAt.below (W := w1.alloc (.cells #[.string a0, .int .i64 0] 23)) ⟨by go_simp, by go_simp, by go_simp, by go_simp⟩ hb2 (by simp)
    have hz2 := hb2.size
    simp only [World.size_alloc] at hz2
    have hB : Below w.heap.size w w2 := by (repeat' (first | (with_reducible exact Below.refl _ _) | (with_reducible assumption) | (with_reducible refine Below.alloc ?_ ?_ _) | (with_reducible refine Below.drew ?_) | (with_reducible refine Below_drewN ?_ _) | (with_reducible refine Below.setCell ?_ ?_ _) | (refine Below.step (B' := ?_) (b := ?_) ?_ ?_ ?_; rotate_left 2; (with_reducible assumption)) | go_size))
    clear hb1 hb2 HL0
    go_wp2_with fail
    go_loopw [6] (fun x wr => ∃ k : Nat, k ≤ m ∧ x = .int .i64 k ∧ tapeAt wr w1.heap.size a0 k ∧ w1.heap.size < wr.heap.size ∧ Below w.heap.size w wr) (fun x _ => m - (intOf x).toNat)
    case atStart => exact ⟨0, by omega, rfl, hT, by omega, hB⟩
    case round =>
      obtain ⟨k, hk, rfl, ht, hz, hb⟩ := hrel
      clear hT hB hz2
      by_cases hlt : k < m
      · have hk4 : 4 * k + 4 ≤ a0.size := by omega
        have HD := draw_in a0 k hk4 (by omega)
        have HL := left_c a0 ((k : Int) + 1) (by omega) (by omega) (by omega)
        rw [show leftN a0 ((k : Int) + 1) = (m : Int) - k - 1 by unfold leftN; omega] at HL
        have x0 := index_i a0 (4 * k) (4 * (k : Int)) (by omega) (by omega)
        have x1 := index_i a0 (4 * k + 1) (4 * (k : Int) + 1) (by omega) (by omega)
        have x2 := index_i a0 (4 * k + 2) (4 * (k : Int) + 2) (by omega) (by omega)
        have x3 := index_i a0 (4 * k + 3) (4 * (k : Int) + 3) (by omega) (by omega)
        have b0 := bt_in a0 (4 * k)
        have b1 := bt_in a0 (4 * k + 1)
        have b2 := bt_in a0 (4 * k + 2)
        have b3 := bt_in a0 (4 * k + 3)
        generalize bt a0 (4 * k) = B0 at *
        generalize bt a0 (4 * k + 1) = B1 at *
        generalize bt a0 (4 * k + 2) = B2 at *
        generalize bt a0 (4 * k + 3) = B3 at *
        obtain ⟨D, hD⟩ : ∃ D, B0 + 256 * B1 + 65536 * B2 + 16777216 * B3 = D := ⟨_, rfl⟩
        obtain ⟨q0, q1, q2, q3, q4, q5⟩ := bytes4 B0 B1 B2 B3 b0 b1 b2 b3 D hD
        rw [hD] at HD
        unfold tp at HD HL
        clear hD b0 b1 b2 b3
        have HT := Lib.hid ht
        obtain ⟨t0, t1, t2, t3⟩ := ht
        have dk : decide ((a0.size : Int) < 4 * (k : Int) + 4) = false := by simp; omega
        go_wp2_with fail
        refine (HD _).mono ?_
        rintro e w3 ⟨rfl, hb3⟩
        obtain ⟨hc_w3, hf_w3, hz_w3⟩ := kept hb3
        have HT3 := Lib.hid (HT.out.below hb3 hz)
        have hz3 := hb3.size
        go_wp2_with fail
        refine (HL _).mono ?_
        rintro e w4 ⟨rfl, hb4⟩
        obtain ⟨hc_w4, hf_w4, hz_w4⟩ := kept hb4; (try have hzw30_w4 : w3.heap.size < w4.heap.size := (by have := hz_w4; first | omega | (simp at this; omega)))
        have HT4 := Lib.hid ((HT3.out.alloc (by omega) (.cells #[.string a0, .int .i64 ((k : Int) + 1)] 23)).below hb4 (by simp; omega))
        have hz4 := hb4.size
        simp only [World.size_alloc] at hz4
        obtain ⟨s0, s1, s2, s3⟩ := HT4.out
        go_wp2_with fail
        go_roundw
        case rel =>
          refine ⟨k + 1, by omega, by go_num, ?_, by simp; omega, by (repeat' (first | (with_reducible exact Below.refl _ _) | (with_reducible assumption) | (with_reducible refine Below.alloc ?_ ?_ _) | (with_reducible refine Below.drew ?_) | (with_reducible refine Below_drewN ?_ _) | (with_reducible refine Below.setCell ?_ ?_ _) | (refine Below.step (B' := ?_) (b := ?_) ?_ ?_ ?_; rotate_left 2; (with_reducible assumption)) | go_size))⟩
          have := HT4.out.set ((k : Int) + 1)
          simpa using this
        case measure => simp [intOf]; omega
      · have hke : m = k := by omega
        subst hke
        have HD := draw_no a0 m (by unfold inside; omega) (by omega) (by omega) (by omega)
        have HL := left_c a0 m (by omega) (by omega) (by omega)
        rw [show leftN a0 m = 0 by unfold leftN; omega] at HL
        unfold tp at HD HL
        have HT := Lib.hid ht
        obtain ⟨t0, t1, t2, t3⟩ := ht
        go_wp2_with fail
        refine (HD _).mono ?_
        rintro e w3 ⟨rfl, hb3⟩
        have HT3 := Lib.hid (HT.out.below hb3 hz)
        have hz3 := hb3.size
        obtain ⟨s0, s1, s2, s3⟩ := HT3.out
        have hq : w1.heap.size < w3.heap.size := by omega
        go_wp2_with fail
        refine (HL _).mono ?_
        rintro e w4 ⟨rfl, hb4⟩
        have hz4 := hb4.size
        simp only [World.size_alloc] at hz4
        go_wp2_with fail
        go_ret
        exact ⟨by first | rfl | (simp; done), by (repeat' (first | (with_reducible exact Below.refl _ _) | (with_reducible assumption) | (with_reducible refine Below.alloc ?_ ?_ _) | (with_reducible refine Below.drew ?_) | (with_reducible refine Below_drewN ?_ _) | (with_reducible refine Below.setCell ?_ ?_ _) | (refine Below.step (B' := ?_) (b := ?_) ?_ ?_ ?_; rotate_left 2; (with_reducible assumption)) | go_size))⟩
  · have d0 : 1000 < (a0.size : Int) := by omega
    go_enter Try.func4, Try.ntmps4
    go_wp2_with fail
    with_reducible refine (awake8 _).mono ?_
    rintro e w1 ⟨rfl, hb1⟩
    go_wp2_with fail
    go_ret
    exact ⟨rfl, by (repeat' (first | (with_reducible exact Below.refl _ _) | (with_reducible assumption) | (with_reducible refine Below.alloc ?_ ?_ _) | (with_reducible refine Below.drew ?_) | (with_reducible refine Below_drewN ?_ _) | (with_reducible refine Below.setCell ?_ ?_ _) | (refine Below.step (B' := ?_) (b := ?_) ?_ ?_ ?_; rotate_left 2; (with_reducible assumption)) | go_size))⟩
end Go.Proofs.Try
