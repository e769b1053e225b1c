/- The walk of ClassSegments. -/
import Derived.Test.YtgphmjhhfcgnaaaL10a
namespace Go.Proofs.Try
open Go.RowKit
set_option linter.unusedVariables false

set_option maxHeartbeats 2000000 in
theorem segs (k : Int) (hk : k = 0 ∨ k = 1 ∨ k = 2 ∨ k = 3) (a0 : Int) (h0 : 0 ≤ a0) (h0' : a0 ≤ 255) (he : a0 % 4 = k) (A B : Option Addr) (n m c d : Nat) (xs ys : List Int) (w : World)
    (hA : Sees w 1 A n (xs.map (Value.int .i64))) (hB : Sees w 1 B m (ys.map (Value.int .i64))) (hcA : A = none → c = 0) (hcB : B = none → d = 0) (hn : n ≤ 1000) (hm : m ≤ 1000) :
    Calls Try.prog 7 #[.int .u8 a0, .slice A n c, .slice B m d] w fun e w' => e = .returned (.bool true) ∧ Below w.heap.size w w' := by
  obtain ⟨i0, hi, hz0, hz1, hz2⟩ := info_parts int_info
  have e0 : clsB 0 = 8 := rfl
  have e1 : clsB 1 = 16 := rfl
  have e2 : clsB 2 = 32 := rfl
  have e3 : clsB 3 = 64 := rfl
  have s0 : clsS 0 = 64 := rfl
  have s1 : clsS 1 = 32 := rfl
  have s2 : clsS 2 = 16 := rfl
  have s3 : clsS 3 = 8 := rfl
  have f0 : clsF 8 = 0 := rfl
  have f1 : clsF 16 = 1 := rfl
  have f2 : clsF 32 = 2 := rfl
  have f3 : clsF 64 = 3 := rfl
  have b1 := clsT_in xs
  have b2 := clsT_in ys
  rw [hA.len] at b1
  rw [hB.len] at b2
  have HT := Lib.hid (clsT_app xs ys)
  generalize hT : clsT xs = T at b1 HT
  generalize hU : clsT ys = U at b2 HT
  have HT1 := Lib.hid hT
  have HU1 := Lib.hid hU
  clear hT hU
  rcases hk with rfl | rfl | rfl | rfl
  all_goals
    go_enter Try.func7, Try.ntmps7
    go_wp2_with fail
    refine (awake10 _).mono ?_
    rintro e w1 ⟨rfl, hb1⟩
    have hz1' := hb1.size
    have hA1 := hA.below hb1
    have hB1 := hB.below hb1
    go_wp2_with (first
      | (at_builtin
         refine wpList_app rfl (.tmp 23) (.tmp 24) _ rfl w1.heap.size 3 i0 _ 1 8 Try.underlying22 hi hz0 hz1 hz2 rfl (by omega) _ 0 [] rfl (World.ownsRow_made w1 #[] 0 (Nat.le_refl _) (Nat.zero_le _) rfl) A n c (xs.map (Value.int .i64)) rfl hcA (hA1.alloc _) (ints_one _ _) (by unfold maxLen; omega) (by omega) (by simp) ?_
         intro v1 w2 hown2 hb2
         have hz2' := hb2.size
         simp only [World.size_alloc] at hz2'
         have hB2 := hB1.below (Below.step1 (Below.refl w1.heap.size w1) hb2 (Nat.le_refl _)))
      | (at_builtin
         refine wpList_app rfl (.tmp 25) (.tmp 26) _ rfl w1.heap.size 3 i0 _ 1 8 Try.underlying22 hi hz0 hz1 hz2 rfl (by omega) v1 (0 + n) ([] ++ xs.map (Value.int .i64)) rfl hown2 B m d (ys.map (Value.int .i64)) rfl hcB hB2 (ints_one _ _) (by unfold maxLen; omega) (by omega) (by omega) ?_
         intro v2 w3 hown3 hb3
         obtain ⟨C, q, rfl, hcC, hC⟩ := Sees.of_own hown3
         have hb13 : Below w1.heap.size w1 w3 := (Below.step1 (Below.refl w1.heap.size w1) hb2 (Nat.le_refl _)).trans hb3
         have hz3' := hb13.size
         have hA3 := hA1.below hb13
         have hB3 := hB1.below hb13
         rw [List.nil_append, ← List.map_append, Nat.zero_add] at hC)
      | (go_at_call 11; refine (bytes_c _ _).mono ?_; rintro e w' ⟨rfl, rfl⟩)
      | (go_at_call 13; refine (slots_c _ _).mono ?_; rintro e w' ⟨rfl, rfl⟩)
      | (go_at_call 15; refine (fit_c _ _).mono ?_; rintro e w' ⟨rfl, rfl⟩))
    refine (room_t _ _ _ (xs ++ ys) (T + U) HT.out _ hC (by omega)).mono ?_
    rintro e w' ⟨rfl, rfl⟩
    go_wp2_with fail
    refine (room_t _ _ _ xs T HT1.out _ hA3 (by omega)).mono ?_
    rintro e w' ⟨rfl, rfl⟩
    go_wp2_with fail
    refine (room_t _ _ _ ys U HU1.out _ hB3 (by omega)).mono ?_
    rintro e w' ⟨rfl, rfl⟩
    go_wp2_with fail
    go_ret
    exact ⟨rfl, by (repeat' (first | (with_reducible exact Below.refl _ _) | (with_reducible assumption) | (with_reducible refine Below.alloc ?_ ?_ _) | (with_reducible refine Below.drew ?_) | (with_reducible refine Below_drewN ?_ _) | (with_reducible refine Below.setCell ?_ ?_ _) | (refine Below.step (B' := ?_) (b := ?_) ?_ ?_ ?_; rotate_left 2; (with_reducible assumption)) | go_size))⟩

theorem walk_ClassSegments (a0 : Int) (v1 v2 : Value) (w0 : (Lit.int .u8 a0).wf = true) (w : World) (o1 : ∃ xs, Row w .i64 v1 xs) (o2 : ∃ xs, Row w .i64 v2 xs) :
    Calls Try.prog 7 #[.int .u8 a0, v1, v2] w fun e w' => e = .returned (.bool true) ∧ Below w.heap.size w w' := by
  obtain ⟨h0, h0'⟩ := bounds_u8 w0
  clear w0
  obtain ⟨xs, A, n, c, rfl, hcA, hn, hA, _⟩ := o1
  obtain ⟨ys, B, m, d, rfl, hcB, hm, hB, _⟩ := o2
  by_cases hn1 : n ≤ 1000
  · by_cases hm1 : m ≤ 1000
    · exact segs (a0 % 4) (by omega) a0 h0 h0' rfl A B n m c d xs ys w hA hB hcA hcB hn1 hm1
    · go_enter Try.func7, Try.ntmps7
      go_wp2_with fail
      refine (awake10 _).mono ?_
      rintro e w1 ⟨rfl, hb1⟩
      go_wp2_with fail
      go_ret
      exact ⟨rfl, by (repeat' (first | (with_reducible exact Below.refl _ _) | (with_reducible assumption) | (with_reducible refine Below.alloc ?_ ?_ _) | (with_reducible refine Below.drew ?_) | (with_reducible refine Below_drewN ?_ _) | (with_reducible refine Below.setCell ?_ ?_ _) | (refine Below.step (B' := ?_) (b := ?_) ?_ ?_ ?_; rotate_left 2; (with_reducible assumption)) | go_size))⟩
  · go_enter Try.func7, Try.ntmps7
    go_wp2_with fail
    refine (awake10 _).mono ?_
    rintro e w1 ⟨rfl, hb1⟩
    go_wp2_with fail
    go_ret
    exact ⟨rfl, by (repeat' (first | (with_reducible exact Below.refl _ _) | (with_reducible assumption) | (with_reducible refine Below.alloc ?_ ?_ _) | (with_reducible refine Below.drew ?_) | (with_reducible refine Below_drewN ?_ _) | (with_reducible refine Below.setCell ?_ ?_ _) | (refine Below.step (B' := ?_) (b := ?_) ?_ ?_ ?_; rotate_left 2; (with_reducible assumption)) | go_size))⟩
end Go.Proofs.Try
