/- The walk of ClassTells. -/
import Derived.Test.YtgphmjhhfcgnaaaL10b
import Derived.Test.YtgphmjhhfcgnaaaRef10
namespace Go.Proofs.Try
open Go.RowKit
set_option linter.unusedVariables false

set_option maxHeartbeats 2000000 in
theorem walk_ClassTells (a0 a1 : Int) (v2 : Value) (w0 : (Lit.int .i64 a0).wf = true) (w1 : (Lit.int .i64 a1).wf = true) (w : World) (o2 : ∃ xs, Row w .i64 v2 xs) :
    Calls Try.prog 3 #[.int .i64 a0, .int .i64 a1, v2] w fun e w' => e = .returned (.bool true) ∧ Below w.heap.size w w' := by
  obtain ⟨h0, h0'⟩ := bounds_i64 w0
  obtain ⟨h1, h1'⟩ := bounds_i64 w1
  clear w0 w1
  obtain ⟨xs, A, n, c, rfl, hcA, hn, hA, _⟩ := o2
  by_cases hn1 : n ≤ 1000
  · by_cases hsz : 1 ≤ a1 ∧ a1 ≤ 4096
    · obtain ⟨n1, n2⟩ := hsz
      have hk : (cutL a1).length ≤ 65 := by have := (clsT_cut a1 n1).2; split at this <;> omega
      generalize hy : cutL a1 = ys at hk
      have HY := Lib.hid hy
      generalize hkl : ys.length = k at hk
      have HK := Lib.hid hkl
      clear hy hkl
      go_enter Try.func3, Try.ntmps3
      go_wp2_with fail
      refine (awake10 _).mono ?_
      rintro e w1 ⟨rfl, hb1⟩
      have hz1' := hb1.size
      have hA1 := hA.below hb1
      go_wp2_with fail
      refine (cut_l a1 n1 n2 ys HY.out k HK.out _).mono ?_
      rintro e w2 ⟨B, d, rfl, hd, hs, hb2⟩
      have hz2' := hb2.size
      have hA2 := hA1.below hb2
      go_wp2_with fail
      refine (rcut_l a1 n1 n2 ys HY.out k HK.out _).mono ?_
      rintro e w3 ⟨C, q, rfl, hq, hr, hb3⟩
      have hz3' := hb3.size
      have hA3 := hA2.below hb3
      have hs3 := hs.below hb3
      go_wp2_with (first
        | (go_at_call 11; refine (bytes_c _ _).mono ?_; rintro e w' ⟨rfl, rfl⟩)
        | (go_at_call 13; refine (slots_c _ _).mono ?_; rintro e w' ⟨rfl, rfl⟩)
        | (go_at_call 15; refine (fit_c _ _).mono ?_; rintro e w' ⟨rfl, rfl⟩)
        | (go_at_call 12; refine (rbytes_c _ _).mono ?_; rintro e w' ⟨rfl, rfl⟩)
        | (go_at_call 14; refine (rslots_c _ _).mono ?_; rintro e w' ⟨rfl, rfl⟩)
        | (go_at_call 16; refine (rfit_c _ _).mono ?_; rintro e w' ⟨rfl, rfl⟩))
      refine (same_t _ _ _ _ _ ys _ hs3 hr (by omega)).mono ?_
      rintro e w4 ⟨rfl, hb4⟩
      have hz4' := hb4.size
      have hA4 := hA3.below hb4
      go_wp2_with (first
        | (go_at_call 18; refine (room_c _ _ _ xs _ hA4 (by omega)).mono ?_; rintro e w' ⟨rfl, rfl⟩)
        | (go_at_call 19; refine (rroom_c _ _ _ xs _ hA4 (by omega)).mono ?_; rintro e w' ⟨rfl, rfl⟩))
      go_ret
      exact ⟨by first | rfl | (simp; done), by (repeat' (first | (with_reducible exact Below.refl _ _) | (with_reducible assumption) | (with_reducible refine Below.alloc ?_ ?_ _) | (with_reducible refine Below.drew ?_) | (with_reducible refine Below_drewN ?_ _) | (with_reducible refine Below.setCell ?_ ?_ _) | (refine Below.step (B' := ?_) (b := ?_) ?_ ?_ ?_; rotate_left 2; (with_reducible assumption)) | go_size))⟩
    · have hout : a1 < 1 ∨ 4096 < a1 := by omega
      clear hsz
      have HO := Lib.hid hout
      clear hout
      go_enter Try.func3, Try.ntmps3
      go_wp2_with fail
      refine (awake10 _).mono ?_
      rintro e w1 ⟨rfl, hb1⟩
      have hz1' := hb1.size
      have hA1 := hA.below hb1
      go_wp2_with (first
        | (go_at_call 9; refine (cut_no _ HO.out _).mono ?_; rintro e w' ⟨rfl, rfl⟩)
        | (go_at_call 10; refine (rcut_no _ HO.out _).mono ?_; rintro e w' ⟨rfl, rfl⟩)
        | (go_at_call 11; refine (bytes_c _ _).mono ?_; rintro e w' ⟨rfl, rfl⟩)
        | (go_at_call 13; refine (slots_c _ _).mono ?_; rintro e w' ⟨rfl, rfl⟩)
        | (go_at_call 15; refine (fit_c _ _).mono ?_; rintro e w' ⟨rfl, rfl⟩)
        | (go_at_call 12; refine (rbytes_c _ _).mono ?_; rintro e w' ⟨rfl, rfl⟩)
        | (go_at_call 14; refine (rslots_c _ _).mono ?_; rintro e w' ⟨rfl, rfl⟩)
        | (go_at_call 16; refine (rfit_c _ _).mono ?_; rintro e w' ⟨rfl, rfl⟩))
      refine (same_t _ _ _ _ _ [] _ (Sees.empty _ _ _) (Sees.empty _ _ _) (by omega)).mono ?_
      rintro e w4 ⟨rfl, hb4⟩
      have hz4' := hb4.size
      have hA4 := hA1.below hb4
      go_wp2_with (first
        | (go_at_call 18; refine (room_c _ _ _ xs _ hA4 (by omega)).mono ?_; rintro e w' ⟨rfl, rfl⟩)
        | (go_at_call 19; refine (rroom_c _ _ _ xs _ hA4 (by omega)).mono ?_; rintro e w' ⟨rfl, rfl⟩))
      go_ret
      exact ⟨by first | rfl | (simp; done), by (repeat' (first | (with_reducible exact Below.refl _ _) | (with_reducible assumption) | (with_reducible refine Below.alloc ?_ ?_ _) | (with_reducible refine Below.drew ?_) | (with_reducible refine Below_drewN ?_ _) | (with_reducible refine Below.setCell ?_ ?_ _) | (refine Below.step (B' := ?_) (b := ?_) ?_ ?_ ?_; rotate_left 2; (with_reducible assumption)) | go_size))⟩
  · go_enter Try.func3, Try.ntmps3
    go_wp2_with fail
    refine (awake10 _).mono ?_
    rintro e w1 ⟨rfl, hb1⟩
    go_wp2_with fail
    go_ret
    exact ⟨rfl, by (repeat' (first | (with_reducible exact Below.refl _ _) | (with_reducible assumption) | (with_reducible refine Below.alloc ?_ ?_ _) | (with_reducible refine Below.drew ?_) | (with_reducible refine Below_drewN ?_ _) | (with_reducible refine Below.setCell ?_ ?_ _) | (refine Below.step (B' := ?_) (b := ?_) ?_ ?_ ?_; rotate_left 2; (with_reducible assumption)) | go_size))⟩
end Go.Proofs.Try
