/- The laws of layer 10: awake. -/
import Derived.Test.YtgphmjhhfcgnaaaCls2
import Derived.Test.YtgphmjhhfcgnaaaSame
namespace Go.Proofs.Try
open Go.RowKit
set_option linter.unusedVariables false

theorem cut150 : cutL 150 = [3, 3, 2] := by decide +kernel

set_option maxHeartbeats 1000000 in
theorem awake10 (w : World) :
    Calls Try.prog 8 #[] w fun r w' => r = .returned (.bool true) ∧ Below w.heap.size w w' := by
  have e0 : clsB 0 = 8 := rfl
  have e3 : clsB 3 = 64 := rfl
  have e4 : clsB 4 = 0 := rfl
  have s0 : clsS 0 = 64 := rfl
  have s3 : clsS 3 = 8 := rfl
  have s1 : clsS (-1) = 0 := rfl
  have f9 : clsF 9 = 1 := rfl
  have f65 : clsF 65 = -1 := rfl
  have f0 : clsF 0 = -1 := rfl
  have t : clsT [3, 3, 2] = 160 := by decide +kernel
  go_enter Try.func8, Try.ntmps8
  go_wp2_with fail
  refine (cut_c 150 (by omega) (by omega) _).mono ?_
  rintro e w1 ⟨A, n, c, rfl, hc, hs, hb1⟩
  rw [cut150] at hs
  obtain rfl : 3 = n := hs.len
  have hz1 := hb1.size
  go_wp2_with (go_at_call 9; refine (cut_no _ (by omega) _).mono ?_; rintro e w' ⟨rfl, rfl⟩)
  refine (same_t _ _ _ _ _ [3, 3, 2] _ (hs.alloc _) (Sees.new _ _ _) (by omega)).mono ?_
  rintro e w2 ⟨rfl, hb2⟩
  have hz2 := hb2.size
  go_wp2_with fail
  refine (room_c _ _ _ [3, 3, 2] _ ((hs.alloc _).below hb2) (by omega)).mono ?_
  rintro e w' ⟨rfl, rfl⟩
  go_wp2_with (first
    | (go_at_call 11; refine (bytes_c _ _).mono ?_; rintro e w' ⟨rfl, rfl⟩)
    | (go_at_call 13; refine (slots_c _ _).mono ?_; rintro e w' ⟨rfl, rfl⟩)
    | (go_at_call 15; refine (fit_c _ _).mono ?_; rintro e w' ⟨rfl, rfl⟩))
  go_ret
  exact ⟨rfl, by (repeat' (first | (with_reducible exact Below.refl _ _) | (with_reducible assumption) | (with_reducible refine Below.alloc ?_ ?_ _) | (with_reducible refine Below.drew ?_) | (with_reducible refine Below_drewN ?_ _) | (with_reducible refine Below.setCell ?_ ?_ _) | (refine Below.step (B' := ?_) (b := ?_) ?_ ?_ ?_; rotate_left 2; (with_reducible assumption)) | go_size))⟩
end Go.Proofs.Try
