/- The laws of layer 3: awake. -/
import Derived.Test.YtbiifigiobnkpaaRat3
import Derived.Test.YtbiifigiobnkpaaRat4
namespace Go.Proofs.Try
open Go.RowKit
set_option linter.unusedVariables false

set_option maxRecDepth 100000 in
set_option maxHeartbeats 4000000 in
theorem awake3 (w : World) :
    Calls Try.prog 15 #[] w fun r w' => r = .returned (.bool true) ∧ Below w.heap.size w w' := by
  have k1 : rcV 1 3 2 6 = 0 := by decide +kernel
  have k2 : rcE 3 6 = 0 := by decide +kernel
  have k3 : rcV 18446744073709551615 18446744073709551614 18446744073709551614 18446744073709551613 = -1 := by decide +kernel
  have k4 : rcE 0 1 = 20 := by decide +kernel
  have k5 : lstS [(1, 0), (2, 3), (1, 2), (2, 4)] 4 = (2, true) := by decide +kernel
  have k6 : lstS [(1, 0)] 1 = (0, false) := by decide +kernel
  have k7 : fl 7 5 4 = 8 := by decide +kernel
  have k8 : flE 7 5 4 = 0 := by decide +kernel
  have k9 : pv 4 (cq (7 * 5) 4) = 9 := by decide +kernel
  have k10 : pe 4 (cq (7 * 5) 4) = 0 := by decide +kernel
  have k11 : pv 4 (nq (7 * 5) 4) = 9 := by decide +kernel
  have k12 : pe 4 (nq (7 * 5) 4) = 0 := by decide +kernel
  have k13 : flE 9223372036854775808 2 1 = 10 := by decide +kernel
  have k14 : pe 0 (nq (1 * 1) 0) = 20 := by decide +kernel
  go_enter Try.func15, Try.ntmps15
  go_wp2_with (go_at_call 16; with_reducible refine (rcmp_c _ _ _ _ (by omega) (by omega) (by omega) (by omega) (by omega) (by omega) (by omega) (by omega) _).mono ?_; rintro e w1 ⟨rfl, hb1⟩; have hz1 := hb1.size)
  refine (least_t _ 4 _ [(1, 0), (2, 3), (1, 2), (2, 4)] 2 true k5 (R64_of _ (by decide)) (by omega) _ (Sees.new2 _ _ _ _ _ rfl rfl)).mono ?_
  rintro e w4 ⟨rfl, hb4⟩
  have hz4 := hb4.size
  simp only [World.size_alloc] at hz4
  go_wp2_with fail
  refine (least_t _ 1 _ [(1, 0)] 0 false k6 (R64_of _ (by decide)) (by omega) _ (Sees.new2 _ _ _ _ _ rfl rfl)).mono ?_
  rintro e w5 ⟨rfl, hb5⟩
  have hz5 := hb5.size
  simp only [World.size_alloc] at hz5
  go_wp2_with (first
    | (go_at_call 20; with_reducible refine (floor_c _ _ _ (by omega) (by omega) (by omega) (by omega) (by omega) (by omega) _).mono ?_; rintro e w6 ⟨rfl, hb6⟩; have hz6 := hb6.size)
    | (go_at_call 22; with_reducible refine (ceil_c _ _ _ (by omega) (by omega) (by omega) (by omega) (by omega) (by omega) _).mono ?_; rintro e w7 ⟨rfl, hb7⟩; have hz7 := hb7.size)
    | (go_at_call 24; with_reducible refine (near_c _ _ _ (by omega) (by omega) (by omega) (by omega) (by omega) (by omega) _).mono ?_; rintro e w8 ⟨rfl, hb8⟩; have hz8 := hb8.size))
  go_ret
  exact ⟨by first | rfl | (simp; done), by (repeat' (first | (with_reducible exact Below.refl _ _) | (with_reducible assumption) | (with_reducible refine Below.alloc ?_ ?_ _) | (with_reducible refine Below.drew ?_) | (with_reducible refine Below_drewN ?_ _) | (with_reducible refine Below.setCell ?_ ?_ _) | (refine Below.step (B' := ?_) (b := ?_) ?_ ?_ ?_; rotate_left 2; (with_reducible assumption)) | go_size))⟩
end Go.Proofs.Try
