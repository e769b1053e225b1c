/- The walk of ExpoTells. -/
import Derived.Test.YtighjibggjjieaaDoorRef5
import Derived.Test.YtighjibggjjieaaDoorLaw
import Derived.OpenShut
namespace Go.Proofs.Tryd
open Go.RowKit
set_option linter.unusedVariables false
set_option linter.unusedSimpArgs false

set_option maxRecDepth 100000 in
set_option maxHeartbeats 3000000 in
theorem walk_ExpoTells (a0 a1 a2 a3 : Int) (w0 : (Lit.int .u64 a0).wf = true) (w1 : (Lit.int .u64 a1).wf = true) (w2 : (Lit.int .u64 a2).wf = true) (w3 : (Lit.int .u32 a3).wf = true) (w : World) (hT : Pows w) :
    Calls Tryd.prog 3 #[.int .u64 a0, .int .u64 a1, .int .u64 a2, .int .u32 a3] w fun e w' => e = .returned (.bool true) ∧ Below w.heap.size w w' := by
  obtain ⟨p0, q0⟩ := bounds_u64 w0
  obtain ⟨p1, q1⟩ := bounds_u64 w1
  obtain ⟨p2, q2⟩ := bounds_u64 w2
  obtain ⟨p3, q3⟩ := bounds_u32 w3
  obtain ⟨x, rfl⟩ := Int.eq_ofNat_of_zero_le p0
  obtain ⟨a, rfl⟩ := Int.eq_ofNat_of_zero_le p1
  obtain ⟨b, rfl⟩ := Int.eq_ofNat_of_zero_le p2
  obtain ⟨d, rfl⟩ := Int.eq_ofNat_of_zero_le p3
  have HT := Lib.hid hT
  clear hT w0 w1 w2 w3
  have C1 := oexpo_c x (by omega)
  have C2 := rexpo_c x (by omega)
  have C3 := oratio_c a b (by omega) (by omega)
  have C4 := rratio5_c a b (by omega) (by omega)
  have C5 := obelow_c d a b (by omega) (by omega) (by omega)
  have hdc : decide ((d : Int) < ((ratioN a b : Nat) : Int)) = decide (d < ratioN a b) := by simp
  obtain ⟨t, ht⟩ : ∃ t, decide (d < ratioN a b) = t := ⟨_, rfl⟩
  rw [ht] at C5
  clear hdc
  generalize ratioN a b = R at *
  generalize ofx x = X at *
  go_enter Tryd.func3, Tryd.ntmps3
  go_wp2_with fail
  with_reducible refine (awake5 _ HT.out).mono ?_
  rintro e w1 ⟨rfl, hb1⟩
  have HBW := Lib.hid hb1
  have HT := Lib.hid (HT.out.below hb1)
  clear hb1
  go_wp2_with fail
  with_reducible refine (C4 _).mono ?_
  rintro e w2 ⟨rfl, hb2⟩
  have HBW := Lib.hid (chain HBW.out hb2)
  have HT := Lib.hid (HT.out.below hb2)
  clear hb2
  go_wp2_with fail
  with_reducible refine (C1 _ HT.out).mono ?_
  rintro e w3 ⟨rfl, hb3⟩
  have HBW := Lib.hid (chain HBW.out hb3)
  have HT := Lib.hid (HT.out.below hb3)
  clear hb3
  go_wp2_with fail
  with_reducible refine (C2 _).mono ?_
  rintro e w4 ⟨rfl, hb4⟩
  have HBW := Lib.hid (chain HBW.out hb4)
  have HT := Lib.hid (HT.out.below hb4)
  clear hb4
  go_wp2_with fail
  with_reducible refine (C3 _ HT.out).mono ?_
  rintro e w5 ⟨rfl, hb5⟩
  have HBW := Lib.hid (chain HBW.out hb5)
  have HT := Lib.hid (HT.out.below hb5)
  clear hb5
  go_wp2_with fail
  with_reducible refine (C4 _).mono ?_
  rintro e w6 ⟨rfl, hb6⟩
  have HBW := Lib.hid (chain HBW.out hb6)
  have HT := Lib.hid (HT.out.below hb6)
  clear hb6
  go_wp2_with fail
  with_reducible refine (C5 _ HT.out).mono ?_
  rintro e w7 ⟨rfl, hb7⟩
  have HBW := Lib.hid (chain HBW.out hb7)
  have HT := Lib.hid (HT.out.below hb7)
  clear hb7
  go_wp2_with fail
  go_ret
  exact ⟨by first | rfl | (simp; done) | (simp [ht]; done) | (trace_state; simp; omega), HBW.out⟩
end Go.Proofs.Tryd
