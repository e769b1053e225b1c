/- The walk of ExpoNear. -/
import Derived.Test.YtighjibggjjieaaDoorBnd2
import Derived.Test.YtighjibggjjieaaDoorLaw
import Derived.OpenShut
namespace Go.Proofs.Tryd
open Go.RowKit
open Near
set_option linter.unusedVariables false
set_option linter.unusedSimpArgs false

set_option maxRecDepth 100000 in
set_option maxHeartbeats 3000000 in
theorem walk_ExpoNear (a0 : Int) (w0 : (Lit.int .u64 a0).wf = true) (w : World) (hT : Pows w) :
    Calls Tryd.prog 4 #[.int .u64 a0] w fun e w' => e = .returned (.bool true) ∧ Below w.heap.size w w' := by
  obtain ⟨p0, q0⟩ := bounds_u64 w0
  obtain ⟨x, rfl⟩ := Int.eq_ofNat_of_zero_le p0
  have HT := Lib.hid hT
  clear hT w0
  obtain ⟨Y, hY⟩ : ∃ Y, x % 137438953472 = Y := ⟨_, rfl⟩
  have hYi : (x : Int) % 137438953472 = (Y : Int) := by omega
  have hYl : Y < 137438953472 := by omega
  have C1 := bounds_c Y hYl
  have C2 := oexpo_c Y (by omega)
  have hO : ofx Y = eN Y 37 / 1073741824 := ofx_in Y (by omega)
  obtain ⟨n1, n2, n3, n4, n5⟩ := near_all Y hYl
  have hol := ofx_le Y
  rw [← hO] at n4 n5
  clear hY hO
  generalize loS (Y * 33554432) 5 = A at *
  generalize hiS (Y * 33554432) 5 = B at *
  generalize ofx Y = N at *
  have ea : (A : Int) / 1073741824 = ((A / 1073741824 : Nat) : Int) := by omega
  have eb : (B : Int) / 1073741824 = ((B / 1073741824 : Nat) : Int) := by omega
  have la : A / 1073741824 ≤ 4294967296 := by omega
  have lb : B / 1073741824 ≤ 4294967296 := by omega
  generalize A / 1073741824 = A3 at *
  generalize B / 1073741824 = B3 at *
  obtain ⟨D, hD⟩ : ∃ D, B - A = D := ⟨_, rfl⟩
  have hDi : IntKind.u64.wrap ((B : Int) - (A : Int)) = (D : Int) := by rw [IntKind.wrap_u64]; omega
  rw [hD] at n2
  have m1 : (A : Int) ≤ (B : Int) := by omega
  have m2 : (D : Int) < 274877906944 := by omega
  have m4 : (N : Int) ≤ (B3 : Int) + 1 := by omega
  have m5 : (A3 : Int) + 1 ≤ (N : Int) + 256 := by omega
  have u1 : IntKind.u64.wrap ((N : Int) + 256) = (N : Int) + 256 := by rw [IntKind.wrap_u64]; omega
  have u2 : IntKind.u64.wrap ((A3 : Int) + 1) = (A3 : Int) + 1 := by rw [IntKind.wrap_u64]; omega
  have u3 : IntKind.u64.wrap ((B3 : Int) + 1) = (B3 : Int) + 1 := by rw [IntKind.wrap_u64]; omega
  have u4 : IntKind.u64.wrap (A3 : Int) = (A3 : Int) := by rw [IntKind.wrap_u64]; omega
  have u5 : IntKind.u64.wrap (B3 : Int) = (B3 : Int) := by rw [IntKind.wrap_u64]; omega
  clear hD
  go_enter Tryd.func4, Tryd.ntmps4
  go_wp2_with fail
  with_reducible refine (awake5 _ HT.out).mono ?_
  rintro e w1 ⟨rfl, hb1⟩
  have HBW := Lib.hid hb1
  have HT := Lib.hid (HT.out.below hb1)
  clear hb1
  go_wp2_with fail
  with_reducible refine (C1 _).mono ?_
  rintro e w2 ⟨rfl, hb2⟩
  have HBW := Lib.hid (chain HBW.out hb2)
  have HT := Lib.hid (HT.out.below hb2)
  clear hb2
  go_wp2_with fail
  with_reducible refine (C2 _ HT.out).mono ?_
  rintro e w3 ⟨rfl, hb3⟩
  have HBW := Lib.hid (chain HBW.out hb3)
  have HT := Lib.hid (HT.out.below hb3)
  clear hb3
  go_wp2_with fail
  go_ret
  exact ⟨by first | rfl | (simp; done) | (trace_state; simp; omega), HBW.out⟩
end Go.Proofs.Tryd
