/- The laws of layer 1: awake. -/
import Derived.Test.YthjjogmcpkpekaaWord
namespace Go.Proofs.Try
open Go.RowKit
set_option linter.unusedVariables false

theorem awake1 (w : World) :
    Calls Try.prog 14 #[] w fun r w' => r = .returned (.bool true) ∧ w = w' := by
  have k1 : wAdd 18446744073709551615 5 = 18446744073709551615 := by decide +kernel
  have k2 : wAdd 2 3 = 5 := by decide +kernel
  have k3 : wSub 2 3 = 0 := by decide +kernel
  have k4 : wMul 9223372036854775808 2 = 18446744073709551615 := by decide +kernel
  have k5 : wPlusE 18446744073709551615 1 = 10 := by decide +kernel
  have k6 : wTimes 4294967296 2147483648 = 9223372036854775808 := by decide +kernel
  have k7 : wTimesE 4294967296 2147483648 = 0 := by decide +kernel
  have k8 : wTimesE 4294967296 4294967296 = 10 := by decide +kernel
  have k9 : wShl 3 63 = 18446744073709551615 := by decide +kernel
  have k10 : wShl 0 99 = 0 := by decide +kernel
  have k11 : wShl 3 2 = 12 := by decide +kernel
  have k12 : wShr 13 2 = 3 := by decide +kernel
  have k13 : wShr 5 64 = 0 := by decide +kernel
  have k14 : wOf (-1) = 0 := by decide +kernel
  have k15 : wOf 7 = 7 := by decide +kernel
  have k16 : wInt 9223372036854775808 = 9223372036854775807 := by decide +kernel
  have k17 : wInt 7 = 7 := by decide +kernel
  go_enter Try.func14, Try.ntmps14
  go_wp2_with (first
    | (go_at_call 15; refine (plus_c _ _ (by omega) (by omega) (by omega) (by omega) _).mono ?_; rintro e w' ⟨rfl, rfl⟩)
    | (go_at_call 17; refine (times_c _ _ (by omega) (by omega) (by omega) (by omega) _).mono ?_; rintro e w' ⟨rfl, rfl⟩)
    | (go_at_call 19; refine (add_c _ _ (by omega) (by omega) (by omega) (by omega) _).mono ?_; rintro e w' ⟨rfl, rfl⟩)
    | (go_at_call 21; refine (sub_c _ _ (by omega) (by omega) (by omega) (by omega) _).mono ?_; rintro e w' ⟨rfl, rfl⟩)
    | (go_at_call 23; refine (mul_c _ _ (by omega) (by omega) (by omega) (by omega) _).mono ?_; rintro e w' ⟨rfl, rfl⟩)
    | (go_at_call 25; refine (shl_c _ _ (by omega) (by omega) (by omega) (by omega) _).mono ?_; rintro e w' ⟨rfl, rfl⟩)
    | (go_at_call 27; refine (shr_c _ _ (by omega) (by omega) (by omega) (by omega) _).mono ?_; rintro e w' ⟨rfl, rfl⟩)
    | (go_at_call 29; refine (of_c _ (by omega) (by omega) _).mono ?_; rintro e w' ⟨rfl, rfl⟩)
    | (go_at_call 31; refine (int_c _ (by omega) (by omega) _).mono ?_; rintro e w' ⟨rfl, rfl⟩))
  go_ret
  exact ⟨rfl, rfl⟩
end Go.Proofs.Try
