/- The laws of layer 4: awake. -/
import Derived.Test.YtbiifigiobnkpaaFix2
import Derived.Test.YtbiifigiobnkpaaFix3
namespace Go.Proofs.Try
open Go.RowKit
set_option linter.unusedVariables false

theorem fsum3_c (b cap : Nat) (x y z : Int) (w : World) (c0 : w.cell? ⟨b, 0, none⟩ = some (.int .u64 x)) (c1 : w.cell? ⟨b, 1, none⟩ = some (.int .u64 y)) (c2 : w.cell? ⟨b, 2, none⟩ = some (.int .u64 z))
    (hx : 0 ≤ x) (hy : 0 ≤ y) (hz : 0 ≤ z) (hx' : x < 18446744073709551616) (hy' : y < 18446744073709551616) (hz' : z < 18446744073709551616) :
    Calls Try.prog 39 #[.slice (some ⟨b, 0, none⟩) 3 cap] w fun r w' => r = .returned (.int .u64 (wAdd (wAdd (wAdd 0 x) y) z)) ∧ w = w' :=
  fsum_c b 0 3 cap [x, y, z] (by simp) (by omega)
    (fun k => match k with | 0 => hx | 1 => hy | 2 => hz | k + 3 => by simp)
    (fun k => match k with | 0 => hx' | 1 => hy' | 2 => hz' | k + 3 => by simp) w
    (fun j hj => match j, hj with | 0, _ => c0 | 1, _ => c1 | 2, _ => c2 | j + 3, hj => by simp at hj; omega)
theorem fsum2_c (b cap : Nat) (x y : Int) (w : World) (c0 : w.cell? ⟨b, 0, none⟩ = some (.int .u64 x)) (c1 : w.cell? ⟨b, 1, none⟩ = some (.int .u64 y))
    (hx : 0 ≤ x) (hy : 0 ≤ y) (hx' : x < 18446744073709551616) (hy' : y < 18446744073709551616) :
    Calls Try.prog 39 #[.slice (some ⟨b, 0, none⟩) 2 cap] w fun r w' => r = .returned (.int .u64 (wAdd (wAdd 0 x) y)) ∧ w = w' :=
  fsum_c b 0 2 cap [x, y] (by simp) (by omega)
    (fun k => match k with | 0 => hx | 1 => hy | k + 2 => by simp)
    (fun k => match k with | 0 => hx' | 1 => hy' | k + 2 => by simp) w
    (fun j hj => match j, hj with | 0, _ => c0 | 1, _ => c1 | j + 2, hj => by simp at hj; omega)

set_option maxRecDepth 100000 in
set_option maxHeartbeats 2000000 in
theorem awake4 (w : World) :
    Calls Try.prog 26 #[] w fun r w' => r = .returned (.bool true) ∧ Below w.heap.size w w' := by
  have k1 : fl 3 4294967296 2 = 6442450944 := by decide +kernel
  have k2 : flE 3 4294967296 2 = 0 := by decide +kernel
  have k3 : flE 4294967296 4294967296 1 = 10 := by decide +kernel
  have k4 : flE 5 4294967296 0 = 20 := by decide +kernel
  have k5 : fMul 6442450944 6442450944 = 9663676416 := by decide +kernel
  have k6 : fl 9663676416 4294967296 6442450944 = 6442450944 := by decide +kernel
  have k7 : flE 9663676416 4294967296 6442450944 = 0 := by decide +kernel
  have k8 : fMul 9223372036854775808 9223372036854775808 = 18446744073709551615 := by decide +kernel
  have k9 : mixN 0 4294967296 1073741824 = 1073741824 := by decide +kernel
  have k10 : mixN 7 9 1099511627776 = 9 := by decide +kernel
  have k11 : wAdd (wAdd (wAdd 0 9223372036854775808) 9223372036854775808) 1 = 18446744073709551615 := by decide +kernel
  go_enter Try.func26, Try.ntmps26
  go_wp2_with (first
    | (go_at_call 27; refine (fof_c _ _ (by omega) (by omega) (by omega) (by omega) _).mono ?_; rintro e w1 ⟨rfl, hb1⟩; have hz1 := hb1.size)
    | (go_at_call 29; refine (fdiv_c _ _ (by omega) (by omega) (by omega) (by omega) _).mono ?_; rintro e w1 ⟨rfl, hb1⟩; have hz1 := hb1.size)
    | (go_at_call 31; refine (fmul_c _ _ (by omega) (by omega) (by omega) (by omega) _).mono ?_; rintro e w1 ⟨rfl, hb1⟩; have hz1 := hb1.size)
    | (go_at_call 33; refine (fwhole_c _ (by omega) (by omega) _).mono ?_; rintro e w1 ⟨rfl, rfl⟩)
    | (go_at_call 35; refine (fpart_c _ (by omega) (by omega) _).mono ?_; rintro e w1 ⟨rfl, rfl⟩)
    | (go_at_call 37; refine (fmix_c _ _ _ (by omega) (by omega) (by omega) (by omega) (by omega) (by omega) _).mono ?_; rintro e w1 ⟨rfl, hb1⟩; have hz1 := hb1.size))
  refine (fsum3_c _ _ 9223372036854775808 9223372036854775808 1 _ (by go_simp) (by go_simp) (by go_simp) (by omega) (by omega) (by omega) (by omega) (by omega) (by omega)).mono ?_
  rintro e w3 ⟨rfl, rfl⟩
  go_wp2_with fail
  refine (fsum_nil _).mono ?_
  rintro e w4 ⟨rfl, rfl⟩
  go_wp2_with fail
  go_ret
  exact ⟨by first | rfl | (simp [k11]; done), by (repeat' (first | (with_reducible exact Below.refl _ _) | (with_reducible assumption) | (with_reducible refine Below.alloc ?_ ?_ _) | (with_reducible refine Below.drew ?_) | (with_reducible refine Below_drewN ?_ _) | (with_reducible refine Below.setCell ?_ ?_ _) | (refine Below.step (B' := ?_) (b := ?_) ?_ ?_ ?_; rotate_left 2; (with_reducible assumption)) | go_size))⟩
end Go.Proofs.Try
