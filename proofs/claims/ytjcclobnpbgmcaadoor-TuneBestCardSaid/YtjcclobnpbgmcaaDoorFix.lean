/- Contracts of ratio.Floor and of the package fixed. -/
import Derived.Test.YtjcclobnpbgmcaaDoorWide2
import Derived.Test.YtjcclobnpbgmcaaDoorBel
namespace Go.Proofs.Tryd
open Go.RowKit
set_option linter.unusedVariables false

def fl (a b c : Int) : Int := if c = 0 then 0 else if a * b / c < 18446744073709551616 then a * b / c else 0
def flE (a b c : Int) : Int := if c = 0 then 20 else if a * b / c < 18446744073709551616 then 0 else 10

theorem part_math (P c : Int) (hP : 0 ≤ P) (hc : 0 < c) :
    dHi (P / 18446744073709551616) c = P / c / 18446744073709551616 ∧ dLo (P / 18446744073709551616) (P % 18446744073709551616) c = P / c % 18446744073709551616 ∧ dRest (P / 18446744073709551616) (P % 18446744073709551616) c = P % c ∧ dE c = 0 ∧ 0 ≤ P / c := by
  unfold dHi dLo dRest dE
  have hl := Int.emod_nonneg P (show (18446744073709551616 : Int) ≠ 0 by omega)
  have hl' := Int.emod_lt_of_pos P (show (0 : Int) < 18446744073709551616 by omega)
  have hh : 0 ≤ P / 18446744073709551616 := by omega
  have hPe : P / 18446744073709551616 * 18446744073709551616 + P % 18446744073709551616 = P := by omega
  generalize P / 18446744073709551616 = h at *
  generalize P % 18446744073709551616 = l at *
  have q := Int.mul_ediv_add_emod h c
  have r := Int.emod_nonneg h (show c ≠ 0 by omega)
  have r' := Int.emod_lt_of_pos h hc
  have s : 0 ≤ h / c := Int.ediv_nonneg hh (by omega)
  generalize h % c = m at *
  generalize h / c = k at *
  have e : P = (m * 18446744073709551616 + l) + c * (k * 18446744073709551616) := by
    rw [← hPe, ← q, Int.add_mul, Int.mul_assoc]; omega
  have lt : (m * 18446744073709551616 + l) / c < 18446744073709551616 := Int.ediv_lt_of_lt_mul hc (by omega)
  have nn : 0 ≤ (m * 18446744073709551616 + l) / c := Int.ediv_nonneg (by omega) (by omega)
  have f : P / c = (m * 18446744073709551616 + l) / c + k * 18446744073709551616 := by rw [e, Int.add_mul_ediv_left _ _ (by omega)]
  have g : P % c = (m * 18446744073709551616 + l) % c := by rw [e, Int.add_mul_emod_self_left]
  rw [f, g, if_neg (by omega), if_neg (by omega)]
  refine ⟨by omega, by omega, rfl, rfl, by omega⟩

theorem up0_c (a : Int) (w : World) :
    Calls Tryd.prog 73 #[.int .u64 a] w fun r w' => r = .returned (.bool false) ∧ w = w' := by
  go_enter Tryd.func73, Tryd.ntmps73
  go_wp2_with fail
  go_ret
  exact ⟨rfl, rfl⟩

theorem partF_c (a b c : Int) (ha : 0 ≤ a) (hb : 0 ≤ b) (hc : 0 ≤ c) (ha' : a < 18446744073709551616) (hb' : b < 18446744073709551616) (hc' : c < 18446744073709551616) (w : World) :
    Calls Tryd.prog 72 #[.int .u64 a, .int .u64 b, .int .u64 c, .func (.func 73) #[] #[]] w fun r w' => r = .returned (.tuple #[.int .u64 (fl a b c), .int .i64 (flE a b c)]) ∧ Below w.heap.size w w' := by
  have hp := Int.mul_nonneg ha hb
  have hp' : a * b ≤ 18446744073709551615 * 18446744073709551615 := Int.mul_le_mul (by omega) (by omega) hb (by omega)
  by_cases h0 : c = 0
  · subst h0
    have k1 : dE 0 = 20 := by decide +kernel
    have q1 : fl a b 0 = 0 := by rw [fl, if_pos rfl]
    have q2 : flE a b 0 = 20 := by rw [flE, if_pos rfl]
    go_enter Tryd.func72, Tryd.ntmps72
    go_wp2_with fail
    refine (wmul_c _ _ (by omega) (by omega) (by omega) (by omega) _).mono ?_
    rintro e w2 ⟨rfl, hb2⟩
    obtain ⟨hc_w2, hf_w2, hz_w2⟩ := kept hb2
    go_wp2_with fail
    refine (wdiv_c _ _ _ (by omega) (by omega) (by omega) (by omega) (by omega) (by omega) _).mono ?_
    rintro e w3 ⟨rfl, hb3⟩
    obtain ⟨hc_w3, hf_w3, hz_w3⟩ := kept hb3
    go_wp2_with fail
    go_ret2
    exact ⟨by rw [q1, q2]; try rfl, by (repeat' (first | (with_reducible exact Below.refl _ _) | (with_reducible assumption) | (with_reducible refine Below.alloc ?_ ?_ _) | (with_reducible refine Below.drew ?_) | (with_reducible refine Below_drewN ?_ _) | (with_reducible refine Below.setCell ?_ ?_ _) | (refine Below.step (B' := ?_) (b := ?_) ?_ ?_ ?_; rotate_left 2; (with_reducible assumption)) | go_size))⟩
  · obtain ⟨m1, m2, m3, m4, m5⟩ := part_math (a * b) c hp (by omega)
    by_cases h1 : a * b / c < 18446744073709551616
    · have q1 : fl a b c = a * b / c := by rw [fl, if_neg h0, if_pos h1]
      have q2 : flE a b c = 0 := by rw [flE, if_neg h0, if_pos h1]
      have e1 : a * b / c / 18446744073709551616 = 0 := by omega
      have e2 : a * b / c % 18446744073709551616 = a * b / c := by omega
      rw [e1] at m1
      rw [e2] at m2
      go_enter Tryd.func72, Tryd.ntmps72
      go_wp2_with fail
      refine (wmul_c _ _ (by omega) (by omega) (by omega) (by omega) _).mono ?_
      rintro e w2 ⟨rfl, hb2⟩
      obtain ⟨hc_w2, hf_w2, hz_w2⟩ := kept hb2
      go_wp2_with fail
      refine (wdiv_c _ _ _ (by omega) (by omega) (by omega) (by omega) (by omega) (by omega) _).mono ?_
      rintro e w3 ⟨rfl, hb3⟩
      obtain ⟨hc_w3, hf_w3, hz_w3⟩ := kept hb3
      go_wp2_with fail
      refine (up0_c _ _).mono ?_
      rintro e w4 ⟨rfl, rfl⟩
      go_wp2_with fail
      go_ret2
      exact ⟨by rw [q1, q2]; try rfl, by (repeat' (first | (with_reducible exact Below.refl _ _) | (with_reducible assumption) | (with_reducible refine Below.alloc ?_ ?_ _) | (with_reducible refine Below.drew ?_) | (with_reducible refine Below_drewN ?_ _) | (with_reducible refine Below.setCell ?_ ?_ _) | (refine Below.step (B' := ?_) (b := ?_) ?_ ?_ ?_; rotate_left 2; (with_reducible assumption)) | go_size))⟩
    · have q1 : fl a b c = 0 := by rw [fl, if_neg h0, if_neg h1]
      have q2 : flE a b c = 10 := by rw [flE, if_neg h0, if_neg h1]
      have e1 : (a * b / c / 18446744073709551616 == 0) = false := by simp; omega
      have e2 : (a * b / c / 18446744073709551616 != 0) = true := by simp; omega
      go_enter Tryd.func72, Tryd.ntmps72
      go_wp2_with fail
      refine (wmul_c _ _ (by omega) (by omega) (by omega) (by omega) _).mono ?_
      rintro e w2 ⟨rfl, hb2⟩
      obtain ⟨hc_w2, hf_w2, hz_w2⟩ := kept hb2
      go_wp2_with fail
      refine (wdiv_c _ _ _ (by omega) (by omega) (by omega) (by omega) (by omega) (by omega) _).mono ?_
      rintro e w3 ⟨rfl, hb3⟩
      obtain ⟨hc_w3, hf_w3, hz_w3⟩ := kept hb3
      go_wp2_with fail
      refine (up0_c _ _).mono ?_
      rintro e w4 ⟨rfl, rfl⟩
      go_wp2_with fail
      go_ret2
      exact ⟨by rw [q1, q2]; try rfl, by (repeat' (first | (with_reducible exact Below.refl _ _) | (with_reducible assumption) | (with_reducible refine Below.alloc ?_ ?_ _) | (with_reducible refine Below.drew ?_) | (with_reducible refine Below_drewN ?_ _) | (with_reducible refine Below.setCell ?_ ?_ _) | (refine Below.step (B' := ?_) (b := ?_) ?_ ?_ ?_; rotate_left 2; (with_reducible assumption)) | go_size))⟩

theorem floor_c (a b c : Int) (ha : 0 ≤ a) (hb : 0 ≤ b) (hc : 0 ≤ c) (ha' : a < 18446744073709551616) (hb' : b < 18446744073709551616) (hc' : c < 18446744073709551616) (w : World) :
    Calls Tryd.prog 63 #[.int .u64 a, .int .u64 b, .int .u64 c] w fun r w' => r = .returned (.tuple #[.int .u64 (fl a b c), .int .i64 (flE a b c)]) ∧ Below w.heap.size w w' := by
  have hmf : ∀ (fn : Fn) (first cap : Array Value) (w : World), (Instr.makeFunc fn first cap).run Tryd.prog w = .ok (.func fn first cap) w := fun _ _ _ _ => rfl
  go_enter Tryd.func63, Tryd.ntmps63
  go_wp2_with fail
  refine (partF_c _ _ _ ha hb hc ha' hb' hc' _).mono ?_
  rintro e w2 ⟨rfl, hb2⟩
  go_wp2_with fail
  go_ret2
  exact ⟨rfl, hb2⟩

def fMul (a b : Int) : Int := if a * b / 4294967296 < 18446744073709551616 then a * b / 4294967296 else 18446744073709551615

theorem fof_c (a b : Int) (ha : 0 ≤ a) (hb : 0 ≤ b) (ha' : a < 18446744073709551616) (hb' : b < 18446744073709551616) (w : World) :
    Calls Tryd.prog 49 #[.int .u64 a, .int .u64 b] w fun r w' => r = .returned (.tuple #[.int .u64 (fl a 4294967296 b), .int .i64 (flE a 4294967296 b)]) ∧ Below w.heap.size w w' := by
  go_enter Tryd.func49, Tryd.ntmps49
  go_wp2_with fail
  refine (floor_c _ _ _ (by omega) (by omega) (by omega) (by omega) (by omega) (by omega) _).mono ?_
  rintro e w2 ⟨rfl, hb2⟩
  go_wp2_with fail
  go_ret2
  exact ⟨rfl, hb2⟩

end Go.Proofs.Tryd
