/- linhayref05.times, Bounds. -/
import Derived.Test.YtighjibggjjieaaDoorNear
import Derived.Test.YtighjibggjjieaaDoorRef5
namespace Go.Proofs.Tryd
open Go.RowKit
open Near
set_option linter.unusedVariables false
set_option linter.unusedSimpArgs false
theorem mul_parts (a b : Nat) (ha : a ≤ 4611686018427387905) (hb : b ≤ 4611686018427387904) : 0 ≤ (a : Int) * (b : Int) / 18446744073709551616 ∧ (a : Int) * (b : Int) / 18446744073709551616 < 18446744073709551616 ∧ 0 ≤ (a : Int) * (b : Int) % 18446744073709551616 ∧ (a : Int) * (b : Int) % 18446744073709551616 < 18446744073709551616 ∧
    dLo ((a : Int) * (b : Int) / 18446744073709551616) ((a : Int) * (b : Int) % 18446744073709551616) 4611686018427387904 = ((tmD a b : Nat) : Int) ∧ dRest ((a : Int) * (b : Int) / 18446744073709551616) ((a : Int) * (b : Int) % 18446744073709551616) 4611686018427387904 = ((a * b % 4611686018427387904 : Nat) : Int) ∧ dE 4611686018427387904 = 0 := by
  have h1 := Nat.mul_le_mul ha hb
  rw [← Int.natCast_mul]
  unfold dLo dRest dE tmD
  generalize a * b = z at *
  rw [if_neg (by omega), if_neg (by omega)]
  refine ⟨by omega, by omega, by omega, by omega, by omega, by omega, rfl⟩
theorem tmD_le (a b : Nat) (ha : a ≤ 4611686018427387905) (hb : b ≤ 4611686018427387904) : tmD a b ≤ 4611686018427387905 := by
  have h1 := Nat.mul_le_mul ha hb
  unfold tmD
  generalize a * b = z at *
  omega
set_option maxRecDepth 100000 in
set_option maxHeartbeats 2000000 in
theorem timesD_c (a b : Nat) (ha : a ≤ 4611686018427387905) (hb : b ≤ 4611686018427387904) (w : World) :
    Calls Tryd.prog 24 #[.int .u64 (a : Int), .int .u64 (b : Int), .bool false] w fun r w' => r = .returned (.int .u64 ((tmD a b : Nat) : Int)) ∧ Below w.heap.size w w' := by
  obtain ⟨m1, m2, m3, m4, m5, m6, m7⟩ := mul_parts a b ha hb
  have HM := rmul2_c (a : Int) (b : Int) (by omega) (by omega) (by omega) (by omega)
  have HD := fun w => rdiv2_c _ _ 4611686018427387904 m1 m3 (by omega) m2 m4 (by omega) w
  rw [m5, m6, m7] at HD
  clear m1 m2 m3 m4 m5 m6 m7
  generalize (a : Int) * (b : Int) / 18446744073709551616 = A1 at *
  generalize (a : Int) * (b : Int) % 18446744073709551616 = A2 at *
  generalize dHi A1 4611686018427387904 = A3 at *
  generalize tmD a b = R at *
  generalize a * b % 4611686018427387904 = Z at *
  have hfd : ∀ (x y : Int) (w : World), (Instr.field 39 (.agg #[.int .u64 x, .int .u64 y]) 1).run Tryd.prog w = .ok (.int .u64 y) w := fun _ _ _ => by kernel_rfl
  go_enter Tryd.func24, Tryd.ntmps24
  go_wp2_with fail
  with_reducible refine (HM _).mono ?_
  rintro e w1 ⟨rfl, hc1⟩
  have hzc := hc1.size
  go_wp2_with fail
  with_reducible refine (HD _).mono ?_
  rintro e w2 ⟨rfl, hc2⟩
  have hzc2 := hc2.size
  go_wp2_with fail
  go_ret
  exact ⟨rfl, chain1 (chain hc1 hc2) _⟩
set_option maxRecDepth 100000 in
set_option maxHeartbeats 2000000 in
theorem timesU_c (a b : Nat) (ha : a ≤ 4611686018427387905) (hb : b ≤ 4611686018427387904) (w : World) :
    Calls Tryd.prog 24 #[.int .u64 (a : Int), .int .u64 (b : Int), .bool true] w fun r w' => r = .returned (.int .u64 ((tmU a b : Nat) : Int)) ∧ Below w.heap.size w w' := by
  obtain ⟨m1, m2, m3, m4, m5, m6, m7⟩ := mul_parts a b ha hb
  have hle := tmD_le a b ha hb
  have hU : tmU a b = tmD a b + (if 0 < a * b % 4611686018427387904 then 1 else 0) := rfl
  have HM := rmul2_c (a : Int) (b : Int) (by omega) (by omega) (by omega) (by omega)
  have HD := fun w => rdiv2_c _ _ 4611686018427387904 m1 m3 (by omega) m2 m4 (by omega) w
  rw [m5, m6, m7] at HD
  clear m1 m2 m3 m4 m5 m6 m7
  generalize (a : Int) * (b : Int) / 18446744073709551616 = A1 at *
  generalize (a : Int) * (b : Int) % 18446744073709551616 = A2 at *
  generalize dHi A1 4611686018427387904 = A3 at *
  generalize tmU a b = U at *
  generalize tmD a b = R at *
  generalize a * b % 4611686018427387904 = Z at *
  have hfd : ∀ (x y : Int) (w : World), (Instr.field 39 (.agg #[.int .u64 x, .int .u64 y]) 1).run Tryd.prog w = .ok (.int .u64 y) w := fun _ _ _ => by kernel_rfl
  have h64 : IntKind.u64.wrap ((R : Int) + 1) = (R : Int) + 1 := by rw [IntKind.wrap_u64]; omega
  by_cases hz : 0 < Z
  · rw [if_pos hz] at hU
    have hU := Lib.hid (show (R : Int) + 1 = (U : Int) by omega)
    have hzi : (0 : Int) < (Z : Int) := by omega
    go_enter Tryd.func24, Tryd.ntmps24
    go_wp2_with fail
    with_reducible refine (HM _).mono ?_
    rintro e w1 ⟨rfl, hc1⟩
    have hzc := hc1.size
    go_wp2_with fail
    with_reducible refine (HD _).mono ?_
    rintro e w2 ⟨rfl, hc2⟩
    have hzc2 := hc2.size
    go_wp2_with fail
    go_ret
    exact ⟨by first | rfl | (rw [hU.out]; rfl), chain1 (chain hc1 hc2) _⟩
  · rw [if_neg hz] at hU
    have hU := Lib.hid (show (R : Int) = (U : Int) by omega)
    have hzi : decide ((0 : Int) < (Z : Int)) = false := by simp; omega
    have hzn : decide (0 < Z) = false := by simp; omega
    go_enter Tryd.func24, Tryd.ntmps24
    go_wp2_with fail
    with_reducible refine (HM _).mono ?_
    rintro e w1 ⟨rfl, hc1⟩
    have hzc := hc1.size
    go_wp2_with fail
    with_reducible refine (HD _).mono ?_
    rintro e w2 ⟨rfl, hc2⟩
    have hzc2 := hc2.size
    go_wp2_with fail
    go_ret
    exact ⟨by first | rfl | (rw [hU.out]; rfl), chain1 (chain hc1 hc2) _⟩
end Go.Proofs.Tryd
