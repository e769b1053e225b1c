/- The contract of math/bits.Div64. -/
import Derived.Test.YtjcclobnpbgmcaaDoorWord
import Derived.Test.YtjcclobnpbgmcaaDoorDivM
namespace Go.Proofs.Tryd
open Go.RowKit
set_option linter.unusedVariables false

theorem lz64_c (x : Int) (h0 : 0 ≤ x) (h1 : x < 18446744073709551616) (w : World) :
    Calls Tryd.prog 84 #[.int .u64 x] w fun e w' => e = .returned (.int .i64 (lzN x : Nat)) ∧ w = w' := by
  refine (Tryd.bits_LeadingZeros64 x w h0 (by omega)).mono ?_
  rintro e w' ⟨rfl, rfl⟩
  have b1 : Lib.bitLen x.toNat ≤ 64 := Lib.bitLen_le x.toNat 64 (by omega) (by omega)
  exact ⟨by unfold lzN; rw [Int.natCast_sub b1]; rfl, rfl⟩

set_option maxRecDepth 100000 in
set_option maxHeartbeats 1000000 in
theorem div64_c (hi lo y : Int) (h1 : 0 < hi) (h2 : 0 ≤ lo) (h3 : hi < y) (g2 : lo < 18446744073709551616) (g3 : y < 18446744073709551616) (w : World) :
    Calls Tryd.prog 83 #[.int .u64 hi, .int .u64 lo, .int .u64 y] w fun r w' => r = .returned (.tuple #[.int .u64 ((hi * 18446744073709551616 + lo) / y), .int .u64 ((hi * 18446744073709551616 + lo) % y)]) ∧ w = w' := by
  have e1 : (y == 0) = false := by simp; omega
  have e2 : (hi == 0) = false := by simp; omega
  have HL := Lib.hid (lz64_c y (by omega) g3)
  obtain ⟨hs, hY1, hY2⟩ := lzN_in y (by omega) g3
  have HB := Lib.hid (dv_back (hi * 18446744073709551616 + lo) y (lzN y) (by omega))
  generalize lzN y = s at *
  obtain ⟨U, HU, hU0, hU1, hN⟩ := dv_shift hi lo y s hs (by omega) h3 h2 g2 hY2
  have HY : IntKind.u64.wrap (y * 2 ^ s) = y * 2 ^ s := by rw [IntKind.wrap_u64]; omega
  obtain ⟨Y, hYe⟩ : ∃ Y, Y = y * 2 ^ s := ⟨_, rfl⟩
  rw [← hYe] at hU1 hY1 hY2 HB
  have EY : IntKind.u64.wrap (y * 2 ^ s) = Y := by rw [HY, hYe]
  clear HY hYe
  have hL : 0 ≤ IntKind.u64.wrap (lo * 2 ^ s) ∧ IntKind.u64.wrap (lo * 2 ^ s) < 18446744073709551616 := by rw [IntKind.wrap_u64]; omega
  obtain ⟨L, EL⟩ : ∃ L, IntKind.u64.wrap (lo * 2 ^ s) = L := ⟨_, rfl⟩
  rw [EL] at hL hN
  obtain ⟨hL0, hL1⟩ := hL
  have HN := Lib.hid hN
  clear hN
  have m1 := bits_mask Y (by omega) hY2
  have m2 := bits_mask L hL0 hL1
  obtain ⟨Y1, E1⟩ : ∃ Y1, Y / 4294967296 = Y1 := ⟨_, rfl⟩
  obtain ⟨Y0, E0⟩ : ∃ Y0, Y % 4294967296 = Y0 := ⟨_, rfl⟩
  obtain ⟨D1, F1⟩ : ∃ D1, L / 4294967296 = D1 := ⟨_, rfl⟩
  obtain ⟨D0, F0⟩ : ∃ D0, L % 4294967296 = D0 := ⟨_, rfl⟩
  have y1a : 2147483648 ≤ Y1 := by omega
  have y1b : Y1 < 4294967296 := by omega
  have y0a : 0 ≤ Y0 := by omega
  have y0b : Y0 < 4294967296 := by omega
  have d1a : 0 ≤ D1 := by omega
  have d1b : D1 < 4294967296 := by omega
  have d0a : 0 ≤ D0 := by omega
  have d0b : D0 < 4294967296 := by omega
  have hYY : Y = Y1 * 4294967296 + Y0 := by omega
  have HYY := Lib.hid hYY
  rw [E0] at m1
  rw [F0] at m2
  obtain ⟨Q1, hQ1⟩ : ∃ Q1, Q1 = (U * 4294967296 + D1) / Y := ⟨_, rfl⟩
  obtain ⟨R1, hR1⟩ : ∃ R1, R1 = (U * 4294967296 + D1) % Y := ⟨_, rfl⟩
  obtain ⟨Q0, hQ0⟩ : ∃ Q0, Q0 = (R1 * 4294967296 + D0) / Y := ⟨_, rfl⟩
  obtain ⟨R0, hR0⟩ : ∃ R0, R0 = (R1 * 4294967296 + D0) % Y := ⟨_, rfl⟩
  have q1a : 0 ≤ Q1 := by rw [hQ1]; exact Int.ediv_nonneg (by omega) (by omega)
  have q1b : Q1 < 4294967296 := by rw [hQ1]; exact dv_lt U D1 Y 4294967296 (by omega) d1b hU1 (by omega)
  have r1a : 0 ≤ R1 := by rw [hR1]; exact Int.emod_nonneg _ (by omega)
  have r1b : R1 < Y := by rw [hR1]; exact Int.emod_lt_of_pos _ (by omega)
  have q0a : 0 ≤ Q0 := by rw [hQ0]; exact Int.ediv_nonneg (by omega) (by omega)
  have q0b : Q0 < 4294967296 := by rw [hQ0]; exact dv_lt R1 D0 Y 4294967296 (by omega) d0b r1b (by omega)
  have r0a : 0 ≤ R0 := by rw [hR0]; exact Int.emod_nonneg _ (by omega)
  have r0b : R0 < Y := by rw [hR0]; exact Int.emod_lt_of_pos _ (by omega)
  have X1 : IntKind.u64.wrap (IntKind.u64.wrap (IntKind.u64.wrap (U * 4294967296) + D1) - IntKind.u64.wrap (Q1 * Y)) = R1 := by rw [hR1]; exact dv_rest U D1 Y Q1 (by omega) hY2 hQ1
  have X0 : IntKind.u64.wrap (IntKind.u64.wrap (IntKind.u64.wrap (R1 * 4294967296) + D0) - IntKind.u64.wrap (Q0 * Y)) = R0 := by rw [hR0]; exact dv_rest R1 D0 Y Q0 (by omega) hY2 hQ0
  obtain ⟨V1, V0⟩ := dv_both _ Y U L Q1 R1 Q0 R0 (by omega) HN.out (by rw [F1]; exact hQ1) (by rw [F1]; exact hR1) (by rw [F0]; exact hQ0) (by rw [F0]; exact hR0)
  rw [HB.out.1] at V1
  have W0 : R0 / 2 ^ s = (hi * 18446744073709551616 + lo) % y := by rw [V0]; exact HB.out.2
  have HV1 := Lib.hid V1
  have HW0 := Lib.hid W0
  have S1 : DvInv U Q1 Y1 (U / Y1) (U % Y1) := by rw [hQ1, hYY]; exact DvInv.start y1a y1b y0a y0b hU0 (by omega) d1a d1b
  have S0 : DvInv R1 Q0 Y1 (R1 / Y1) (R1 % Y1) := by rw [hQ0, hYY]; exact DvInv.start y1a y1b y0a y0b r1a (by omega) d0a d0b
  have P1 := dv_first U Y1 y1a y1b hU0 (by omega)
  have P0 := dv_first R1 Y1 y1a y1b r1a (by omega)
  rw [hYY] at hQ1 hQ0
  have HQ1 := Lib.hid hQ1
  have HQ0 := Lib.hid hQ0
  have hpos : 0 < Y1 * 4294967296 + Y0 := by omega
  have HS1 := Lib.hid S1
  have HS0 := Lib.hid S0
  clear hYY hQ1 hR1 hQ0 hR0 V1 V0 W0 HN HB S1 S0
  go_enter Tryd.func83, Tryd.ntmps83
  go_wp2_with fail
  refine (HL.out _).mono ?_
  rintro e w' ⟨rfl, rfl⟩
  go_wp2_with fail
  go_loop [15, 16] (fun v x => ∃ q r : Int, DvInv U Q1 Y1 q r ∧ v = .int .u64 q ∧ x = .int .u64 r) (fun v _ => (intOf v).toNat)
  case atStart => exact ⟨_, _, HS1.out, rfl, by first | rfl | (rw [P1])⟩
  case round =>
    obtain ⟨q, r, hI, rfl, rfl⟩ := hrel
    obtain ⟨k1, k2⟩ := hI.prod y0a y0b
    have k3 := hI.2.1
    have k4 := hI.2.2.1
    have k5 := hI.2.2.2.2.1
    have k6 := hI.2.2.2.2.2
    by_cases c : 4294967296 ≤ q ∨ 4294967296 * r + D1 < q * Y0
    · have hl := hI.less hpos HQ1.out q1b q1a c
      by_cases c3 : r + Y1 < 4294967296
      · have hn := hI.next hl q1a (by omega) c3
        by_cases c1 : 4294967296 ≤ q
        all_goals
          go_wp2_with fail
          go_round
          case rel => exact ⟨q - 1, r + Y1, hn, rfl, rfl⟩
          case measure => simp [intOf]; omega
      · have he := hI.last hl hpos HQ1.out y0a y0b d1a (by omega)
        by_cases c1 : 4294967296 ≤ q
        all_goals
          go_wp2_with fail
          go_loop [18, 16] (fun v x => ∃ q r : Int, DvInv R1 Q0 Y1 q r ∧ v = .int .u64 q ∧ x = .int .u64 r) (fun v _ => (intOf v).toNat)
          case atStart => exact ⟨_, _, HS0.out, rfl, by first | rfl | (rw [P0])⟩
          case round =>
            clear hI k1 k2 k3 k4 k5 k6 c
            obtain ⟨g, t, hJ, rfl, rfl⟩ := hrel
            obtain ⟨k1, k2⟩ := hJ.prod y0a y0b
            have k3 := hJ.2.1
            have k4 := hJ.2.2.1
            have k5 := hJ.2.2.2.2.1
            have k6 := hJ.2.2.2.2.2
            by_cases c : 4294967296 ≤ g ∨ 4294967296 * t + D0 < g * Y0
            · have hl := hJ.less hpos HQ0.out q0b q0a c
              by_cases c3 : t + Y1 < 4294967296
              · have hn := hJ.next hl q0a (by omega) c3
                by_cases c1 : 4294967296 ≤ g
                all_goals
                  go_wp2_with fail
                  go_round
                  case rel => exact ⟨g - 1, t + Y1, hn, rfl, rfl⟩
                  case measure => simp [intOf]; omega
              · have he := hJ.last hl hpos HQ0.out y0a y0b d0a (by omega)
                by_cases c1 : 4294967296 ≤ g
                all_goals
                  go_wp2_with fail
                  go_ret2
                  exact ⟨ret_ii HV1.out HW0.out, rfl⟩
            · obtain rfl := hJ.stop hpos HQ0.out (by omega)
              go_wp2_with fail
              go_ret2
              exact ⟨ret_ii HV1.out HW0.out, rfl⟩
    · obtain rfl := hI.stop hpos HQ1.out (by omega)
      go_wp2_with fail
      go_loop [18, 16] (fun v x => ∃ q r : Int, DvInv R1 Q0 Y1 q r ∧ v = .int .u64 q ∧ x = .int .u64 r) (fun v _ => (intOf v).toNat)
      case atStart => exact ⟨_, _, HS0.out, rfl, by first | rfl | (rw [P0])⟩
      case round =>
        clear hI k1 k2 k3 k4 k5 k6 c
        obtain ⟨g, t, hJ, rfl, rfl⟩ := hrel
        obtain ⟨k1, k2⟩ := hJ.prod y0a y0b
        have k3 := hJ.2.1
        have k4 := hJ.2.2.1
        have k5 := hJ.2.2.2.2.1
        have k6 := hJ.2.2.2.2.2
        by_cases c : 4294967296 ≤ g ∨ 4294967296 * t + D0 < g * Y0
        · have hl := hJ.less hpos HQ0.out q0b q0a c
          by_cases c3 : t + Y1 < 4294967296
          · have hn := hJ.next hl q0a (by omega) c3
            by_cases c1 : 4294967296 ≤ g
            all_goals
              go_wp2_with fail
              go_round
              case rel => exact ⟨g - 1, t + Y1, hn, rfl, rfl⟩
              case measure => simp [intOf]; omega
          · have he := hJ.last hl hpos HQ0.out y0a y0b d0a (by omega)
            by_cases c1 : 4294967296 ≤ g
            all_goals
              go_wp2_with fail
              go_ret2
              exact ⟨ret_ii HV1.out HW0.out, rfl⟩
        · obtain rfl := hJ.stop hpos HQ0.out (by omega)
          go_wp2_with fail
          go_ret2
          exact ⟨ret_ii HV1.out HW0.out, rfl⟩
end Go.Proofs.Tryd
