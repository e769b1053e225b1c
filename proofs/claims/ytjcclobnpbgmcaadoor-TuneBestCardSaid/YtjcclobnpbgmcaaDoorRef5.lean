/- linhayref05.Of, Ratio. -/
import Derived.Test.YtjcclobnpbgmcaaDoorPower
import Derived.Test.YtjcclobnpbgmcaaDoorRef2d
import Derived.Test.YtjcclobnpbgmcaaDoorRef2e
import Derived.Test.YtjcclobnpbgmcaaDoorRef4b
import Derived.Test.YtjcclobnpbgmcaaDoorExpo3
namespace Go.Proofs.Tryd
open Go.RowKit
set_option linter.unusedVariables false
set_option linter.unusedSimpArgs false
set_option maxRecDepth 100000 in
set_option maxHeartbeats 2000000 in
theorem rexpo_c (x : Nat) (hx : x < 18446744073709551616) (w : World) :
    Calls Tryd.prog 52 #[.int .u64 (x : Int)] w fun r w' => r = .returned (.int .u64 ((ofx x : Nat) : Int)) ∧ Below w.heap.size w w' := by
  by_cases hb : 137438953472 ≤ x
  · have e0 : (137438953472 : Int) ≤ (x : Int) := by omega
    have HO := Lib.hid (ofx_big x hb)
    go_enter Tryd.func52, Tryd.ntmps52
    go_wp2_with fail
    go_ret
    exact ⟨by rw [HO.out]; rfl, Below.refl _ _⟩
  · have e0 : decide ((137438953472 : Int) ≤ (x : Int)) = false := by simp; omega
    have HO := Lib.hid (ofx_in x (by omega))
    go_enter Tryd.func52, Tryd.ntmps52
    go_wp2_with fail
    go_loopw [3, 4] (fun n i wr => ∃ k : Nat, k ≤ 37 ∧ i = .int .i64 (36 - (k : Int)) ∧ n = .int .u64 ((eN x k : Nat) : Int) ∧ Below w.heap.size w wr) (fun _ i _ => (intOf i + 1).toNat)
    case atStart => exact ⟨0, by omega, rfl, rfl, Below.refl _ _⟩
    case round =>
      obtain ⟨k, hk, rfl, rfl, hbw⟩ := hrel
      have HB := Lib.hid hbw
      have hzz := hbw.size
      clear hbw
      have hle := eN_le x k
      by_cases hlt : k < 37
      · have hlt' : (k : Int) < 37 := by omega
        obtain ⟨P, hP⟩ : ∃ P, 36 - k = P := ⟨_, rfl⟩
        have hPi : (36 : Int) - (k : Int) = (P : Int) := by omega
        have hP37 : P < 37 := by omega
        have hP0 : (0 : Int) ≤ (P : Int) := by omega
        have HK := Lib.hid (show (P : Int) - 1 = 36 - ((k + 1 : Nat) : Int) by omega)
        have HBI := bit_c x P hx (by omega)
        by_cases hbit : x.testBit P = true
        · rw [if_pos hbit] at HBI
          have HN := Lib.hid (show eN x (k + 1) = eN x k * pk P / 4611686018427387904 by rw [eN, hP, if_pos hbit])
          have hpl := pk_le P
          obtain ⟨m1, m2, m3, m4⟩ := prod_in (eN x k) (pk P) hle hpl
          have hms := mulshr (eN x k) (pk P) hle hpl
          rw [← HN.out] at hms
          have HPW := power_c P hP37
          have HM := rmul2_c ((eN x k : Nat) : Int) ((pk P : Nat) : Int) (by omega) (by omega) (by omega) (by omega)
          have HS := fun w => rshr2_c _ _ 62 m1 m3 (by omega) m2 m4 (by omega) w
          rw [hms] at HS
          clear hbit hms m1 m2 m3 m4 hP
          generalize ((eN x k : Nat) : Int) * ((pk P : Nat) : Int) / 18446744073709551616 = A1 at *
          generalize ((eN x k : Nat) : Int) * ((pk P : Nat) : Int) % 18446744073709551616 = A2 at *
          generalize eN x k = E0 at *
          generalize pk P = Q at *
          obtain ⟨E1, hE1⟩ : ∃ E1, eN x (k + 1) = E1 := ⟨_, rfl⟩
          rw [hE1] at HS
          have HE1 := Lib.hid hE1
          clear hE1 HN
          have hfd : ∀ (x y : Int) (w : World), (Instr.field 74 (.agg #[.int .u64 x, .int .u64 y]) 1).run Tryd.prog w = .ok (.int .u64 y) w := fun _ _ _ => by kernel_rfl
          simp only [hPi]
          clear hPi
          go_wp2_with fail
          with_reducible refine (HBI _).mono ?_
          rintro e w1 ⟨rfl, rfl⟩
          go_wp2_with fail
          with_reducible refine (HPW _).mono ?_
          rintro e w1 ⟨rfl, hc1⟩
          have hzc := hc1.size
          go_wp2_with fail
          with_reducible refine (HM _).mono ?_
          rintro e w2 ⟨rfl, hc2⟩
          have hzc2 := hc2.size
          go_wp2_with fail
          with_reducible refine (HS _).mono ?_
          rintro e w3 ⟨rfl, hc3⟩
          go_wp2_with fail
          go_roundw
          case rel => exact ⟨k + 1, by omega, by rw [HK.out], by rw [HE1.out], chain (chain (chain HB.out hc1) hc2) hc3⟩
          case measure => first | (simp [intOf]; done) | (simp [intOf]; omega)
        · rw [if_neg hbit] at HBI
          have HN := Lib.hid (show eN x (k + 1) = eN x k by rw [eN, hP, if_neg hbit])
          clear hbit hP
          simp only [hPi]
          clear hPi
          go_wp2_with fail
          with_reducible refine (HBI _).mono ?_
          rintro e w1 ⟨rfl, rfl⟩
          go_wp2_with fail
          go_roundw
          case rel => exact ⟨k + 1, by omega, by rw [HK.out], by rw [HN.out], HB.out⟩
          case measure => first | (simp [intOf]; done) | (simp [intOf]; omega)
      · have hke : k = 37 := by omega
        subst hke
        have e1 : ((eN x 37 : Nat) : Int) / 1073741824 = ((ofx x : Nat) : Int) := by rw [HO.out]; unfold est; omega
        go_wp2_with fail
        go_ret
        exact ⟨rfl, HB.out⟩
set_option maxRecDepth 100000 in
set_option maxHeartbeats 2000000 in
theorem rratio5_c (a b : Nat) (ha : a < 18446744073709551616) (hb : b < 18446744073709551616) (w : World) :
    Calls Tryd.prog 37 #[.int .u64 (a : Int), .int .u64 (b : Int)] w fun r w' => r = .returned (.int .u64 ((ratioN a b : Nat) : Int)) ∧ Below w.heap.size w w' := by
  have HF := rfof_c (a : Int) (b : Int) (by omega) (by omega) (by omega) (by omega)
  rcases fl_cases a b with ⟨f1, f2, f3, f4⟩ | ⟨e, f1, f2, f3, f4⟩
  · rw [f1, f2] at HF
    have HO := rexpo_c (a * 4294967296 / b) f3
    rw [← f4] at HO
    clear f1 f2 f4
    generalize a * 4294967296 / b = X at *
    generalize ratioN a b = R at *
    go_enter Tryd.func37, Tryd.ntmps37
    go_wp2_with fail
    with_reducible refine (HF _).mono ?_
    rintro e w1 ⟨rfl, hb1⟩
    go_wp2_with fail
    with_reducible refine (HO _).mono ?_
    rintro e w2 ⟨rfl, hb2⟩
    go_wp2_with fail
    go_ret
    exact ⟨rfl, chain hb1 hb2⟩
  · rw [f1, f2] at HF
    have e0 : (e != 0) = true := by rw [bne_iff_ne]; exact f3
    rw [f4]
    clear f1 f2 f4 f3
    go_enter Tryd.func37, Tryd.ntmps37
    go_wp2_with fail
    with_reducible refine (HF _).mono ?_
    rintro e w1 ⟨rfl, hb1⟩
    go_wp2_with fail
    go_ret
    exact ⟨rfl, hb1⟩
end Go.Proofs.Tryd
