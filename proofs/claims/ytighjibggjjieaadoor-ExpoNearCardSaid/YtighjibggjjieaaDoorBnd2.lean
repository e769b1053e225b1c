/- linhayref05.Bounds. -/
import Derived.Test.YtighjibggjjieaaDoorBnd
namespace Go.Proofs.Tryd
open Go.RowKit
open Near
set_option linter.unusedVariables false
set_option linter.unusedSimpArgs false
theorem fi_le (t : Nat) (ht : t ≤ 4611686018427387904) : ∀ n, fiN t n ≤ 4611686018427387904
  | 0 => Nat.le_refl _
  | n + 1 => Nat.le_trans (Nat.div_le_self _ _) (Nat.le_trans (tmD_leU _ _) (Nat.le_trans (tmU_small _ _ ht) (fi_le t ht n)))
theorem rounds (Y : Nat) (hY : Y < 137438953472) (k : Nat) (hk : k < 24) :
    laN (Y * 33554432) k ≤ 4611686018427387905 ∧ laN (Y * 33554432) (k + 1) ≤ 4611686018427387905 ∧ fiN (Y * 33554432) k ≤ 4611686018427387904 ∧ fiN (Y * 33554432) (k + 1) ≤ 4611686018427387904 ∧ lowN (Y * 33554432) k ≤ 4611686018427387904 ∧ higN (Y * 33554432) k ≤ 4611686018427388024 ∧
    (((k + 1) % 2 = 1 ∧ lowN (Y * 33554432) (k + 1) = lowN (Y * 33554432) k - laN (Y * 33554432) (k + 1) ∧ higN (Y * 33554432) (k + 1) = higN (Y * 33554432) k - fiN (Y * 33554432) (k + 1) ∧ fiN (Y * 33554432) (k + 1) ≤ higN (Y * 33554432) k) ∨
     ((k + 1) % 2 = 0 ∧ lowN (Y * 33554432) (k + 1) = lowN (Y * 33554432) k + fiN (Y * 33554432) (k + 1) ∧ higN (Y * 33554432) (k + 1) = higN (Y * 33554432) k + laN (Y * 33554432) (k + 1))) := by
  have ht : Y * 33554432 ≤ 4611686018427387904 := by omega
  obtain ⟨a, b⟩ := frac_in Y (by omega)
  have w := wid _ ht k
  have l := low_le _ _ a b (t_of Y) k
  refine ⟨Nat.le_trans (la_Lb _ ht k) (Lb_le _ (by omega)), Nat.le_trans (la_Lb _ ht (k + 1)) (Lb_le _ (by omega)), fi_le _ ht _, fi_le _ ht _, l, by omega, ?_⟩
  by_cases hp : (k + 1) % 2 = 1
  · exact .inl ⟨hp, by rw [lowN, if_pos hp], by rw [higN, if_pos hp], fi_hi _ _ a b (t_of Y) k hp⟩
  · exact .inr ⟨by omega, by rw [lowN, if_neg hp], by rw [higN, if_neg hp]⟩
theorem lastly (Y : Nat) (hY : Y < 137438953472) : laN (Y * 33554432) 24 ≤ 2 ∧ lowN (Y * 33554432) 24 ≤ 4611686018427387904 ∧ higN (Y * 33554432) 24 ≤ 4611686018427388024 := by
  have ht : Y * 33554432 ≤ 4611686018427387904 := by omega
  obtain ⟨a, b⟩ := frac_in Y (by omega)
  have w := wid _ ht 24
  have l := low_le _ _ a b (t_of Y) 24
  exact ⟨Nat.le_trans (la_Lb _ ht 24) Lb24, l, by omega⟩
theorem squares (Y : Nat) (hY : Y < 137438953472) (k : Nat) : loS (Y * 33554432) k ≤ 4611686018427387904 ∧ hiS (Y * 33554432) k ≤ 4611686018427387904 := by
  obtain ⟨a, b⟩ := frac_in Y (by omega)
  obtain ⟨s1, s2, s3, s4, s5, s6⟩ := sq_all (Y * 33554432) _ a b (t_of Y) (by omega) k
  exact ⟨by omega, s4⟩
set_option maxRecDepth 100000 in
set_option maxHeartbeats 4000000 in
theorem bounds_c (Y : Nat) (hY : Y < 137438953472) (w : World) :
    Calls Tryd.prog 14 #[.int .u64 (Y : Int)] w fun r w' => r = .returned (.tuple #[.int .u64 ((loS (Y * 33554432) 5 : Nat) : Int), .int .u64 ((hiS (Y * 33554432) 5 : Nat) : Int)]) ∧ Below w.heap.size w w' := by
  have hRo := Lib.hid (rounds Y hY)
  have hLy := Lib.hid (lastly Y hY)
  have hSq := Lib.hid (squares Y hY)
  obtain ⟨t, hT⟩ : ∃ t, Y * 33554432 = t := ⟨_, rfl⟩
  have ht : IntKind.u64.wrap ((Y : Int) * 33554432) = (t : Int) := by rw [IntKind.wrap_u64]; omega
  have htM : t ≤ 4611686018427387904 := by omega
  rw [hT] at hRo hLy hSq ⊢
  clear hT hY
  go_enter Tryd.func14, Tryd.ntmps14
  go_wp2_with fail
  go_loopw [5, 6, 7, 8, 9] (fun lo hi la fi n wr => ∃ k : Nat, k ≤ 24 ∧ n = .int .u64 ((k + 1 : Nat) : Int) ∧ lo = .int .u64 ((lowN t k : Nat) : Int) ∧ hi = .int .u64 ((higN t k : Nat) : Int) ∧ la = .int .u64 ((laN t k : Nat) : Int) ∧ fi = .int .u64 ((fiN t k : Nat) : Int) ∧ Below w.heap.size w wr) (fun _ _ _ _ n _ => 25 - (intOf n).toNat)
  case atStart => exact ⟨0, by omega, rfl, rfl, rfl, rfl, rfl, Below.refl _ _⟩
  case round =>
    obtain ⟨k, hk, rfl, rfl, rfl, rfl, rfl, hbw⟩ := hrel
    have HB := Lib.hid hbw
    have hzz := hbw.size
    clear hbw
    by_cases hlt : k < 24
    · obtain ⟨N, hkN⟩ : ∃ N, k + 1 = N := ⟨_, rfl⟩
      have hN1 : 1 ≤ N := by omega
      have hNi : (N : Int) ≤ 24 := by omega
      have hNn : N ≤ 24 := by omega
      have hN0 : (N : Int) ≠ 0 := by omega
      have hN0' : N ≠ 0 := by omega
      have hNw : IntKind.u64.wrap ((N : Int) + 1) = ((N + 1 : Nat) : Int) := by rw [IntKind.wrap_u64]; omega
      have HNN := Lib.hid (show ((N + 1 : Nat) : Int) = ((k + 1 + 1 : Nat) : Int) by omega)
      obtain ⟨r1, r2, r3, r4, r5, r6, r7⟩ := hRo.out k hlt
      have eLa : laN t (k + 1) = tmU (laN t k) t / N + 1 := by rw [← hkN]; rfl
      have eFi : fiN t (k + 1) = tmD (fiN t k) t / N := by rw [← hkN]; rfl
      have TU := timesU_c (laN t k) t r1 htM
      have TD := timesD_c (fiN t k) t (by omega) htM
      have q1 : ((tmU (laN t k) t : Nat) : Int) / (N : Int) = ((tmU (laN t k) t / N : Nat) : Int) := by simp
      have q1' : ((tmU (laN t k) t : Nat) : Int).tdiv (N : Int) = ((tmU (laN t k) t / N : Nat) : Int) := by rw [Int.tdiv_eq_ediv_of_nonneg (by omega)]; simp
      have q2 : ((tmD (fiN t k) t : Nat) : Int) / (N : Int) = ((tmD (fiN t k) t / N : Nat) : Int) := by simp
      have q2' : ((tmD (fiN t k) t : Nat) : Int).tdiv (N : Int) = ((tmD (fiN t k) t / N : Nat) : Int) := by rw [Int.tdiv_eq_ediv_of_nonneg (by omega)]; simp
      rw [← eFi] at q2 q2'
      obtain ⟨U1, hU1⟩ : ∃ U1, tmU (laN t k) t = U1 := ⟨_, rfl⟩
      obtain ⟨D1, hD1⟩ : ∃ D1, tmD (fiN t k) t = D1 := ⟨_, rfl⟩
      obtain ⟨Q1, hQ1⟩ : ∃ Q1, U1 / N = Q1 := ⟨_, rfl⟩
      obtain ⟨La1, hLa1⟩ : ∃ z, laN t (k + 1) = z := ⟨_, rfl⟩
      obtain ⟨Fi1, hFi1⟩ : ∃ z, fiN t (k + 1) = z := ⟨_, rfl⟩
      obtain ⟨Lo1, hLo1⟩ : ∃ z, lowN t (k + 1) = z := ⟨_, rfl⟩
      obtain ⟨Hi1, hHi1⟩ : ∃ z, higN t (k + 1) = z := ⟨_, rfl⟩
      obtain ⟨La, hLa⟩ : ∃ z, laN t k = z := ⟨_, rfl⟩
      obtain ⟨Fi, hFi⟩ : ∃ z, fiN t k = z := ⟨_, rfl⟩
      obtain ⟨Lo, hLo⟩ : ∃ z, lowN t k = z := ⟨_, rfl⟩
      obtain ⟨Hi, hHi⟩ : ∃ z, higN t k = z := ⟨_, rfl⟩
      rw [hU1] at TU q1 q1' eLa
      rw [hQ1] at q1 q1' eLa
      rw [hD1] at TD q2 q2'
      rw [hLa1] at eLa r2 r7
      rw [hFi1] at q2 q2' r4 r7
      rw [hLo1, hHi1, hLo, hHi] at r7
      rw [hLa] at TU
      rw [hFi] at TD
      rw [hLo] at r5
      rw [hHi] at r6
      have HLo := Lib.hid hLo1
      have HHi := Lib.hid hHi1
      have HLa := Lib.hid hLa1
      have HFi := Lib.hid hFi1
      have hq64 : IntKind.u64.wrap ((Q1 : Int) + 1) = (La1 : Int) := by rw [IntKind.wrap_u64]; omega
      have hw1 : IntKind.u64.wrap (Q1 : Int) = (Q1 : Int) := by rw [IntKind.wrap_u64]; omega
      have hw2 : IntKind.u64.wrap (Fi1 : Int) = (Fi1 : Int) := by rw [IntKind.wrap_u64]; omega
      simp only [hLa, hFi, hLo, hHi]
      rcases r7 with ⟨p1, p2, p3, p4⟩ | ⟨p1, p2, p3⟩
      · rw [hkN] at p1
        have g1 : (N : Int) % 2 = 1 := by omega
        have g2 : (N : Int).tmod 2 = 1 := by rw [Int.tmod_eq_emod_of_nonneg (by omega)]; exact g1
        have s1 : IntKind.u64.wrap ((Hi : Int) - (Fi1 : Int)) = (Hi1 : Int) := by rw [IntKind.wrap_u64]; omega
        by_cases hc : La1 < Lo
        · have s2 : IntKind.u64.wrap ((Lo : Int) - (La1 : Int)) = (Lo1 : Int) := by rw [IntKind.wrap_u64]; omega
          have hmn : min (Lo : Int) (La1 : Int) = (La1 : Int) := by omega
          clear hU1 hD1 hQ1 hLa1 hFi1 hLo1 hHi1 hLa hFi hLo hHi eLa eFi p2 p3 p4 r1 r2 r3 r4 r5 r6
          simp only [hkN]
          clear hkN
          go_wp2_with fail
          with_reducible refine (TU _).mono ?_
          rintro e w1 ⟨rfl, hc1⟩
          have hzc1 := hc1.size
          go_wp2_with fail
          with_reducible refine (TD _).mono ?_
          rintro e w2 ⟨rfl, hc2⟩
          have hzc2 := hc2.size
          go_wp2_with fail
          go_roundw
          case rel => exact ⟨k + 1, by omega, by first | (congr 1; done) | (congr 1; have := HNN.out; omega), by rw [HLo.out], by rw [HHi.out], by rw [HLa.out], by rw [HFi.out], chain (chain HB.out hc1) hc2⟩
          case measure => first | (simp [intOf]; done) | (simp [intOf]; omega)
        · have s2 : (Lo1 : Int) = 0 := by omega
          have HLo0 := Lib.hid s2
          have HLo := Lib.hid (show (0 : Int) = ((lowN t (k + 1) : Nat) : Int) by rw [hLo1, s2])
          have hmn : min (Lo : Int) (La1 : Int) = (Lo : Int) := by omega
          have hss : IntKind.u64.wrap ((Lo : Int) - (Lo : Int)) = 0 := by rw [IntKind.wrap_u64]; omega
          have hs0 : IntKind.u64.wrap 0 = 0 := by rw [IntKind.wrap_u64]; rfl
          clear s2 hU1 hD1 hQ1 hLa1 hFi1 hLo1 hHi1 hLa hFi hLo hHi eLa eFi p2 p3 p4 r1 r2 r3 r4 r5 r6
          simp only [hkN]
          clear hkN
          go_wp2_with fail
          with_reducible refine (TU _).mono ?_
          rintro e w1 ⟨rfl, hc1⟩
          have hzc1 := hc1.size
          go_wp2_with fail
          with_reducible refine (TD _).mono ?_
          rintro e w2 ⟨rfl, hc2⟩
          have hzc2 := hc2.size
          go_wp2_with fail
          go_roundw
          case rel => exact ⟨k + 1, by omega, by first | (congr 1; done) | (congr 1; have := HNN.out; omega), by rw [HLo.out], by rw [HHi.out], by rw [HLa.out], by rw [HFi.out], chain (chain HB.out hc1) hc2⟩
          case measure => first | (simp [intOf]; done) | (simp [intOf]; omega)
      · rw [hkN] at p1
        have g1 : (N : Int) % 2 = 0 := by omega
        have g2 : (N : Int).tmod 2 = 0 := by rw [Int.tmod_eq_emod_of_nonneg (by omega)]; exact g1
        have s1 : IntKind.u64.wrap ((Lo : Int) + (Fi1 : Int)) = (Lo1 : Int) := by rw [IntKind.wrap_u64]; omega
        have s2 : IntKind.u64.wrap ((Hi : Int) + (La1 : Int)) = (Hi1 : Int) := by rw [IntKind.wrap_u64]; omega
        clear hU1 hD1 hQ1 hLa1 hFi1 hLo1 hHi1 hLa hFi hLo hHi eLa eFi p2 p3 r1 r2 r3 r4 r5 r6
        simp only [hkN]
        clear hkN
        go_wp2_with fail
        with_reducible refine (TU _).mono ?_
        rintro e w1 ⟨rfl, hc1⟩
        have hzc1 := hc1.size
        go_wp2_with fail
        with_reducible refine (TD _).mono ?_
        rintro e w2 ⟨rfl, hc2⟩
        have hzc2 := hc2.size
        go_wp2_with fail
        go_roundw
        case rel => exact ⟨k + 1, by omega, by first | (congr 1; done) | (congr 1; have := HNN.out; omega), by rw [HLo.out], by rw [HHi.out], by rw [HLa.out], by rw [HFi.out], chain (chain HB.out hc1) hc2⟩
        case measure => first | (simp [intOf]; done) | (simp [intOf]; omega)
    · have hke : k = 24 := by omega
      subst hke
      obtain ⟨l1, l2, l3⟩ := hLy.out
      obtain ⟨La, hLa⟩ : ∃ z, laN t 24 = z := ⟨_, rfl⟩
      obtain ⟨Lo, hLo⟩ : ∃ z, lowN t 24 = z := ⟨_, rfl⟩
      obtain ⟨Hi, hHi⟩ : ∃ z, higN t 24 = z := ⟨_, rfl⟩
      obtain ⟨Fi, hFi⟩ : ∃ z, fiN t 24 = z := ⟨_, rfl⟩
      obtain ⟨Mn, hMn⟩ : ∃ z, min Lo La = z := ⟨_, rfl⟩
      obtain ⟨L0, hL0⟩ : ∃ z, loS t 0 = z := ⟨_, rfl⟩
      obtain ⟨H0, hH0⟩ : ∃ z, hiS t 0 = z := ⟨_, rfl⟩
      have eL : loS t 0 = lowN t 24 - laN t 24 := rfl
      have eH : hiS t 0 = min (higN t 24 + laN t 24) 4611686018427387904 := rfl
      rw [hLo, hLa, hL0] at eL
      rw [hHi, hLa, hH0] at eH
      rw [hLo] at l2
      rw [hLa] at l1
      rw [hHi] at l3
      have hmn : min (Lo : Int) (La : Int) = (Mn : Int) := by omega
      have s1 : IntKind.u64.wrap ((Lo : Int) - (Mn : Int)) = (L0 : Int) := by rw [IntKind.wrap_u64]; omega
      obtain ⟨HL, hHL⟩ : ∃ z, Hi + La = z := ⟨_, rfl⟩
      have s2 : IntKind.u64.wrap ((Hi : Int) + (La : Int)) = (HL : Int) := by rw [IntKind.wrap_u64]; omega
      have hm2 : min (HL : Int) 4611686018427387904 = (H0 : Int) := by omega
      have HL0 := Lib.hid hL0
      have HH0 := Lib.hid hH0
      simp only [hLa, hFi, hLo, hHi, show ((24 + 1 : Nat) : Int) = 25 from rfl]
      clear hLa hLo hHi hFi hMn hL0 hH0 eL eH hHL l1 l2 l3 hRo hLy hk hlt
      go_wp2_with fail
      go_loopw [5, 6, 10] (fun lo hi i wr => ∃ j : Nat, j ≤ 5 ∧ i = .int .i64 (j : Int) ∧ lo = .int .u64 ((loS t j : Nat) : Int) ∧ hi = .int .u64 ((hiS t j : Nat) : Int) ∧ Below w.heap.size w wr) (fun _ _ i _ => 5 - (intOf i).toNat)
      case atStart => exact ⟨0, by omega, rfl, by rw [HL0.out], by rw [HH0.out], HB.out⟩
      case round =>
        clear HB hzz
        obtain ⟨j, hj, rfl, rfl, rfl, hbw⟩ := hrel
        have HB := Lib.hid hbw
        have hzz := hbw.size
        clear hbw
        by_cases hlt : j < 5
        · have hlt' : (j : Int) < 5 := by omega
          obtain ⟨q1, q2⟩ := hSq.out j
          have TD := timesD_c (loS t j) (loS t j) (by omega) q1
          have TU := timesU_c (hiS t j) (hiS t j) (by omega) q2
          rw [show tmD (loS t j) (loS t j) = loS t (j + 1) from rfl] at TD
          rw [show tmU (hiS t j) (hiS t j) = hiS t (j + 1) from rfl] at TU
          clear q1 q2
          obtain ⟨A1, hA1⟩ : ∃ z, loS t (j + 1) = z := ⟨_, rfl⟩
          obtain ⟨A2, hA2⟩ : ∃ z, hiS t (j + 1) = z := ⟨_, rfl⟩
          rw [hA1] at TD
          rw [hA2] at TU
          have HA1 := Lib.hid hA1
          have HA2 := Lib.hid hA2
          clear hA1 hA2
          generalize loS t j = B1 at *
          generalize hiS t j = B2 at *
          go_wp2_with fail
          with_reducible refine (TD _).mono ?_
          rintro e w1 ⟨rfl, hc1⟩
          have hzc1 := hc1.size
          go_wp2_with fail
          with_reducible refine (TU _).mono ?_
          rintro e w2 ⟨rfl, hc2⟩
          have hzc2 := hc2.size
          go_wp2_with fail
          go_roundw
          case rel => exact ⟨j + 1, by omega, by go_num, by rw [HA1.out], by rw [HA2.out], chain (chain HB.out hc1) hc2⟩
          case measure => first | (simp [intOf]; done) | (simp [intOf]; omega)
        · have hke : j = 5 := by omega
          subst hke
          go_wp2_with fail
          first | go_ret | go_ret2
          exact ⟨rfl, HB.out⟩
end Go.Proofs.Tryd
