/- The walks of ExpoFalls, ExpoSums, ExpoRatio. -/
import Derived.Test.YtighjibggjjieaaDoorExpo3
import Derived.Test.YtighjibggjjieaaDoorLaw
import Derived.OpenShut
namespace Go.Proofs.Tryd
open Go.RowKit
set_option linter.unusedVariables false
set_option linter.unusedSimpArgs false

theorem ratio_by (a b c : Nat) (hc : 0 < c) : ratioN (a * c) (b * c) = ratioN a b := by
  unfold ratioN
  have e : a * c * 4294967296 / (b * c) = a * 4294967296 / b := by
    rw [Nat.mul_right_comm, Nat.mul_div_mul_right _ _ hc]
  rw [e]
  by_cases hb : b = 0
  · subst hb; simp
  · rw [if_neg hb, if_neg (fun h => by rcases Nat.mul_eq_zero.1 h with h | h <;> omega)]
theorem ratio_none (a : Nat) : ratioN a 0 = 0 := by unfold ratioN; rw [if_pos rfl]
theorem ratio_all (b : Nat) (hb : 0 < b) : ratioN 0 b = 4294967296 := by
  unfold ratioN
  rw [if_neg (by omega), Nat.zero_mul, Nat.zero_div, if_pos (by omega), ofx_zero]
theorem fmul_small (n m : Nat) (hn : n ≤ 4294967296) (hm : m ≤ 4294967296) : fMul (n : Int) (m : Int) = ((n * m / 4294967296 : Nat) : Int) := by
  have h := Nat.mul_le_mul hn hm
  unfold fMul
  have e : (n : Int) * (m : Int) / 4294967296 = ((n * m / 4294967296 : Nat) : Int) := by rw [← Int.natCast_mul]; omega
  rw [e, if_pos (by omega)]
set_option maxRecDepth 100000 in
set_option maxHeartbeats 3000000 in
theorem walk_ExpoFalls (a0 a1 : Int) (w0 : (Lit.int .u64 a0).wf = true) (w1 : (Lit.int .u64 a1).wf = true) (w : World) (hT : Pows w) :
    Calls Tryd.prog 5 #[.int .u64 a0, .int .u64 a1] w fun e w' => e = .returned (.bool true) ∧ Below w.heap.size w w' := by
  obtain ⟨p0, p1⟩ := bounds_u64 w0
  obtain ⟨q0, q1⟩ := bounds_u64 w1
  obtain ⟨x, rfl⟩ := Int.eq_ofNat_of_zero_le p0
  obtain ⟨y, rfl⟩ := Int.eq_ofNat_of_zero_le q0
  have HT := Lib.hid hT
  clear hT w0 w1
  obtain ⟨m, hm⟩ : ∃ m, min x y = m := ⟨_, rfl⟩
  obtain ⟨M, hM⟩ : ∃ M, max x y = M := ⟨_, rfl⟩
  have hmin : min (x : Int) (y : Int) = (m : Int) := by omega
  have hmax : max (x : Int) (y : Int) = (M : Int) := by omega
  have hmM : m ≤ M := by omega
  have hM64 : M < 18446744073709551616 := by omega
  have hlo : (m : Int) % 137438953472 = ((m % 137438953472 : Nat) : Int) := by omega
  have hsub : IntKind.u64.wrap ((M : Int) - (m : Int)) = ((M - m : Nat) : Int) := by rw [IntKind.wrap_u64]; omega
  have hhi : ((M - m : Nat) : Int) % 137438953472 = (((M - m) % 137438953472 : Nat) : Int) := by omega
  have hL : m % 137438953472 < 137438953472 := Nat.mod_lt _ (by omega)
  have hD : (M - m) % 137438953472 < 137438953472 := Nat.mod_lt _ (by omega)
  have C1 := oexpo_c (m % 137438953472) (by omega)
  have C2 := oexpo_c (m % 137438953472 + (M - m) % 137438953472) (by omega)
  have f1 := ofx_le (m % 137438953472)
  have f2 := ofx_falls (m % 137438953472) (m % 137438953472 + (M - m) % 137438953472) (by omega)
  have hlo' : (m : Int) % 137438953472 = ((m % 137438953472 : Nat) : Int) := hlo
  clear hm hM
  obtain ⟨l, hl⟩ : ∃ l, m % 137438953472 = l := ⟨_, rfl⟩
  obtain ⟨d, hd⟩ : ∃ d, (M - m) % 137438953472 = d := ⟨_, rfl⟩
  rw [hl] at hlo hL C1 C2 f1 f2
  rw [hd] at hhi hD C2 f2
  have hadd : IntKind.u64.wrap ((l : Int) + (d : Int)) = ((l + d : Nat) : Int) := by rw [IntKind.wrap_u64]; omega
  have g1 : ((ofx l : Nat) : Int) ≤ 4294967296 := by omega
  have g2 : ((ofx (l + d) : Nat) : Int) ≤ ((ofx l : Nat) : Int) + 1 := by omega
  clear hl hd hlo'
  generalize ofx l = P at *
  generalize ofx (l + d) = Q at *
  rw [Int.natCast_add] at C2 hadd
  go_enter Tryd.func5, Tryd.ntmps5
  go_wp2_with fail
  with_reducible refine (awake5 _ HT.out).mono ?_
  rintro e w1 ⟨rfl, hb1⟩
  have HBW := Lib.hid hb1
  have HT := Lib.hid (HT.out.below hb1)
  clear hb1
  go_wp2_with fail
  with_reducible refine (C1 _ HT.out).mono ?_
  rintro e w2 ⟨rfl, hb2⟩
  have HBW := Lib.hid (chain HBW.out hb2)
  have HT := Lib.hid (HT.out.below hb2)
  clear hb2
  go_wp2_with fail
  with_reducible refine (C2 _ HT.out).mono ?_
  rintro e w3 ⟨rfl, hb3⟩
  have HBW := Lib.hid (chain HBW.out hb3)
  have HT := Lib.hid (HT.out.below hb3)
  clear hb3
  go_wp2_with fail
  with_reducible refine (C1 _ HT.out).mono ?_
  rintro e w4 ⟨rfl, hb4⟩
  have HBW := Lib.hid (chain HBW.out hb4)
  have HT := Lib.hid (HT.out.below hb4)
  clear hb4
  go_wp2_with fail
  go_ret
  exact ⟨by first | rfl | (simp; done) | (simp; omega), HBW.out⟩
set_option maxRecDepth 100000 in
set_option maxHeartbeats 3000000 in
theorem walk_ExpoSums (a0 a1 : Int) (w0 : (Lit.int .u64 a0).wf = true) (w1 : (Lit.int .u64 a1).wf = true) (w : World) (hT : Pows w) :
    Calls Tryd.prog 6 #[.int .u64 a0, .int .u64 a1] w fun e w' => e = .returned (.bool true) ∧ Below w.heap.size w w' := by
  obtain ⟨p0, p1⟩ := bounds_u64 w0
  obtain ⟨q0, q1⟩ := bounds_u64 w1
  obtain ⟨x, rfl⟩ := Int.eq_ofNat_of_zero_le p0
  obtain ⟨y, rfl⟩ := Int.eq_ofNat_of_zero_le q0
  have HT := Lib.hid hT
  clear hT w0 w1
  obtain ⟨a, ha⟩ : ∃ a, x % 68719476736 = a := ⟨_, rfl⟩
  obtain ⟨b, hb⟩ : ∃ b, y % 68719476736 = b := ⟨_, rfl⟩
  have hai : (x : Int) % 68719476736 = (a : Int) := by omega
  have hbi : (y : Int) % 68719476736 = (b : Int) := by omega
  have hal : a < 68719476736 := by omega
  have hbl : b < 68719476736 := by omega
  have C1 := oexpo_c (a + b) (by omega)
  have C2 := oexpo_c a (by omega)
  have C3 := oexpo_c b (by omega)
  obtain ⟨s1, s2⟩ := ofx_sums a b (by omega)
  have l1 := ofx_le a
  have l2 := ofx_le b
  have l3 := ofx_le (a + b)
  have C4 := fmul_c ((ofx a : Nat) : Int) ((ofx b : Nat) : Int) (by omega) (by omega) (by omega) (by omega)
  rw [fmul_small _ _ l1 l2] at C4
  have hp : ofx a * ofx b / 4294967296 ≤ 4294967296 := by
    have := Nat.mul_le_mul l1 l2
    omega
  clear ha hb
  rw [Int.natCast_add] at C1
  generalize ofx a * ofx b / 4294967296 = P at *
  generalize ofx a = A at *
  generalize ofx b = B at *
  generalize ofx (a + b) = N at *
  have g1 : (N : Int) ≤ (P : Int) + 256 := by omega
  have g2 : (P : Int) ≤ (N : Int) + 256 := by omega
  go_enter Tryd.func6, Tryd.ntmps6
  go_wp2_with fail
  with_reducible refine (awake5 _ HT.out).mono ?_
  rintro e w1 ⟨rfl, hb1⟩
  have HBW := Lib.hid hb1
  have HT := Lib.hid (HT.out.below hb1)
  clear hb1
  go_wp2_with fail
  with_reducible refine (C1 _ HT.out).mono ?_
  rintro e w2 ⟨rfl, hb2⟩
  have HBW := Lib.hid (chain HBW.out hb2)
  have HT := Lib.hid (HT.out.below hb2)
  clear hb2
  go_wp2_with fail
  with_reducible refine (C2 _ HT.out).mono ?_
  rintro e w3 ⟨rfl, hb3⟩
  have HBW := Lib.hid (chain HBW.out hb3)
  have HT := Lib.hid (HT.out.below hb3)
  clear hb3
  go_wp2_with fail
  with_reducible refine (C3 _ HT.out).mono ?_
  rintro e w4 ⟨rfl, hb4⟩
  have HBW := Lib.hid (chain HBW.out hb4)
  have HT := Lib.hid (HT.out.below hb4)
  clear hb4
  go_wp2_with fail
  with_reducible refine (C4 _).mono ?_
  rintro e w5 ⟨rfl, hb5⟩
  have HBW := Lib.hid (chain HBW.out hb5)
  have HT := Lib.hid (HT.out.below hb5)
  clear hb5
  go_wp2_with fail
  go_ret
  exact ⟨by first | rfl | (simp; done) | (simp; omega), HBW.out⟩
set_option maxRecDepth 100000 in
set_option maxHeartbeats 3000000 in
theorem walk_ExpoRatio (a0 a1 a2 a3 a4 : Int) (w0 : (Lit.int .u32 a0).wf = true) (w1 : (Lit.int .u32 a1).wf = true) (w2 : (Lit.int .u32 a2).wf = true) (w3 : (Lit.int .u32 a3).wf = true) (w4 : (Lit.int .u32 a4).wf = true) (w : World) (hT : Pows w) :
    Calls Tryd.prog 7 #[.int .u32 a0, .int .u32 a1, .int .u32 a2, .int .u32 a3, .int .u32 a4] w fun e w' => e = .returned (.bool true) ∧ Below w.heap.size w w' := by
  obtain ⟨p0, q0⟩ := bounds_u32 w0
  obtain ⟨p1, q1⟩ := bounds_u32 w1
  obtain ⟨p2, q2⟩ := bounds_u32 w2
  obtain ⟨p3, q3⟩ := bounds_u32 w3
  obtain ⟨p4, q4⟩ := bounds_u32 w4
  obtain ⟨a, rfl⟩ := Int.eq_ofNat_of_zero_le p0
  obtain ⟨b, rfl⟩ := Int.eq_ofNat_of_zero_le p1
  obtain ⟨c, rfl⟩ := Int.eq_ofNat_of_zero_le p2
  obtain ⟨d, rfl⟩ := Int.eq_ofNat_of_zero_le p3
  obtain ⟨f, rfl⟩ := Int.eq_ofNat_of_zero_le p4
  have HT := Lib.hid hT
  clear hT w0 w1 w2 w3 w4
  obtain ⟨m, hm⟩ : ∃ m, min d f = m := ⟨_, rfl⟩
  obtain ⟨M, hM⟩ : ∃ M, max d f = M := ⟨_, rfl⟩
  have hmin : min (d : Int) (f : Int) = (m : Int) := by omega
  have hmax : max (d : Int) (f : Int) = (M : Int) := by omega
  have hmM : m ≤ M := by omega
  have hM32 : M < 4294967296 := by omega
  clear hm hM
  have ac : a * c < 18446744073709551616 := by
    have := Nat.mul_le_mul (show a ≤ 4294967295 by omega) (show c ≤ 4294967295 by omega)
    omega
  have bc : b * c < 18446744073709551616 := by
    have := Nat.mul_le_mul (show b ≤ 4294967295 by omega) (show c ≤ 4294967295 by omega)
    omega
  have hac : IntKind.u64.wrap ((a : Int) * (c : Int)) = ((a * c : Nat) : Int) := by rw [← Int.natCast_mul, IntKind.wrap_u64]; omega
  have hbc : IntKind.u64.wrap ((b : Int) * (c : Int)) = ((b * c : Nat) : Int) := by rw [← Int.natCast_mul, IntKind.wrap_u64]; omega
  have C1 := oratio_c a b (by omega) (by omega)
  have C2 := oratio_c (a * c) (b * c) ac bc
  have C3 := obelow_c M a b (by omega) (by omega) (by omega)
  have C4 := obelow_c m a b (by omega) (by omega) (by omega)
  have C5 := obelow_c d 0 b (by omega) (by omega) (by omega)
  have r1 : c = 0 → ratioN (a * c) (b * c) = 0 := fun h => by rw [h, Nat.mul_zero, Nat.mul_zero, ratio_none]
  have r2 : 0 < c → ratioN (a * c) (b * c) = ratioN a b := fun h => ratio_by a b c h
  have r3 : 0 < b → ratioN 0 b = 4294967296 := ratio_all b
  rw [Int.natCast_mul] at hac hbc C2
  rw [Int.natCast_mul] at C2
  rw [show ((0 : Nat) : Int) = 0 from rfl] at C5
  generalize ratioN (a * c) (b * c) = R2 at *
  generalize ratioN 0 b = R3 at *
  generalize ratioN a b = R1 at *
  clear ac bc
  by_cases h1 : c = 0
  · obtain rfl := r1 h1
    rw [show ((0 : Nat) : Int) = 0 from rfl] at C2
    have e1 : ((c : Int) == 0) = true := by rw [beq_iff_eq]; omega
    clear h1 r1 r2
    by_cases h2 : M < R1
    · rw [decide_eq_true h2] at C3
      rw [decide_eq_true (by omega)] at C4
      by_cases h3 : 0 < a
      · have e3 : (0 : Int) < (a : Int) := by omega
        clear h2
        go_enter Tryd.func7, Tryd.ntmps7
        go_wp2_with fail
        with_reducible refine (awake5 _ HT.out).mono ?_
        rintro e w1 ⟨rfl, hb1⟩
        have HBW := Lib.hid hb1
        have HT := Lib.hid (HT.out.below hb1)
        clear hb1
        go_wp2_with fail
        with_reducible refine (C1 _ HT.out).mono ?_
        rintro e w2 ⟨rfl, hb2⟩
        have HBW := Lib.hid (chain HBW.out hb2)
        have HT := Lib.hid (HT.out.below hb2)
        clear hb2
        go_wp2_with fail
        with_reducible refine (C2 _ HT.out).mono ?_
        rintro e w3 ⟨rfl, hb3⟩
        have HBW := Lib.hid (chain HBW.out hb3)
        have HT := Lib.hid (HT.out.below hb3)
        clear hb3
        go_wp2_with fail
        with_reducible refine (C3 _ HT.out).mono ?_
        rintro e w4 ⟨rfl, hb4⟩
        have HBW := Lib.hid (chain HBW.out hb4)
        have HT := Lib.hid (HT.out.below hb4)
        clear hb4
        go_wp2_with fail
        with_reducible refine (C4 _ HT.out).mono ?_
        rintro e w5 ⟨rfl, hb5⟩
        have HBW := Lib.hid (chain HBW.out hb5)
        have HT := Lib.hid (HT.out.below hb5)
        clear hb5
        go_wp2_with fail
        go_ret
        exact ⟨by first | rfl | (simp; done) | (simp; omega), HBW.out⟩
      · have e3 : decide ((0 : Int) < (a : Int)) = false := by simp; omega
        obtain rfl : a = 0 := by omega
        rw [show ((0 : Nat) : Int) = 0 from rfl] at C1 C2 C3 C4
        rw [Int.zero_mul] at C2
        clear hac e3
        by_cases h4 : b = 0
        · have e4 : ((b : Int) == 0) = true := by rw [beq_iff_eq]; omega
          clear h2 h3 h4
          go_enter Tryd.func7, Tryd.ntmps7
          go_wp2_with fail
          with_reducible refine (awake5 _ HT.out).mono ?_
          rintro e w1 ⟨rfl, hb1⟩
          have HBW := Lib.hid hb1
          have HT := Lib.hid (HT.out.below hb1)
          clear hb1
          go_wp2_with fail
          with_reducible refine (C1 _ HT.out).mono ?_
          rintro e w2 ⟨rfl, hb2⟩
          have HBW := Lib.hid (chain HBW.out hb2)
          have HT := Lib.hid (HT.out.below hb2)
          clear hb2
          go_wp2_with fail
          with_reducible refine (C2 _ HT.out).mono ?_
          rintro e w3 ⟨rfl, hb3⟩
          have HBW := Lib.hid (chain HBW.out hb3)
          have HT := Lib.hid (HT.out.below hb3)
          clear hb3
          go_wp2_with fail
          with_reducible refine (C3 _ HT.out).mono ?_
          rintro e w4 ⟨rfl, hb4⟩
          have HBW := Lib.hid (chain HBW.out hb4)
          have HT := Lib.hid (HT.out.below hb4)
          clear hb4
          go_wp2_with fail
          with_reducible refine (C4 _ HT.out).mono ?_
          rintro e w5 ⟨rfl, hb5⟩
          have HBW := Lib.hid (chain HBW.out hb5)
          have HT := Lib.hid (HT.out.below hb5)
          clear hb5
          go_wp2_with fail
          go_ret
          exact ⟨by first | rfl | (simp; done) | (simp; omega), HBW.out⟩
        · have e4 : ((b : Int) == 0) = false := by rw [beq_eq_false_iff_ne]; omega
          obtain rfl := r3 (by omega)
          rw [decide_eq_true (by omega)] at C5
          clear h2 h3 h4
          go_enter Tryd.func7, Tryd.ntmps7
          go_wp2_with fail
          with_reducible refine (awake5 _ HT.out).mono ?_
          rintro e w1 ⟨rfl, hb1⟩
          have HBW := Lib.hid hb1
          have HT := Lib.hid (HT.out.below hb1)
          clear hb1
          go_wp2_with fail
          with_reducible refine (C1 _ HT.out).mono ?_
          rintro e w2 ⟨rfl, hb2⟩
          have HBW := Lib.hid (chain HBW.out hb2)
          have HT := Lib.hid (HT.out.below hb2)
          clear hb2
          go_wp2_with fail
          with_reducible refine (C2 _ HT.out).mono ?_
          rintro e w3 ⟨rfl, hb3⟩
          have HBW := Lib.hid (chain HBW.out hb3)
          have HT := Lib.hid (HT.out.below hb3)
          clear hb3
          go_wp2_with fail
          with_reducible refine (C3 _ HT.out).mono ?_
          rintro e w4 ⟨rfl, hb4⟩
          have HBW := Lib.hid (chain HBW.out hb4)
          have HT := Lib.hid (HT.out.below hb4)
          clear hb4
          go_wp2_with fail
          with_reducible refine (C4 _ HT.out).mono ?_
          rintro e w5 ⟨rfl, hb5⟩
          have HBW := Lib.hid (chain HBW.out hb5)
          have HT := Lib.hid (HT.out.below hb5)
          clear hb5
          go_wp2_with fail
          with_reducible refine (C5 _ HT.out).mono ?_
          rintro e w6 ⟨rfl, hb6⟩
          have HBW := Lib.hid (chain HBW.out hb6)
          have HT := Lib.hid (HT.out.below hb6)
          clear hb6
          go_wp2_with fail
          go_ret
          exact ⟨by first | rfl | (simp; done) | (simp; omega), HBW.out⟩
    · rw [decide_eq_false h2] at C3
      by_cases h3 : 0 < a
      · have e3 : (0 : Int) < (a : Int) := by omega
        clear h2
        go_enter Tryd.func7, Tryd.ntmps7
        go_wp2_with fail
        with_reducible refine (awake5 _ HT.out).mono ?_
        rintro e w1 ⟨rfl, hb1⟩
        have HBW := Lib.hid hb1
        have HT := Lib.hid (HT.out.below hb1)
        clear hb1
        go_wp2_with fail
        with_reducible refine (C1 _ HT.out).mono ?_
        rintro e w2 ⟨rfl, hb2⟩
        have HBW := Lib.hid (chain HBW.out hb2)
        have HT := Lib.hid (HT.out.below hb2)
        clear hb2
        go_wp2_with fail
        with_reducible refine (C2 _ HT.out).mono ?_
        rintro e w3 ⟨rfl, hb3⟩
        have HBW := Lib.hid (chain HBW.out hb3)
        have HT := Lib.hid (HT.out.below hb3)
        clear hb3
        go_wp2_with fail
        with_reducible refine (C3 _ HT.out).mono ?_
        rintro e w4 ⟨rfl, hb4⟩
        have HBW := Lib.hid (chain HBW.out hb4)
        have HT := Lib.hid (HT.out.below hb4)
        clear hb4
        go_wp2_with fail
        go_ret
        exact ⟨by first | rfl | (simp; done) | (simp; omega), HBW.out⟩
      · have e3 : decide ((0 : Int) < (a : Int)) = false := by simp; omega
        obtain rfl : a = 0 := by omega
        rw [show ((0 : Nat) : Int) = 0 from rfl] at C1 C2 C3 C4
        rw [Int.zero_mul] at C2
        clear hac e3
        by_cases h4 : b = 0
        · have e4 : ((b : Int) == 0) = true := by rw [beq_iff_eq]; omega
          clear h2 h3 h4
          go_enter Tryd.func7, Tryd.ntmps7
          go_wp2_with fail
          with_reducible refine (awake5 _ HT.out).mono ?_
          rintro e w1 ⟨rfl, hb1⟩
          have HBW := Lib.hid hb1
          have HT := Lib.hid (HT.out.below hb1)
          clear hb1
          go_wp2_with fail
          with_reducible refine (C1 _ HT.out).mono ?_
          rintro e w2 ⟨rfl, hb2⟩
          have HBW := Lib.hid (chain HBW.out hb2)
          have HT := Lib.hid (HT.out.below hb2)
          clear hb2
          go_wp2_with fail
          with_reducible refine (C2 _ HT.out).mono ?_
          rintro e w3 ⟨rfl, hb3⟩
          have HBW := Lib.hid (chain HBW.out hb3)
          have HT := Lib.hid (HT.out.below hb3)
          clear hb3
          go_wp2_with fail
          with_reducible refine (C3 _ HT.out).mono ?_
          rintro e w4 ⟨rfl, hb4⟩
          have HBW := Lib.hid (chain HBW.out hb4)
          have HT := Lib.hid (HT.out.below hb4)
          clear hb4
          go_wp2_with fail
          go_ret
          exact ⟨by first | rfl | (simp; done) | (simp; omega), HBW.out⟩
        · have e4 : ((b : Int) == 0) = false := by rw [beq_eq_false_iff_ne]; omega
          obtain rfl := r3 (by omega)
          rw [decide_eq_true (by omega)] at C5
          clear h2 h3 h4
          go_enter Tryd.func7, Tryd.ntmps7
          go_wp2_with fail
          with_reducible refine (awake5 _ HT.out).mono ?_
          rintro e w1 ⟨rfl, hb1⟩
          have HBW := Lib.hid hb1
          have HT := Lib.hid (HT.out.below hb1)
          clear hb1
          go_wp2_with fail
          with_reducible refine (C1 _ HT.out).mono ?_
          rintro e w2 ⟨rfl, hb2⟩
          have HBW := Lib.hid (chain HBW.out hb2)
          have HT := Lib.hid (HT.out.below hb2)
          clear hb2
          go_wp2_with fail
          with_reducible refine (C2 _ HT.out).mono ?_
          rintro e w3 ⟨rfl, hb3⟩
          have HBW := Lib.hid (chain HBW.out hb3)
          have HT := Lib.hid (HT.out.below hb3)
          clear hb3
          go_wp2_with fail
          with_reducible refine (C3 _ HT.out).mono ?_
          rintro e w4 ⟨rfl, hb4⟩
          have HBW := Lib.hid (chain HBW.out hb4)
          have HT := Lib.hid (HT.out.below hb4)
          clear hb4
          go_wp2_with fail
          with_reducible refine (C5 _ HT.out).mono ?_
          rintro e w5 ⟨rfl, hb5⟩
          have HBW := Lib.hid (chain HBW.out hb5)
          have HT := Lib.hid (HT.out.below hb5)
          clear hb5
          go_wp2_with fail
          go_ret
          exact ⟨by first | rfl | (simp; done) | (simp; omega), HBW.out⟩
  · obtain rfl := r2 (by omega)
    have e1 : ((c : Int) == 0) = false := by rw [beq_eq_false_iff_ne]; omega
    have e1' : (0 : Int) < (c : Int) := by omega
    clear h1 r1 r2
    by_cases h2 : M < R2
    · rw [decide_eq_true h2] at C3
      rw [decide_eq_true (by omega)] at C4
      by_cases h3 : 0 < a
      · have e3 : (0 : Int) < (a : Int) := by omega
        clear h2
        go_enter Tryd.func7, Tryd.ntmps7
        go_wp2_with fail
        with_reducible refine (awake5 _ HT.out).mono ?_
        rintro e w1 ⟨rfl, hb1⟩
        have HBW := Lib.hid hb1
        have HT := Lib.hid (HT.out.below hb1)
        clear hb1
        go_wp2_with fail
        with_reducible refine (C1 _ HT.out).mono ?_
        rintro e w2 ⟨rfl, hb2⟩
        have HBW := Lib.hid (chain HBW.out hb2)
        have HT := Lib.hid (HT.out.below hb2)
        clear hb2
        go_wp2_with fail
        with_reducible refine (C2 _ HT.out).mono ?_
        rintro e w3 ⟨rfl, hb3⟩
        have HBW := Lib.hid (chain HBW.out hb3)
        have HT := Lib.hid (HT.out.below hb3)
        clear hb3
        go_wp2_with fail
        with_reducible refine (C3 _ HT.out).mono ?_
        rintro e w4 ⟨rfl, hb4⟩
        have HBW := Lib.hid (chain HBW.out hb4)
        have HT := Lib.hid (HT.out.below hb4)
        clear hb4
        go_wp2_with fail
        with_reducible refine (C4 _ HT.out).mono ?_
        rintro e w5 ⟨rfl, hb5⟩
        have HBW := Lib.hid (chain HBW.out hb5)
        have HT := Lib.hid (HT.out.below hb5)
        clear hb5
        go_wp2_with fail
        go_ret
        exact ⟨by first | rfl | (simp; done) | (simp; omega), HBW.out⟩
      · have e3 : decide ((0 : Int) < (a : Int)) = false := by simp; omega
        obtain rfl : a = 0 := by omega
        rw [show ((0 : Nat) : Int) = 0 from rfl] at C1 C2 C3 C4
        rw [Int.zero_mul] at C2
        clear hac e3
        by_cases h4 : b = 0
        · have e4 : ((b : Int) == 0) = true := by rw [beq_iff_eq]; omega
          clear h2 h3 h4
          go_enter Tryd.func7, Tryd.ntmps7
          go_wp2_with fail
          with_reducible refine (awake5 _ HT.out).mono ?_
          rintro e w1 ⟨rfl, hb1⟩
          have HBW := Lib.hid hb1
          have HT := Lib.hid (HT.out.below hb1)
          clear hb1
          go_wp2_with fail
          with_reducible refine (C1 _ HT.out).mono ?_
          rintro e w2 ⟨rfl, hb2⟩
          have HBW := Lib.hid (chain HBW.out hb2)
          have HT := Lib.hid (HT.out.below hb2)
          clear hb2
          go_wp2_with fail
          with_reducible refine (C2 _ HT.out).mono ?_
          rintro e w3 ⟨rfl, hb3⟩
          have HBW := Lib.hid (chain HBW.out hb3)
          have HT := Lib.hid (HT.out.below hb3)
          clear hb3
          go_wp2_with fail
          with_reducible refine (C3 _ HT.out).mono ?_
          rintro e w4 ⟨rfl, hb4⟩
          have HBW := Lib.hid (chain HBW.out hb4)
          have HT := Lib.hid (HT.out.below hb4)
          clear hb4
          go_wp2_with fail
          with_reducible refine (C4 _ HT.out).mono ?_
          rintro e w5 ⟨rfl, hb5⟩
          have HBW := Lib.hid (chain HBW.out hb5)
          have HT := Lib.hid (HT.out.below hb5)
          clear hb5
          go_wp2_with fail
          go_ret
          exact ⟨by first | rfl | (simp; done) | (simp; omega), HBW.out⟩
        · have e4 : ((b : Int) == 0) = false := by rw [beq_eq_false_iff_ne]; omega
          obtain rfl := r3 (by omega)
          rw [decide_eq_true (by omega)] at C5
          clear h2 h3 h4
          go_enter Tryd.func7, Tryd.ntmps7
          go_wp2_with fail
          with_reducible refine (awake5 _ HT.out).mono ?_
          rintro e w1 ⟨rfl, hb1⟩
          have HBW := Lib.hid hb1
          have HT := Lib.hid (HT.out.below hb1)
          clear hb1
          go_wp2_with fail
          with_reducible refine (C1 _ HT.out).mono ?_
          rintro e w2 ⟨rfl, hb2⟩
          have HBW := Lib.hid (chain HBW.out hb2)
          have HT := Lib.hid (HT.out.below hb2)
          clear hb2
          go_wp2_with fail
          with_reducible refine (C2 _ HT.out).mono ?_
          rintro e w3 ⟨rfl, hb3⟩
          have HBW := Lib.hid (chain HBW.out hb3)
          have HT := Lib.hid (HT.out.below hb3)
          clear hb3
          go_wp2_with fail
          with_reducible refine (C3 _ HT.out).mono ?_
          rintro e w4 ⟨rfl, hb4⟩
          have HBW := Lib.hid (chain HBW.out hb4)
          have HT := Lib.hid (HT.out.below hb4)
          clear hb4
          go_wp2_with fail
          with_reducible refine (C4 _ HT.out).mono ?_
          rintro e w5 ⟨rfl, hb5⟩
          have HBW := Lib.hid (chain HBW.out hb5)
          have HT := Lib.hid (HT.out.below hb5)
          clear hb5
          go_wp2_with fail
          with_reducible refine (C5 _ HT.out).mono ?_
          rintro e w6 ⟨rfl, hb6⟩
          have HBW := Lib.hid (chain HBW.out hb6)
          have HT := Lib.hid (HT.out.below hb6)
          clear hb6
          go_wp2_with fail
          go_ret
          exact ⟨by first | rfl | (simp; done) | (simp; omega), HBW.out⟩
    · rw [decide_eq_false h2] at C3
      by_cases h3 : 0 < a
      · have e3 : (0 : Int) < (a : Int) := by omega
        clear h2
        go_enter Tryd.func7, Tryd.ntmps7
        go_wp2_with fail
        with_reducible refine (awake5 _ HT.out).mono ?_
        rintro e w1 ⟨rfl, hb1⟩
        have HBW := Lib.hid hb1
        have HT := Lib.hid (HT.out.below hb1)
        clear hb1
        go_wp2_with fail
        with_reducible refine (C1 _ HT.out).mono ?_
        rintro e w2 ⟨rfl, hb2⟩
        have HBW := Lib.hid (chain HBW.out hb2)
        have HT := Lib.hid (HT.out.below hb2)
        clear hb2
        go_wp2_with fail
        with_reducible refine (C2 _ HT.out).mono ?_
        rintro e w3 ⟨rfl, hb3⟩
        have HBW := Lib.hid (chain HBW.out hb3)
        have HT := Lib.hid (HT.out.below hb3)
        clear hb3
        go_wp2_with fail
        with_reducible refine (C3 _ HT.out).mono ?_
        rintro e w4 ⟨rfl, hb4⟩
        have HBW := Lib.hid (chain HBW.out hb4)
        have HT := Lib.hid (HT.out.below hb4)
        clear hb4
        go_wp2_with fail
        go_ret
        exact ⟨by first | rfl | (simp; done) | (simp; omega), HBW.out⟩
      · have e3 : decide ((0 : Int) < (a : Int)) = false := by simp; omega
        obtain rfl : a = 0 := by omega
        rw [show ((0 : Nat) : Int) = 0 from rfl] at C1 C2 C3 C4
        rw [Int.zero_mul] at C2
        clear hac e3
        by_cases h4 : b = 0
        · have e4 : ((b : Int) == 0) = true := by rw [beq_iff_eq]; omega
          clear h2 h3 h4
          go_enter Tryd.func7, Tryd.ntmps7
          go_wp2_with fail
          with_reducible refine (awake5 _ HT.out).mono ?_
          rintro e w1 ⟨rfl, hb1⟩
          have HBW := Lib.hid hb1
          have HT := Lib.hid (HT.out.below hb1)
          clear hb1
          go_wp2_with fail
          with_reducible refine (C1 _ HT.out).mono ?_
          rintro e w2 ⟨rfl, hb2⟩
          have HBW := Lib.hid (chain HBW.out hb2)
          have HT := Lib.hid (HT.out.below hb2)
          clear hb2
          go_wp2_with fail
          with_reducible refine (C2 _ HT.out).mono ?_
          rintro e w3 ⟨rfl, hb3⟩
          have HBW := Lib.hid (chain HBW.out hb3)
          have HT := Lib.hid (HT.out.below hb3)
          clear hb3
          go_wp2_with fail
          with_reducible refine (C3 _ HT.out).mono ?_
          rintro e w4 ⟨rfl, hb4⟩
          have HBW := Lib.hid (chain HBW.out hb4)
          have HT := Lib.hid (HT.out.below hb4)
          clear hb4
          go_wp2_with fail
          go_ret
          exact ⟨by first | rfl | (simp; done) | (simp; omega), HBW.out⟩
        · have e4 : ((b : Int) == 0) = false := by rw [beq_eq_false_iff_ne]; omega
          obtain rfl := r3 (by omega)
          rw [decide_eq_true (by omega)] at C5
          clear h2 h3 h4
          go_enter Tryd.func7, Tryd.ntmps7
          go_wp2_with fail
          with_reducible refine (awake5 _ HT.out).mono ?_
          rintro e w1 ⟨rfl, hb1⟩
          have HBW := Lib.hid hb1
          have HT := Lib.hid (HT.out.below hb1)
          clear hb1
          go_wp2_with fail
          with_reducible refine (C1 _ HT.out).mono ?_
          rintro e w2 ⟨rfl, hb2⟩
          have HBW := Lib.hid (chain HBW.out hb2)
          have HT := Lib.hid (HT.out.below hb2)
          clear hb2
          go_wp2_with fail
          with_reducible refine (C2 _ HT.out).mono ?_
          rintro e w3 ⟨rfl, hb3⟩
          have HBW := Lib.hid (chain HBW.out hb3)
          have HT := Lib.hid (HT.out.below hb3)
          clear hb3
          go_wp2_with fail
          with_reducible refine (C3 _ HT.out).mono ?_
          rintro e w4 ⟨rfl, hb4⟩
          have HBW := Lib.hid (chain HBW.out hb4)
          have HT := Lib.hid (HT.out.below hb4)
          clear hb4
          go_wp2_with fail
          with_reducible refine (C5 _ HT.out).mono ?_
          rintro e w5 ⟨rfl, hb5⟩
          have HBW := Lib.hid (chain HBW.out hb5)
          have HT := Lib.hid (HT.out.below hb5)
          clear hb5
          go_wp2_with fail
          go_ret
          exact ⟨by first | rfl | (simp; done) | (simp; omega), HBW.out⟩
end Go.Proofs.Tryd
