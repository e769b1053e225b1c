/- HeapSets: a case. -/
import Derived.Test.YtgkiijpheigpjaaStp
namespace Go.Proofs.Try
open Go.RowKit
set_option linter.unusedVariables false
set_option linter.unusedSimpArgs false
set_option maxRecDepth 100000 in
set_option maxHeartbeats 4000000 in
theorem sets_else (A : Option Addr) (n cc : Nat) (steps : List Stp) (x0 x1 x2 z : Int) (hx : 0 ≤ x0 ∧ x0 < 64) (hz : z ≠ x0) (hn : n ≤ 100) (w : World) (hs : Sees w 4 A n (flat encS steps)) :
    Calls Try.prog 6 #[.slice A n cc, .agg #[.int .i64 x0, .int .u64 x1, .int .u64 x2], .int .i64 z] w fun e w' => e = .returned (.bool true) ∧ Below w.heap.size w w' := by
  have HNE := Lib.hid hz
  have hzb : (z == x0) = false := by rw [beq_eq_false_iff_ne]; exact hz
  clear hz
  have HA := Lib.hid hs
  have TX0 := Lib.hid (tri.new w (.int .i64 x0) (.int .u64 x1) (.int .u64 x2) 25)
  have HBW0 := Lib.hid (chain1 (Below.refl w.heap.size w) (.cells #[.int .i64 x0, .int .u64 x1, .int .u64 x2] 25))
  have qn : decide (100 < (n : Int)) = false := by simp; omega
  clear hs
  go_enter Try.func6, Try.ntmps6
  go_wp2_with fail
  refine (awake14 _).mono ?_
  rintro e w1 ⟨rfl, hb1⟩
  replace HBW0 := Lib.hid (chain HBW0.out hb1)
  replace TX0 := Lib.hid (TX0.out.below hb1)
  clear hb1
  go_wp2_with fail
  go_loopw [8, 9] (fun v i wr => ∃ (k : Nat) (l : List It), k ≤ n ∧ i = .int .i64 k ∧ Hid (chkI l) ∧ Hid (Rows encI 3 wr v l.length l) ∧ Hid (Below w.heap.size w wr) ∧ Hid (tri wr w.heap.size (.int .i64 x0) (.int .u64 x1) (.int .u64 x2))) (fun _ i _ => n - (intOf i).toNat)
  case atStart => exact ⟨0, [], by omega, rfl, Lib.hid chk_nil, Lib.hid (Rows.nil _ _ _), HBW0, TX0⟩
  case round =>
    obtain ⟨k, l, hk, rfl, HC, HR, HBW, TX⟩ := hrel
    clear HBW0 TX0
    have hl64 := chk_le HC.out
    by_cases hlt : k < n
    · obtain ⟨bA, oA, d, y0, y1, y2, rfl, s0, s1, s2, s3, hbA, _⟩ := steps_at HA.out HBW.out hlt
      have hlt' : (k : Int) < (n : Int) := by omega
      have DO := fun W h => do14_c u8 l.length l d y0 y1 y2 (by omega) W h
      go_wp2_with fail
      refine (DO _ HR.out).mono ?_
      rintro e w2 ⟨v2, l2, E2, rfl, hP, hR, hb2⟩
      have HC2 := Lib.hid (step_chk hP HC.out)
      have HR2 := Lib.hid hR
      have HBW2 := Lib.hid (chain HBW.out hb2)
      have TX2 := Lib.hid (TX.out.below hb2)
      clear hP hR hb2 DO s0 s1 s2 s3
      go_wp2_with fail
      go_roundw
      case rel => exact ⟨k + 1, l2, by omega, by go_num, HC2, HR2, HBW2, TX2⟩
      case measure => first | (simp [intOf]; done) | (simp [intOf]; omega)
    · have hge : decide (k < n) = false := by simp; omega
      have hge' : decide ((k : Int) < (n : Int)) = false := by simp; omega
      obtain ⟨V, hV⟩ : ∃ V, V = wr := ⟨_, rfl⟩
      subst hV
      by_cases hh : hasI l z = true
      · obtain ⟨y, hy, hyz⟩ := (hasI_iff l z).1 hh
        have HY := Lib.hid hy
        have HZ := Lib.hid hyz
        clear hh hy hyz
        obtain ⟨c0_TX, c1_TX, c2_TX, cl_TX⟩ := TX.out
        go_wp2_with fail
        refine (set_c u8 l.length l x0 x1 x2 (by omega) _ HR.out).mono ?_
        rintro e w3 ⟨v3, l3, E3, rfl, hP3, hR3, hb3⟩
        clear c0_TX c1_TX c2_TX cl_TX
        replace HBW := Lib.hid (chain HBW.out hb3)
        replace HR := Lib.hid (HR.out.below hb3)
        replace TX := Lib.hid (TX.out.below hb3)
        obtain ⟨c0_TX, c1_TX, c2_TX, cl_TX⟩ := TX.out
        obtain ⟨rfl, hc3, hp3⟩ := set_yes hP3 HC.out hx
        have HC3 := Lib.hid hc3
        have HP3 := Lib.hid hp3
        have HR3 := Lib.hid hR3
        have hl3 := chk_le hc3
        have hln : (l3.length : Int) - (l.length : Int) ≤ 1 := by
          have h1 := (show l3.Perm ((x0, x1, x2) :: wo l x0) from hp3).length_eq
          have h2 := wo_len l x0
          rw [List.length_cons] at h1
          omega
        clear hP3 hR3 hc3 hp3
        clear hb3
        go_wp2_with fail
        refine (findh_c v3 l3.length l3 x0 (by omega) _ HR3.out).mono ?_
        rintro e w4 ⟨i4, p4, q4, b4, rfl, hP4, hb4⟩
        clear c0_TX c1_TX c2_TX cl_TX
        replace HBW := Lib.hid (chain HBW.out hb4)
        replace HR := Lib.hid (HR.out.below hb4)
        replace HR3 := Lib.hid (HR3.out.below hb4)
        replace TX := Lib.hid (TX.out.below hb4)
        obtain ⟨c0_TX, c1_TX, c2_TX, cl_TX⟩ := TX.out
        obtain ⟨hx4, rfl⟩ := find_yes hP4 HC3.out (y := (x0, x1, x2)) (HP3.out.mem_iff.2 (List.mem_cons_self ..)) rfl
        simp only [Prod.mk.injEq] at hx4
        obtain ⟨rfl, rfl, rfl⟩ := hx4
        clear hP4
        clear hb4
        clear c0_TX c1_TX c2_TX cl_TX
        have TY := Lib.hid (tri.new w4 (.int .i64 i4) (.int .u64 p4) (.int .u64 q4) 25)
        replace HBW := Lib.hid (chain1 HBW.out (.cells #[.int .i64 i4, .int .u64 p4, .int .u64 q4] 25))
        replace HR := Lib.hid (HR.out.below ((Below.refl _ _).alloc (Nat.le_refl _) (.cells #[.int .i64 i4, .int .u64 p4, .int .u64 q4] 25)))
        replace HR3 := Lib.hid (HR3.out.below ((Below.refl _ _).alloc (Nat.le_refl _) (.cells #[.int .i64 i4, .int .u64 p4, .int .u64 q4] 25)))
        replace TX := Lib.hid (TX.out.below ((Below.refl _ _).alloc (Nat.le_refl _) (.cells #[.int .i64 i4, .int .u64 p4, .int .u64 q4] 25)))
        obtain ⟨c0_TX, c1_TX, c2_TX, cl_TX⟩ := TX.out
        clear c0_TX c1_TX c2_TX cl_TX
        obtain ⟨c0_TX, c1_TX, c2_TX, cl_TX⟩ := TX.out
        obtain ⟨c0_TY, c1_TY, c2_TY, cl_TY⟩ := TY.out
        go_wp2_with fail
        obtain ⟨A3, c3, rfl, _⟩ := HR3.out
        obtain ⟨A8, c8, rfl, _⟩ := HR.out
        refine (findh_c _ l.length l z (by omega) _ HR.out).mono ?_
        rintro e w5 ⟨i5, p5, q5, b5, rfl, hP5, hb5⟩
        clear c0_TX c1_TX c2_TX cl_TX
        clear c0_TY c1_TY c2_TY cl_TY
        replace HBW := Lib.hid (chain HBW.out hb5)
        replace HR := Lib.hid (HR.out.below hb5)
        replace HR3 := Lib.hid (HR3.out.below hb5)
        replace TX := Lib.hid (TX.out.below hb5)
        replace TY := Lib.hid (TY.out.below hb5)
        obtain ⟨c0_TX, c1_TX, c2_TX, cl_TX⟩ := TX.out
        obtain ⟨c0_TY, c1_TY, c2_TY, cl_TY⟩ := TY.out
        obtain ⟨hx5, rfl⟩ := find_yes hP5 HC.out (y := y) HY.out HZ.out
        clear hP5
        clear hb5
        clear c0_TX c1_TX c2_TX cl_TX
        clear c0_TY c1_TY c2_TY cl_TY
        have TA := Lib.hid (tri.new w5 (.int .i64 i5) (.int .u64 p5) (.int .u64 q5) 25)
        replace HBW := Lib.hid (chain1 HBW.out (.cells #[.int .i64 i5, .int .u64 p5, .int .u64 q5] 25))
        replace HR := Lib.hid (HR.out.below ((Below.refl _ _).alloc (Nat.le_refl _) (.cells #[.int .i64 i5, .int .u64 p5, .int .u64 q5] 25)))
        replace HR3 := Lib.hid (HR3.out.below ((Below.refl _ _).alloc (Nat.le_refl _) (.cells #[.int .i64 i5, .int .u64 p5, .int .u64 q5] 25)))
        replace TX := Lib.hid (TX.out.below ((Below.refl _ _).alloc (Nat.le_refl _) (.cells #[.int .i64 i5, .int .u64 p5, .int .u64 q5] 25)))
        replace TY := Lib.hid (TY.out.below ((Below.refl _ _).alloc (Nat.le_refl _) (.cells #[.int .i64 i5, .int .u64 p5, .int .u64 q5] 25)))
        obtain ⟨c0_TX, c1_TX, c2_TX, cl_TX⟩ := TX.out
        obtain ⟨c0_TY, c1_TY, c2_TY, cl_TY⟩ := TY.out
        clear c0_TX c1_TX c2_TX cl_TX
        clear c0_TY c1_TY c2_TY cl_TY
        obtain ⟨c0_TX, c1_TX, c2_TX, cl_TX⟩ := TX.out
        obtain ⟨c0_TY, c1_TY, c2_TY, cl_TY⟩ := TY.out
        obtain ⟨c0_TA, c1_TA, c2_TA, cl_TA⟩ := TA.out
        go_wp2_with fail
        refine (findh_c _ l3.length l3 z (by omega) _ HR3.out).mono ?_
        rintro e w6 ⟨i6, p6, q6, b6, rfl, hP6, hb6⟩
        clear c0_TX c1_TX c2_TX cl_TX
        clear c0_TY c1_TY c2_TY cl_TY
        clear c0_TA c1_TA c2_TA cl_TA
        replace HBW := Lib.hid (chain HBW.out hb6)
        replace HR := Lib.hid (HR.out.below hb6)
        replace HR3 := Lib.hid (HR3.out.below hb6)
        replace TX := Lib.hid (TX.out.below hb6)
        replace TY := Lib.hid (TY.out.below hb6)
        replace TA := Lib.hid (TA.out.below hb6)
        obtain ⟨c0_TX, c1_TX, c2_TX, cl_TX⟩ := TX.out
        obtain ⟨c0_TY, c1_TY, c2_TY, cl_TY⟩ := TY.out
        obtain ⟨c0_TA, c1_TA, c2_TA, cl_TA⟩ := TA.out
        obtain ⟨hx6, rfl⟩ := find_yes hP6 HC3.out (y := y) (HP3.out.mem_iff.2 (List.mem_cons_of_mem _ (wo_mem.2 ⟨HY.out, by rw [HZ.out]; exact HNE.out⟩))) HZ.out
        rw [← hx5] at hx6
        simp only [Prod.mk.injEq] at hx6
        obtain ⟨rfl, rfl, rfl⟩ := hx6
        clear hP6 hx5
        clear hb6
        clear c0_TX c1_TX c2_TX cl_TX
        clear c0_TY c1_TY c2_TY cl_TY
        clear c0_TA c1_TA c2_TA cl_TA
        have TB := Lib.hid (tri.new w6 (.int .i64 i6) (.int .u64 p6) (.int .u64 q6) 25)
        replace HBW := Lib.hid (chain1 HBW.out (.cells #[.int .i64 i6, .int .u64 p6, .int .u64 q6] 25))
        replace HR := Lib.hid (HR.out.below ((Below.refl _ _).alloc (Nat.le_refl _) (.cells #[.int .i64 i6, .int .u64 p6, .int .u64 q6] 25)))
        replace HR3 := Lib.hid (HR3.out.below ((Below.refl _ _).alloc (Nat.le_refl _) (.cells #[.int .i64 i6, .int .u64 p6, .int .u64 q6] 25)))
        replace TX := Lib.hid (TX.out.below ((Below.refl _ _).alloc (Nat.le_refl _) (.cells #[.int .i64 i6, .int .u64 p6, .int .u64 q6] 25)))
        replace TY := Lib.hid (TY.out.below ((Below.refl _ _).alloc (Nat.le_refl _) (.cells #[.int .i64 i6, .int .u64 p6, .int .u64 q6] 25)))
        replace TA := Lib.hid (TA.out.below ((Below.refl _ _).alloc (Nat.le_refl _) (.cells #[.int .i64 i6, .int .u64 p6, .int .u64 q6] 25)))
        obtain ⟨c0_TX, c1_TX, c2_TX, cl_TX⟩ := TX.out
        obtain ⟨c0_TY, c1_TY, c2_TY, cl_TY⟩ := TY.out
        obtain ⟨c0_TA, c1_TA, c2_TA, cl_TA⟩ := TA.out
        clear c0_TX c1_TX c2_TX cl_TX
        clear c0_TY c1_TY c2_TY cl_TY
        clear c0_TA c1_TA c2_TA cl_TA
        obtain ⟨c0_TX, c1_TX, c2_TX, cl_TX⟩ := TX.out
        obtain ⟨c0_TY, c1_TY, c2_TY, cl_TY⟩ := TY.out
        obtain ⟨c0_TA, c1_TA, c2_TA, cl_TA⟩ := TA.out
        obtain ⟨c0_TB, c1_TB, c2_TB, cl_TB⟩ := TB.out
        go_wp2_with fail
        go_ret
        exact ⟨by first | rfl | (simp; done), HBW.out⟩
      · have HNZ := Lib.hid (show hasI l z = false by simpa using hh)
        clear hh
        obtain ⟨c0_TX, c1_TX, c2_TX, cl_TX⟩ := TX.out
        go_wp2_with fail
        refine (set_c u8 l.length l x0 x1 x2 (by omega) _ HR.out).mono ?_
        rintro e w3 ⟨v3, l3, E3, rfl, hP3, hR3, hb3⟩
        clear c0_TX c1_TX c2_TX cl_TX
        replace HBW := Lib.hid (chain HBW.out hb3)
        replace HR := Lib.hid (HR.out.below hb3)
        replace TX := Lib.hid (TX.out.below hb3)
        obtain ⟨c0_TX, c1_TX, c2_TX, cl_TX⟩ := TX.out
        obtain ⟨rfl, hc3, hp3⟩ := set_yes hP3 HC.out hx
        have HC3 := Lib.hid hc3
        have HP3 := Lib.hid hp3
        have HR3 := Lib.hid hR3
        have hl3 := chk_le hc3
        have hln : (l3.length : Int) - (l.length : Int) ≤ 1 := by
          have h1 := (show l3.Perm ((x0, x1, x2) :: wo l x0) from hp3).length_eq
          have h2 := wo_len l x0
          rw [List.length_cons] at h1
          omega
        clear hP3 hR3 hc3 hp3
        clear hb3
        go_wp2_with fail
        refine (findh_c v3 l3.length l3 x0 (by omega) _ HR3.out).mono ?_
        rintro e w4 ⟨i4, p4, q4, b4, rfl, hP4, hb4⟩
        clear c0_TX c1_TX c2_TX cl_TX
        replace HBW := Lib.hid (chain HBW.out hb4)
        replace HR := Lib.hid (HR.out.below hb4)
        replace HR3 := Lib.hid (HR3.out.below hb4)
        replace TX := Lib.hid (TX.out.below hb4)
        obtain ⟨c0_TX, c1_TX, c2_TX, cl_TX⟩ := TX.out
        obtain ⟨hx4, rfl⟩ := find_yes hP4 HC3.out (y := (x0, x1, x2)) (HP3.out.mem_iff.2 (List.mem_cons_self ..)) rfl
        simp only [Prod.mk.injEq] at hx4
        obtain ⟨rfl, rfl, rfl⟩ := hx4
        clear hP4
        clear hb4
        clear c0_TX c1_TX c2_TX cl_TX
        have TY := Lib.hid (tri.new w4 (.int .i64 i4) (.int .u64 p4) (.int .u64 q4) 25)
        replace HBW := Lib.hid (chain1 HBW.out (.cells #[.int .i64 i4, .int .u64 p4, .int .u64 q4] 25))
        replace HR := Lib.hid (HR.out.below ((Below.refl _ _).alloc (Nat.le_refl _) (.cells #[.int .i64 i4, .int .u64 p4, .int .u64 q4] 25)))
        replace HR3 := Lib.hid (HR3.out.below ((Below.refl _ _).alloc (Nat.le_refl _) (.cells #[.int .i64 i4, .int .u64 p4, .int .u64 q4] 25)))
        replace TX := Lib.hid (TX.out.below ((Below.refl _ _).alloc (Nat.le_refl _) (.cells #[.int .i64 i4, .int .u64 p4, .int .u64 q4] 25)))
        obtain ⟨c0_TX, c1_TX, c2_TX, cl_TX⟩ := TX.out
        clear c0_TX c1_TX c2_TX cl_TX
        obtain ⟨c0_TX, c1_TX, c2_TX, cl_TX⟩ := TX.out
        obtain ⟨c0_TY, c1_TY, c2_TY, cl_TY⟩ := TY.out
        go_wp2_with fail
        obtain ⟨A3, c3, rfl, _⟩ := HR3.out
        obtain ⟨A8, c8, rfl, _⟩ := HR.out
        refine (findh_c _ l.length l z (by omega) _ HR.out).mono ?_
        rintro e w5 ⟨i5, p5, q5, b5, rfl, hP5, hb5⟩
        clear c0_TX c1_TX c2_TX cl_TX
        clear c0_TY c1_TY c2_TY cl_TY
        replace HBW := Lib.hid (chain HBW.out hb5)
        replace HR := Lib.hid (HR.out.below hb5)
        replace HR3 := Lib.hid (HR3.out.below hb5)
        replace TX := Lib.hid (TX.out.below hb5)
        replace TY := Lib.hid (TY.out.below hb5)
        obtain ⟨c0_TX, c1_TX, c2_TX, cl_TX⟩ := TX.out
        obtain ⟨c0_TY, c1_TY, c2_TY, cl_TY⟩ := TY.out
        obtain ⟨hx5, rfl⟩ := find_no hP5 (fun h => by have := h.2; rw [HNZ.out] at this; exact absurd this (by simp))
        clear hP5
        clear hb5
        clear c0_TX c1_TX c2_TX cl_TX
        clear c0_TY c1_TY c2_TY cl_TY
        have TA := Lib.hid (tri.new w5 (.int .i64 i5) (.int .u64 p5) (.int .u64 q5) 25)
        replace HBW := Lib.hid (chain1 HBW.out (.cells #[.int .i64 i5, .int .u64 p5, .int .u64 q5] 25))
        replace HR := Lib.hid (HR.out.below ((Below.refl _ _).alloc (Nat.le_refl _) (.cells #[.int .i64 i5, .int .u64 p5, .int .u64 q5] 25)))
        replace HR3 := Lib.hid (HR3.out.below ((Below.refl _ _).alloc (Nat.le_refl _) (.cells #[.int .i64 i5, .int .u64 p5, .int .u64 q5] 25)))
        replace TX := Lib.hid (TX.out.below ((Below.refl _ _).alloc (Nat.le_refl _) (.cells #[.int .i64 i5, .int .u64 p5, .int .u64 q5] 25)))
        replace TY := Lib.hid (TY.out.below ((Below.refl _ _).alloc (Nat.le_refl _) (.cells #[.int .i64 i5, .int .u64 p5, .int .u64 q5] 25)))
        obtain ⟨c0_TX, c1_TX, c2_TX, cl_TX⟩ := TX.out
        obtain ⟨c0_TY, c1_TY, c2_TY, cl_TY⟩ := TY.out
        clear c0_TX c1_TX c2_TX cl_TX
        clear c0_TY c1_TY c2_TY cl_TY
        obtain ⟨c0_TX, c1_TX, c2_TX, cl_TX⟩ := TX.out
        obtain ⟨c0_TY, c1_TY, c2_TY, cl_TY⟩ := TY.out
        obtain ⟨c0_TA, c1_TA, c2_TA, cl_TA⟩ := TA.out
        go_wp2_with fail
        refine (findh_c _ l3.length l3 z (by omega) _ HR3.out).mono ?_
        rintro e w6 ⟨i6, p6, q6, b6, rfl, hP6, hb6⟩
        clear c0_TX c1_TX c2_TX cl_TX
        clear c0_TY c1_TY c2_TY cl_TY
        clear c0_TA c1_TA c2_TA cl_TA
        replace HBW := Lib.hid (chain HBW.out hb6)
        replace HR := Lib.hid (HR.out.below hb6)
        replace HR3 := Lib.hid (HR3.out.below hb6)
        replace TX := Lib.hid (TX.out.below hb6)
        replace TY := Lib.hid (TY.out.below hb6)
        replace TA := Lib.hid (TA.out.below hb6)
        obtain ⟨c0_TX, c1_TX, c2_TX, cl_TX⟩ := TX.out
        obtain ⟨c0_TY, c1_TY, c2_TY, cl_TY⟩ := TY.out
        obtain ⟨c0_TA, c1_TA, c2_TA, cl_TA⟩ := TA.out
        obtain ⟨hx6, rfl⟩ := find_no hP6 (fun h => by
          obtain ⟨y, hy, e⟩ := (hasI_iff _ z).1 h.2
          have := HP3.out.mem_iff.1 hy
          rw [List.mem_cons] at this
          rcases this with h1 | h1
          · rw [h1] at e; exact HNE.out e.symm
          · have h2 := (hasI_iff l z).2 ⟨y, (wo_mem.1 h1).1, e⟩
            rw [HNZ.out] at h2
            cases h2)
        rw [← hx5] at hx6
        simp only [Prod.mk.injEq] at hx6
        obtain ⟨rfl, rfl, rfl⟩ := hx6
        clear hP6 hx5
        clear hb6
        clear c0_TX c1_TX c2_TX cl_TX
        clear c0_TY c1_TY c2_TY cl_TY
        clear c0_TA c1_TA c2_TA cl_TA
        have TB := Lib.hid (tri.new w6 (.int .i64 i6) (.int .u64 p6) (.int .u64 q6) 25)
        replace HBW := Lib.hid (chain1 HBW.out (.cells #[.int .i64 i6, .int .u64 p6, .int .u64 q6] 25))
        replace HR := Lib.hid (HR.out.below ((Below.refl _ _).alloc (Nat.le_refl _) (.cells #[.int .i64 i6, .int .u64 p6, .int .u64 q6] 25)))
        replace HR3 := Lib.hid (HR3.out.below ((Below.refl _ _).alloc (Nat.le_refl _) (.cells #[.int .i64 i6, .int .u64 p6, .int .u64 q6] 25)))
        replace TX := Lib.hid (TX.out.below ((Below.refl _ _).alloc (Nat.le_refl _) (.cells #[.int .i64 i6, .int .u64 p6, .int .u64 q6] 25)))
        replace TY := Lib.hid (TY.out.below ((Below.refl _ _).alloc (Nat.le_refl _) (.cells #[.int .i64 i6, .int .u64 p6, .int .u64 q6] 25)))
        replace TA := Lib.hid (TA.out.below ((Below.refl _ _).alloc (Nat.le_refl _) (.cells #[.int .i64 i6, .int .u64 p6, .int .u64 q6] 25)))
        obtain ⟨c0_TX, c1_TX, c2_TX, cl_TX⟩ := TX.out
        obtain ⟨c0_TY, c1_TY, c2_TY, cl_TY⟩ := TY.out
        obtain ⟨c0_TA, c1_TA, c2_TA, cl_TA⟩ := TA.out
        clear c0_TX c1_TX c2_TX cl_TX
        clear c0_TY c1_TY c2_TY cl_TY
        clear c0_TA c1_TA c2_TA cl_TA
        obtain ⟨c0_TX, c1_TX, c2_TX, cl_TX⟩ := TX.out
        obtain ⟨c0_TY, c1_TY, c2_TY, cl_TY⟩ := TY.out
        obtain ⟨c0_TA, c1_TA, c2_TA, cl_TA⟩ := TA.out
        obtain ⟨c0_TB, c1_TB, c2_TB, cl_TB⟩ := TB.out
        go_wp2_with fail
        go_ret
        exact ⟨by first | rfl | (simp; done), HBW.out⟩
end Go.Proofs.Try
