/- HeapSets: a case. -/
import Derived.Test.YtgkiijpheigpjaaStp
namespace Go.Proofs.Try
open Go.RowKit
set_option linter.unusedVariables false
set_option linter.unusedSimpArgs false
set_option maxRecDepth 100000 in
set_option maxHeartbeats 4000000 in
theorem sets_low (A : Option Addr) (n cc : Nat) (steps : List Stp) (x0 x1 x2 z : Int) (hx : x0 < 0) (hn : n ≤ 100) (w : World) (hs : Sees w 4 A n (flat encS steps)) :
    Calls Try.prog 6 #[.slice A n cc, .agg #[.int .i64 x0, .int .u64 x1, .int .u64 x2], .int .i64 z] w fun e w' => e = .returned (.bool true) ∧ Below w.heap.size w w' := by
  have HA := Lib.hid hs
  have TX0 := Lib.hid (tri.new w (.int .i64 x0) (.int .u64 x1) (.int .u64 x2) 25)
  have HBW0 := Lib.hid (chain1 (Below.refl w.heap.size w) (.cells #[.int .i64 x0, .int .u64 x1, .int .u64 x2] 25))
  have qn : decide (100 < (n : Int)) = false := by simp; omega
  clear hs
  go_enter Try.func6, Try.ntmps6
  go_wp2_with fail
  refine (awake14 _).mono ?_
  rintro e w1 ⟨rfl, hb1⟩
  replace HBW0 := Lib.hid (chain HBW0.out hb1)
  replace TX0 := Lib.hid (TX0.out.below hb1)
  clear hb1
  go_wp2_with fail
  go_loopw [8, 9] (fun v i wr => ∃ (k : Nat) (l : List It), k ≤ n ∧ i = .int .i64 k ∧ Hid (chkI l) ∧ Hid (Rows encI 3 wr v l.length l) ∧ Hid (Below w.heap.size w wr) ∧ Hid (tri wr w.heap.size (.int .i64 x0) (.int .u64 x1) (.int .u64 x2))) (fun _ i _ => n - (intOf i).toNat)
  case atStart => exact ⟨0, [], by omega, rfl, Lib.hid chk_nil, Lib.hid (Rows.nil _ _ _), HBW0, TX0⟩
  case round =>
    obtain ⟨k, l, hk, rfl, HC, HR, HBW, TX⟩ := hrel
    clear HBW0 TX0
    have hl64 := chk_le HC.out
    by_cases hlt : k < n
    · obtain ⟨bA, oA, d, y0, y1, y2, rfl, s0, s1, s2, s3, hbA, _⟩ := steps_at HA.out HBW.out hlt
      have hlt' : (k : Int) < (n : Int) := by omega
      have DO := fun W h => do14_c u8 l.length l d y0 y1 y2 (by omega) W h
      go_wp2_with fail
      refine (DO _ HR.out).mono ?_
      rintro e w2 ⟨v2, l2, E2, rfl, hP, hR, hb2⟩
      have HC2 := Lib.hid (step_chk hP HC.out)
      have HR2 := Lib.hid hR
      have HBW2 := Lib.hid (chain HBW.out hb2)
      have TX2 := Lib.hid (TX.out.below hb2)
      clear hP hR hb2 DO s0 s1 s2 s3
      go_wp2_with fail
      go_roundw
      case rel => exact ⟨k + 1, l2, by omega, by go_num, HC2, HR2, HBW2, TX2⟩
      case measure => first | (simp [intOf]; done) | (simp [intOf]; omega)
    · have hge : decide (k < n) = false := by simp; omega
      have hge' : decide ((k : Int) < (n : Int)) = false := by simp; omega
      obtain ⟨V, hV⟩ : ∃ V, V = wr := ⟨_, rfl⟩
      subst hV
      obtain ⟨c0_TX, c1_TX, c2_TX, cl_TX⟩ := TX.out
      go_wp2_with fail
      refine (set_c u8 l.length l x0 x1 x2 (by omega) _ HR.out).mono ?_
      rintro e w3 ⟨v3, l3, E3, rfl, hP3, hR3, hb3⟩
      clear c0_TX c1_TX c2_TX cl_TX
      replace HBW := Lib.hid (chain HBW.out hb3)
      replace HR := Lib.hid (HR.out.below hb3)
      replace TX := Lib.hid (TX.out.below hb3)
      obtain ⟨c0_TX, c1_TX, c2_TX, cl_TX⟩ := TX.out
      obtain ⟨rfl, he3⟩ := set_out hP3 HC.out (by simp; omega)
      rw [he3] at hR3
      have HRR := Lib.hid hR3
      have HN := Lib.hid (show hasI l x0 = false by
        rw [Bool.eq_false_iff]
        intro h
        obtain ⟨y, hy, e⟩ := (hasI_iff l x0).1 h
        have := HC.out.1 y hy
        omega)
      clear hP3 hR3 he3
      clear hb3
      go_wp2_with fail
      refine (findh_c v3 l.length l x0 (by omega) _ HRR.out).mono ?_
      rintro e w4 ⟨i4, p4, q4, b4, rfl, hP4, hb4⟩
      clear c0_TX c1_TX c2_TX cl_TX
      replace HBW := Lib.hid (chain HBW.out hb4)
      replace HR := Lib.hid (HR.out.below hb4)
      replace HRR := Lib.hid (HRR.out.below hb4)
      replace TX := Lib.hid (TX.out.below hb4)
      obtain ⟨c0_TX, c1_TX, c2_TX, cl_TX⟩ := TX.out
      obtain ⟨hx4, rfl⟩ := find_no hP4 (fun h => by have := h.2; rw [HN.out] at this; exact absurd this (by simp))
      simp only [Prod.mk.injEq] at hx4
      obtain ⟨rfl, rfl, rfl⟩ := hx4
      clear hP4
      clear hb4
      clear c0_TX c1_TX c2_TX cl_TX
      replace HBW := Lib.hid (chain1 HBW.out (.cells #[.int .i64 0, .int .u64 0, .int .u64 0] 25))
      replace HR := Lib.hid (HR.out.below ((Below.refl _ _).alloc (Nat.le_refl _) (.cells #[.int .i64 0, .int .u64 0, .int .u64 0] 25)))
      replace HRR := Lib.hid (HRR.out.below ((Below.refl _ _).alloc (Nat.le_refl _) (.cells #[.int .i64 0, .int .u64 0, .int .u64 0] 25)))
      replace TX := Lib.hid (TX.out.below ((Below.refl _ _).alloc (Nat.le_refl _) (.cells #[.int .i64 0, .int .u64 0, .int .u64 0] 25)))
      obtain ⟨c0_TX, c1_TX, c2_TX, cl_TX⟩ := TX.out
      go_wp2_with fail
      refine (findh_c u8 l.length l z (by omega) _ HR.out).mono ?_
      rintro e w5 ⟨i5, p5, q5, b5, rfl, hP5, hb5⟩
      clear c0_TX c1_TX c2_TX cl_TX
      replace HBW := Lib.hid (chain HBW.out hb5)
      replace HR := Lib.hid (HR.out.below hb5)
      replace HRR := Lib.hid (HRR.out.below hb5)
      replace TX := Lib.hid (TX.out.below hb5)
      obtain ⟨c0_TX, c1_TX, c2_TX, cl_TX⟩ := TX.out
      clear hP5
      clear hb5
      clear c0_TX c1_TX c2_TX cl_TX
      replace HBW := Lib.hid (chain1 HBW.out (.cells #[.int .i64 i5, .int .u64 p5, .int .u64 q5] 25))
      replace HR := Lib.hid (HR.out.below ((Below.refl _ _).alloc (Nat.le_refl _) (.cells #[.int .i64 i5, .int .u64 p5, .int .u64 q5] 25)))
      replace HRR := Lib.hid (HRR.out.below ((Below.refl _ _).alloc (Nat.le_refl _) (.cells #[.int .i64 i5, .int .u64 p5, .int .u64 q5] 25)))
      replace TX := Lib.hid (TX.out.below ((Below.refl _ _).alloc (Nat.le_refl _) (.cells #[.int .i64 i5, .int .u64 p5, .int .u64 q5] 25)))
      obtain ⟨c0_TX, c1_TX, c2_TX, cl_TX⟩ := TX.out
      go_wp2_with fail
      refine (findh_c v3 l.length l z (by omega) _ HRR.out).mono ?_
      rintro e w6 ⟨i6, p6, q6, b6, rfl, hP6, hb6⟩
      clear c0_TX c1_TX c2_TX cl_TX
      replace HBW := Lib.hid (chain HBW.out hb6)
      replace HR := Lib.hid (HR.out.below hb6)
      replace HRR := Lib.hid (HRR.out.below hb6)
      replace TX := Lib.hid (TX.out.below hb6)
      obtain ⟨c0_TX, c1_TX, c2_TX, cl_TX⟩ := TX.out
      clear hP6
      clear hb6
      clear c0_TX c1_TX c2_TX cl_TX
      replace HBW := Lib.hid (chain1 HBW.out (.cells #[.int .i64 i6, .int .u64 p6, .int .u64 q6] 25))
      replace HR := Lib.hid (HR.out.below ((Below.refl _ _).alloc (Nat.le_refl _) (.cells #[.int .i64 i6, .int .u64 p6, .int .u64 q6] 25)))
      replace HRR := Lib.hid (HRR.out.below ((Below.refl _ _).alloc (Nat.le_refl _) (.cells #[.int .i64 i6, .int .u64 p6, .int .u64 q6] 25)))
      replace TX := Lib.hid (TX.out.below ((Below.refl _ _).alloc (Nat.le_refl _) (.cells #[.int .i64 i6, .int .u64 p6, .int .u64 q6] 25)))
      obtain ⟨c0_TX, c1_TX, c2_TX, cl_TX⟩ := TX.out
      go_wp2_with fail
      go_ret
      exact ⟨by first | rfl | (simp; done), HBW.out⟩
end Go.Proofs.Try
