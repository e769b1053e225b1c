/- The walk of HeapSteps. -/
import Derived.Test.YtgkiijpheigpjaaStp
import Derived.Test.YtgkiijpheigpjaaHr5
namespace Go.Proofs.Try
open Go.RowKit
set_option linter.unusedVariables false
set_option linter.unusedSimpArgs false
def celA (W : World) (b o : Nat) (v : Value) : Prop := W.cell? ⟨b, o, none⟩ = some v ∧ b < W.heap.size
theorem celA.below {W W' : World} {b o : Nat} {v : Value} (h : celA W b o v) (hb : Below W.heap.size W W') : celA W' b o v := ⟨(hb.cell (p := ⟨b, o, none⟩) h.2).trans h.1, Nat.lt_of_lt_of_le h.2 hb.size⟩
/-- The items of a heap, in order. -/
def ordP (l s : List It) : Prop := s.Perm l ∧ rises s
theorem ord_wo {l s l' : List It} {z : Int} (h : ordP l s) (hp : l'.Perm (wo l z)) : ordP l' (wo s z) := ⟨(wo_perm h.1 z).trans hp.symm, h.2.sublist List.filter_sublist⟩
theorem ord_with {l s l' : List It} {x : It} (h : ordP l s) (hp : l'.Perm (x :: wo l x.1)) : ordP l' (wI s x) := by
  have h1 := ord_wo h (List.Perm.refl (wo l x.1))
  refine ⟨(insI_perm _ _).trans ((h1.1.cons x).trans hp.symm), insI_rises h1.2 (fun y hy e => ?_)⟩
  have := (wo_mem.1 hy).2
  rw [e] at this
  exact this rfl
theorem ord_of {l s : List It} (hc : chkI l) (h : SortP l s) : ordP l s := by
  rcases h with ⟨h, _⟩ | ⟨_, h1, h2⟩
  · exact absurd hc h
  · exact ⟨h1, h2⟩
theorem ord_len {l s : List It} (h : ordP l s) : s.length = l.length := h.1.length_eq
set_option maxRecDepth 100000 in
set_option maxHeartbeats 8000000 in
theorem steps_big1 (A : Option Addr) (n c : Nat) (l : List It) (A2 : Option Addr) (n2 c2 : Nat) (steps : List Stp) (hn : 64 < n) (hcap : CapOk A n c) (hl : l.length = n) (w : World) (hs : Sees w 3 A n (flat encI l)) (hs2 : Sees w 4 A2 n2 (flat encS steps)) :
    Calls Try.prog 4 #[.slice A n c, .slice A2 n2 c2] w fun e w' => e = .returned (.bool true) ∧ Below w.heap.size w w' := by
  have qn : decide (64 < (n : Int)) = true := by simp; omega
  have qn' : (64 : Int) < (n : Int) := by omega
  clear hs hs2 hl hcap
  go_enter Try.func4, Try.ntmps4
  go_wp2_with fail
  refine (awake14 _).mono ?_
  rintro e w1 ⟨rfl, hb1⟩
  have HBW := Lib.hid (show Below w.heap.size w _ from hb1)
  clear hb1
  go_wp2_with fail
  go_ret
  exact ⟨by first | rfl | (simp; done), HBW.out⟩
set_option maxRecDepth 100000 in
set_option maxHeartbeats 8000000 in
theorem steps_big2 (A : Option Addr) (n c : Nat) (l : List It) (A2 : Option Addr) (n2 c2 : Nat) (steps : List Stp) (hn : n ≤ 64) (hm : 100 < n2) (hcap : CapOk A n c) (hl : l.length = n) (w : World) (hs : Sees w 3 A n (flat encI l)) (hs2 : Sees w 4 A2 n2 (flat encS steps)) :
    Calls Try.prog 4 #[.slice A n c, .slice A2 n2 c2] w fun e w' => e = .returned (.bool true) ∧ Below w.heap.size w w' := by
  have qn : decide (64 < (n : Int)) = false := by simp; omega
  have qm : decide (100 < (n2 : Int)) = true := by simp; omega
  have qm' : (100 : Int) < (n2 : Int) := by omega
  clear hs hs2 hl hcap
  go_enter Try.func4, Try.ntmps4
  go_wp2_with fail
  refine (awake14 _).mono ?_
  rintro e w1 ⟨rfl, hb1⟩
  have HBW := Lib.hid (show Below w.heap.size w _ from hb1)
  clear hb1
  go_wp2_with fail
  go_ret
  exact ⟨by first | rfl | (simp; done), HBW.out⟩
set_option maxRecDepth 100000 in
set_option maxHeartbeats 8000000 in
theorem steps_no (A : Option Addr) (n c : Nat) (l : List It) (A2 : Option Addr) (n2 c2 : Nat) (steps : List Stp) (hn : n ≤ 64) (hm : n2 ≤ 100) (hc : ¬chkI l) (hcap : CapOk A n c) (hl : l.length = n) (w : World) (hs : Sees w 3 A n (flat encI l)) (hs2 : Sees w 4 A2 n2 (flat encS steps)) :
    Calls Try.prog 4 #[.slice A n c, .slice A2 n2 c2] w fun e w' => e = .returned (.bool true) ∧ Below w.heap.size w w' := by
  have qn : decide (64 < (n : Int)) = false := by simp; omega
  have qm : decide (100 < (n2 : Int)) = false := by simp; omega
  have HS : Hid (Rows encI 3 w (.slice A n c) n l) := Lib.hid ⟨A, c, rfl, hcap, by omega, hl, hs⟩
  have HL := Lib.hid hl
  have HC := Lib.hid hc
  have CK := fun W h => checkh_c (.slice A n c) n l W h
  rw [decide_eq_false hc] at CK
  clear hs hs2 hl hcap hc
  go_enter Try.func4, Try.ntmps4
  go_wp2_with fail
  refine (awake14 _).mono ?_
  rintro e w1 ⟨rfl, hb1⟩
  have HBW := Lib.hid (show Below w.heap.size w _ from hb1)
  replace HS := Lib.hid (HS.out.below hb1)
  clear hb1
  go_wp2_with fail
  refine (CK _ HS.out).mono ?_
  rintro e w2 ⟨rfl, hb2⟩
  replace HBW := Lib.hid (chain HBW.out hb2)
  replace HS := Lib.hid (HS.out.below hb2)
  clear CK
  clear hb2
  go_wp2_with fail
  refine (set_c _ n l 0 0 0 (by omega) _ HS.out).mono ?_
  rintro e w3 ⟨v3, l3, E3, rfl, hP3, hR3, hb3⟩
  replace HBW := Lib.hid (chain HBW.out hb3)
  replace HS := Lib.hid (HS.out.below hb3)
  obtain ⟨rfl, he3⟩ := set_bad hP3 HC.out
  rw [he3] at hR3
  have HR3 := Lib.hid hR3
  clear hP3 hR3 he3
  clear hb3
  go_wp2_with fail
  refine (drop_c _ n l 0 (by omega) _ HS.out).mono ?_
  rintro e w4 ⟨v4, l4, E4, rfl, hP4, hR4, hb4⟩
  replace HBW := Lib.hid (chain HBW.out hb4)
  replace HS := Lib.hid (HS.out.below hb4)
  replace HR3 := Lib.hid (HR3.out.below hb4)
  obtain ⟨rfl, he4⟩ := drop_no hP4 (fun h => HC.out h.1)
  rw [he4] at hR4
  have HR4 := Lib.hid hR4
  clear hP4 hR4 he4
  clear hb4
  go_wp2_with fail
  have SM := fun v1 v2 W h1 h2 => sameI_c v1 v2 l.length n l l W h1 h2
  simp only [decide_true] at SM
  refine (SM _ _ _ HR3.out HS.out).mono ?_
  rintro e w5 ⟨rfl, hb5⟩
  replace HBW := Lib.hid (chain HBW.out hb5)
  replace HS := Lib.hid (HS.out.below hb5)
  replace HR3 := Lib.hid (HR3.out.below hb5)
  replace HR4 := Lib.hid (HR4.out.below hb5)
  clear hb5
  go_wp2_with fail
  refine (SM _ _ _ HR4.out HS.out).mono ?_
  rintro e w6 ⟨rfl, hb6⟩
  replace HBW := Lib.hid (chain HBW.out hb6)
  replace HS := Lib.hid (HS.out.below hb6)
  replace HR3 := Lib.hid (HR3.out.below hb6)
  replace HR4 := Lib.hid (HR4.out.below hb6)
  clear hb6
  go_wp2_with fail
  go_ret
  exact ⟨by first | rfl | (simp; done), HBW.out⟩
set_option maxRecDepth 100000 in
set_option maxHeartbeats 8000000 in
theorem steps_go (A : Option Addr) (n c : Nat) (l : List It) (A2 : Option Addr) (n2 c2 : Nat) (steps : List Stp) (hn : n ≤ 64) (hm : n2 ≤ 100) (hc : chkI l) (hcap : CapOk A n c) (hl : l.length = n) (w : World) (hs : Sees w 3 A n (flat encI l)) (hs2 : Sees w 4 A2 n2 (flat encS steps)) :
    Calls Try.prog 4 #[.slice A n c, .slice A2 n2 c2] w fun e w' => e = .returned (.bool true) ∧ Below w.heap.size w w' := by
  have qn : decide (64 < (n : Int)) = false := by simp; omega
  have qm : decide (100 < (n2 : Int)) = false := by simp; omega
  have HS : Hid (Rows encI 3 w (.slice A n c) n l) := Lib.hid ⟨A, c, rfl, hcap, by omega, hl, hs⟩
  have HL := Lib.hid hl
  have HC := Lib.hid hc
  have CK := fun W h => checkh_c (.slice A n c) n l W h
  rw [decide_eq_true hc] at CK
  have HA := Lib.hid hs2
  clear hs hs2 hl hcap hc
  go_enter Try.func4, Try.ntmps4
  go_wp2_with fail
  refine (awake14 _).mono ?_
  rintro e w1 ⟨rfl, hb1⟩
  have HBW := Lib.hid (show Below w.heap.size w _ from hb1)
  replace HS := Lib.hid (HS.out.below hb1)
  clear hb1
  go_wp2_with fail
  refine (CK _ HS.out).mono ?_
  rintro e w2 ⟨rfl, hb2⟩
  replace HBW := Lib.hid (chain HBW.out hb2)
  replace HS := Lib.hid (HS.out.below hb2)
  clear CK
  clear hb2
  go_wp2_with fail
  refine (rsorted_c _ n l (by omega) _ HS.out).mono ?_
  rintro e w3 ⟨v3, s3, rfl, hP3, hR3, hb3⟩
  replace HBW := Lib.hid (chain HBW.out hb3)
  replace HS := Lib.hid (HS.out.below hb3)
  have HO3 := Lib.hid (ord_of HC.out hP3)
  have HW3 := Lib.hid hR3
  clear hP3 hR3
  clear hb3
  go_wp2_with fail
  go_loopw [0, 10, 11] (fun u v i wr => ∃ (k : Nat) (lh s : List It), k ≤ n2 ∧ i = .int .i64 k ∧ Hid (chkI lh) ∧ Hid (ordP lh s) ∧ Hid (Rows encI 3 wr u lh.length lh) ∧ Hid (Rows encI 3 wr v s.length s) ∧ Hid (Below w.heap.size w wr)) (fun _ _ i _ => n2 - (intOf i).toNat)
  case atStart => exact ⟨0, l, s3, by omega, rfl, HC, HO3, Lib.hid (by rw [HL.out]; exact HS.out), HW3, HBW⟩
  case round =>
    clear HS HW3 HO3 HBW HC
    obtain ⟨k, lh, s, hk, rfl, HC, HO, HR, HW, HBW⟩ := hrel
    by_cases hlt : k < n2
    · obtain ⟨bA, oA, d, x0, x1, x2, rfl, s0, s1, s2, s3, hbA, _⟩ := steps_at HA.out HBW.out hlt
      have hlt' : (k : Int) < (n2 : Int) := by omega
      have hl64 := chk_le HC.out
      have hs64 : s.length ≤ 64 := by rw [ord_len HO.out]; exact hl64
      have CD0 : Hid (celA wr bA (oA + k * 4) (.bool d)) := Lib.hid ⟨s0, hbA⟩
      have DO := fun W h => do14_c u0 lh.length lh d x0 x1 x2 (by omega) W h
      have HASC := fun W h => has14_c u10 s.length s x0 (by omega) W h
      rw [hasI_perm HO.out.1] at HASC
      have TX := Lib.hid (tri.new wr (.int .i64 x0) (.int .u64 x1) (.int .u64 x2) 25)
      replace HBW := Lib.hid (chain1 HBW.out (.cells #[.int .i64 x0, .int .u64 x1, .int .u64 x2] 25))
      replace HR := Lib.hid (HR.out.below ((Below.refl _ _).alloc (Nat.le_refl _) (.cells #[.int .i64 x0, .int .u64 x1, .int .u64 x2] 25)))
      replace HW := Lib.hid (HW.out.below ((Below.refl _ _).alloc (Nat.le_refl _) (.cells #[.int .i64 x0, .int .u64 x1, .int .u64 x2] 25)))
      replace CD0 := Lib.hid (CD0.out.below ((Below.refl _ _).alloc (Nat.le_refl _) (.cells #[.int .i64 x0, .int .u64 x1, .int .u64 x2] 25)))
      go_wp2_with fail
      refine (DO _ HR.out).mono ?_
      rintro e w4 ⟨v4, l4, E4, rfl, hP4, hR4, hb4⟩
      replace HBW := Lib.hid (chain HBW.out hb4)
      replace HR := Lib.hid (HR.out.below hb4)
      replace HW := Lib.hid (HW.out.below hb4)
      replace CD0 := Lib.hid (CD0.out.below hb4)
      replace TX := Lib.hid (TX.out.below hb4)
      have HP4 := Lib.hid hP4
      have HR4 := Lib.hid hR4
      clear hP4 hR4 DO s0 s1 s2 s3 hbA
      clear hb4
      cases d with
      | true =>
        obtain ⟨_, hP⟩ | ⟨h, _⟩ := HP4.out
        rotate_left
        · cases h
        clear HP4
        by_cases hh : hasI lh x0 = true
        · rw [hh] at HASC
          obtain ⟨rfl, hc4, hp4⟩ := drop_yes hP HC.out hh
          have HC4 := Lib.hid hc4
          have hl4 := chk_le hc4
          have HO4 := Lib.hid (ord_wo HO.out hp4)
          clear hP hh hc4 hp4
          have WC := fun W h => without_c u10 s.length s x0 (by omega) W h
          obtain ⟨s_CD0, t_CD0⟩ := CD0.out
          obtain ⟨c0_TX, c1_TX, c2_TX, cl_TX⟩ := TX.out
          go_wp2_with fail
          refine (HASC _ HW.out).mono ?_
          rintro e w5 ⟨rfl, hb5⟩
          clear s_CD0 t_CD0
          clear c0_TX c1_TX c2_TX cl_TX
          replace HBW := Lib.hid (chain HBW.out hb5)
          replace HR := Lib.hid (HR.out.below hb5)
          replace HW := Lib.hid (HW.out.below hb5)
          replace HR4 := Lib.hid (HR4.out.below hb5)
          replace CD0 := Lib.hid (CD0.out.below hb5)
          replace TX := Lib.hid (TX.out.below hb5)
          obtain ⟨s_CD0, t_CD0⟩ := CD0.out
          obtain ⟨c0_TX, c1_TX, c2_TX, cl_TX⟩ := TX.out
          clear HASC
          clear hb5
          go_wp2_with fail
          refine (WC _ HW.out).mono ?_
          rintro e w6 ⟨⟨v6, rfl, hR6⟩, hb6⟩
          clear s_CD0 t_CD0
          clear c0_TX c1_TX c2_TX cl_TX
          replace HBW := Lib.hid (chain HBW.out hb6)
          replace HR := Lib.hid (HR.out.below hb6)
          replace HW := Lib.hid (HW.out.below hb6)
          replace HR4 := Lib.hid (HR4.out.below hb6)
          replace CD0 := Lib.hid (CD0.out.below hb6)
          replace TX := Lib.hid (TX.out.below hb6)
          obtain ⟨s_CD0, t_CD0⟩ := CD0.out
          obtain ⟨c0_TX, c1_TX, c2_TX, cl_TX⟩ := TX.out
          have HW4 := Lib.hid hR6
          clear hR6 WC
          clear hb6
          go_wp2_with fail
          have CK := fun W h => checkh_c v4 l4.length l4 W h
          rw [decide_eq_true HC4.out] at CK
          refine (CK _ HR4.out).mono ?_
          rintro e w7 ⟨rfl, hb7⟩
          clear s_CD0 t_CD0
          clear c0_TX c1_TX c2_TX cl_TX
          replace HBW := Lib.hid (chain HBW.out hb7)
          replace HR := Lib.hid (HR.out.below hb7)
          replace HW := Lib.hid (HW.out.below hb7)
          replace HR4 := Lib.hid (HR4.out.below hb7)
          replace HW4 := Lib.hid (HW4.out.below hb7)
          replace CD0 := Lib.hid (CD0.out.below hb7)
          replace TX := Lib.hid (TX.out.below hb7)
          obtain ⟨s_CD0, t_CD0⟩ := CD0.out
          obtain ⟨c0_TX, c1_TX, c2_TX, cl_TX⟩ := TX.out
          clear CK
          clear hb7
          go_wp2_with fail
          refine (sorted_c v4 l4.length l4 (by omega) _ HR4.out).mono ?_
          rintro e w8 ⟨v8, s8, rfl, hP8, hR8, hb8⟩
          clear s_CD0 t_CD0
          clear c0_TX c1_TX c2_TX cl_TX
          replace HBW := Lib.hid (chain HBW.out hb8)
          replace HR := Lib.hid (HR.out.below hb8)
          replace HW := Lib.hid (HW.out.below hb8)
          replace HR4 := Lib.hid (HR4.out.below hb8)
          replace HW4 := Lib.hid (HW4.out.below hb8)
          replace CD0 := Lib.hid (CD0.out.below hb8)
          replace TX := Lib.hid (TX.out.below hb8)
          obtain ⟨s_CD0, t_CD0⟩ := CD0.out
          obtain ⟨c0_TX, c1_TX, c2_TX, cl_TX⟩ := TX.out
          have hS8 := sort_yes hP8 HC4.out (t := wo s x0) HO4.out.2 HO4.out.1.symm
          rw [hS8] at hR8
          have HZ := Lib.hid hR8
          clear hP8 hR8 hS8
          clear hb8
          go_wp2_with fail
          have SM := fun v1 v2 m a W h1 h2 => sameI_c v1 v2 m m a a W h1 h2
          simp only [decide_true] at SM
          refine (SM _ _ _ _ _ HZ.out HW4.out).mono ?_
          rintro e w9 ⟨rfl, hb9⟩
          clear s_CD0 t_CD0
          clear c0_TX c1_TX c2_TX cl_TX
          replace HBW := Lib.hid (chain HBW.out hb9)
          replace HR := Lib.hid (HR.out.below hb9)
          replace HW := Lib.hid (HW.out.below hb9)
          replace HR4 := Lib.hid (HR4.out.below hb9)
          replace HW4 := Lib.hid (HW4.out.below hb9)
          replace HZ := Lib.hid (HZ.out.below hb9)
          replace CD0 := Lib.hid (CD0.out.below hb9)
          replace TX := Lib.hid (TX.out.below hb9)
          obtain ⟨s_CD0, t_CD0⟩ := CD0.out
          obtain ⟨c0_TX, c1_TX, c2_TX, cl_TX⟩ := TX.out
          clear hb9
          go_wp2_with fail
          go_roundw
          case rel => exact ⟨k + 1, l4, wo s x0, by omega, by go_num, HC4, HO4, HR4, HW4, HBW⟩
          case measure => first | (simp [intOf]; done) | (simp [intOf]; omega)
        · rw [show hasI lh x0 = false by simpa using hh] at HASC
          obtain ⟨rfl, he⟩ := drop_no hP (fun h => hh h.2)
          rw [he] at HR4
          clear hP hh he
          obtain ⟨s_CD0, t_CD0⟩ := CD0.out
          obtain ⟨c0_TX, c1_TX, c2_TX, cl_TX⟩ := TX.out
          go_wp2_with fail
          refine (HASC _ HW.out).mono ?_
          rintro e w5 ⟨rfl, hb5⟩
          clear s_CD0 t_CD0
          clear c0_TX c1_TX c2_TX cl_TX
          replace HBW := Lib.hid (chain HBW.out hb5)
          replace HR := Lib.hid (HR.out.below hb5)
          replace HW := Lib.hid (HW.out.below hb5)
          replace HR4 := Lib.hid (HR4.out.below hb5)
          replace CD0 := Lib.hid (CD0.out.below hb5)
          replace TX := Lib.hid (TX.out.below hb5)
          obtain ⟨s_CD0, t_CD0⟩ := CD0.out
          obtain ⟨c0_TX, c1_TX, c2_TX, cl_TX⟩ := TX.out
          clear HASC
          clear hb5
          go_wp2_with fail
          have CK := fun W h => checkh_c v4 lh.length lh W h
          rw [decide_eq_true HC.out] at CK
          refine (CK _ HR4.out).mono ?_
          rintro e w6 ⟨rfl, hb6⟩
          clear s_CD0 t_CD0
          clear c0_TX c1_TX c2_TX cl_TX
          replace HBW := Lib.hid (chain HBW.out hb6)
          replace HR := Lib.hid (HR.out.below hb6)
          replace HW := Lib.hid (HW.out.below hb6)
          replace HR4 := Lib.hid (HR4.out.below hb6)
          replace CD0 := Lib.hid (CD0.out.below hb6)
          replace TX := Lib.hid (TX.out.below hb6)
          obtain ⟨s_CD0, t_CD0⟩ := CD0.out
          obtain ⟨c0_TX, c1_TX, c2_TX, cl_TX⟩ := TX.out
          clear CK
          clear hb6
          go_wp2_with fail
          refine (sorted_c v4 lh.length lh (by omega) _ HR4.out).mono ?_
          rintro e w7 ⟨v7, s7, rfl, hP7, hR7, hb7⟩
          clear s_CD0 t_CD0
          clear c0_TX c1_TX c2_TX cl_TX
          replace HBW := Lib.hid (chain HBW.out hb7)
          replace HR := Lib.hid (HR.out.below hb7)
          replace HW := Lib.hid (HW.out.below hb7)
          replace HR4 := Lib.hid (HR4.out.below hb7)
          replace CD0 := Lib.hid (CD0.out.below hb7)
          replace TX := Lib.hid (TX.out.below hb7)
          obtain ⟨s_CD0, t_CD0⟩ := CD0.out
          obtain ⟨c0_TX, c1_TX, c2_TX, cl_TX⟩ := TX.out
          have hS7 := sort_yes hP7 HC.out (t := s) HO.out.2 HO.out.1.symm
          rw [hS7] at hR7
          have HZ := Lib.hid hR7
          clear hP7 hR7 hS7
          clear hb7
          go_wp2_with fail
          have SM := fun v1 v2 m a W h1 h2 => sameI_c v1 v2 m m a a W h1 h2
          simp only [decide_true] at SM
          refine (SM _ _ _ _ _ HZ.out HW.out).mono ?_
          rintro e w8 ⟨rfl, hb8⟩
          clear s_CD0 t_CD0
          clear c0_TX c1_TX c2_TX cl_TX
          replace HBW := Lib.hid (chain HBW.out hb8)
          replace HR := Lib.hid (HR.out.below hb8)
          replace HW := Lib.hid (HW.out.below hb8)
          replace HR4 := Lib.hid (HR4.out.below hb8)
          replace HZ := Lib.hid (HZ.out.below hb8)
          replace CD0 := Lib.hid (CD0.out.below hb8)
          replace TX := Lib.hid (TX.out.below hb8)
          obtain ⟨s_CD0, t_CD0⟩ := CD0.out
          obtain ⟨c0_TX, c1_TX, c2_TX, cl_TX⟩ := TX.out
          clear hb8
          go_wp2_with fail
          refine (SM _ _ _ _ _ HR4.out HR.out).mono ?_
          rintro e w9 ⟨rfl, hb9⟩
          clear s_CD0 t_CD0
          clear c0_TX c1_TX c2_TX cl_TX
          replace HBW := Lib.hid (chain HBW.out hb9)
          replace HR := Lib.hid (HR.out.below hb9)
          replace HW := Lib.hid (HW.out.below hb9)
          replace HR4 := Lib.hid (HR4.out.below hb9)
          replace HZ := Lib.hid (HZ.out.below hb9)
          replace CD0 := Lib.hid (CD0.out.below hb9)
          replace TX := Lib.hid (TX.out.below hb9)
          obtain ⟨s_CD0, t_CD0⟩ := CD0.out
          obtain ⟨c0_TX, c1_TX, c2_TX, cl_TX⟩ := TX.out
          clear hb9
          go_wp2_with fail
          go_roundw
          case rel => exact ⟨k + 1, lh, s, by omega, by go_num, HC, HO, HR4, HW, HBW⟩
          case measure => first | (simp [intOf]; done) | (simp [intOf]; omega)
      | false =>
        obtain ⟨h, _⟩ | ⟨_, hP⟩ := HP4.out
        · cases h
        clear HP4 HASC
        by_cases hx : 0 ≤ x0 ∧ x0 < 64
        · have hr1 : decide (x0 < 0) = false := by simp; omega
          have hr2 : decide (63 < x0) = false := by simp; omega
          obtain ⟨rfl, hc4, hp4⟩ := set_yes hP HC.out hx
          have HC4 := Lib.hid hc4
          have hl4 := chk_le hc4
          have HO4 := Lib.hid (ord_with HO.out hp4)
          clear hP hx hc4 hp4
          have WC := fun W h => with_c u10 s.length s x0 x1 x2 (by omega) W h
          obtain ⟨s_CD0, t_CD0⟩ := CD0.out
          obtain ⟨c0_TX, c1_TX, c2_TX, cl_TX⟩ := TX.out
          go_wp2_with fail
          refine (WC _ HW.out).mono ?_
          rintro e w5 ⟨⟨v5, rfl, hR5⟩, hb5⟩
          clear s_CD0 t_CD0
          clear c0_TX c1_TX c2_TX cl_TX
          replace HBW := Lib.hid (chain HBW.out hb5)
          replace HR := Lib.hid (HR.out.below hb5)
          replace HW := Lib.hid (HW.out.below hb5)
          replace HR4 := Lib.hid (HR4.out.below hb5)
          replace CD0 := Lib.hid (CD0.out.below hb5)
          replace TX := Lib.hid (TX.out.below hb5)
          obtain ⟨s_CD0, t_CD0⟩ := CD0.out
          obtain ⟨c0_TX, c1_TX, c2_TX, cl_TX⟩ := TX.out
          have HW4 := Lib.hid hR5
          clear hR5 WC
          clear hb5
          go_wp2_with fail
          have CK := fun W h => checkh_c v4 l4.length l4 W h
          rw [decide_eq_true HC4.out] at CK
          refine (CK _ HR4.out).mono ?_
          rintro e w6 ⟨rfl, hb6⟩
          clear s_CD0 t_CD0
          clear c0_TX c1_TX c2_TX cl_TX
          replace HBW := Lib.hid (chain HBW.out hb6)
          replace HR := Lib.hid (HR.out.below hb6)
          replace HW := Lib.hid (HW.out.below hb6)
          replace HR4 := Lib.hid (HR4.out.below hb6)
          replace HW4 := Lib.hid (HW4.out.below hb6)
          replace CD0 := Lib.hid (CD0.out.below hb6)
          replace TX := Lib.hid (TX.out.below hb6)
          obtain ⟨s_CD0, t_CD0⟩ := CD0.out
          obtain ⟨c0_TX, c1_TX, c2_TX, cl_TX⟩ := TX.out
          clear CK
          clear hb6
          go_wp2_with fail
          refine (sorted_c v4 l4.length l4 (by omega) _ HR4.out).mono ?_
          rintro e w7 ⟨v7, s7, rfl, hP7, hR7, hb7⟩
          clear s_CD0 t_CD0
          clear c0_TX c1_TX c2_TX cl_TX
          replace HBW := Lib.hid (chain HBW.out hb7)
          replace HR := Lib.hid (HR.out.below hb7)
          replace HW := Lib.hid (HW.out.below hb7)
          replace HR4 := Lib.hid (HR4.out.below hb7)
          replace HW4 := Lib.hid (HW4.out.below hb7)
          replace CD0 := Lib.hid (CD0.out.below hb7)
          replace TX := Lib.hid (TX.out.below hb7)
          obtain ⟨s_CD0, t_CD0⟩ := CD0.out
          obtain ⟨c0_TX, c1_TX, c2_TX, cl_TX⟩ := TX.out
          have hS7 := sort_yes hP7 HC4.out (t := wI s (x0, x1, x2)) HO4.out.2 HO4.out.1.symm
          rw [hS7] at hR7
          have HZ := Lib.hid hR7
          clear hP7 hR7 hS7
          clear hb7
          go_wp2_with fail
          have SM := fun v1 v2 m a W h1 h2 => sameI_c v1 v2 m m a a W h1 h2
          simp only [decide_true] at SM
          refine (SM _ _ _ _ _ HZ.out HW4.out).mono ?_
          rintro e w8 ⟨rfl, hb8⟩
          clear s_CD0 t_CD0
          clear c0_TX c1_TX c2_TX cl_TX
          replace HBW := Lib.hid (chain HBW.out hb8)
          replace HR := Lib.hid (HR.out.below hb8)
          replace HW := Lib.hid (HW.out.below hb8)
          replace HR4 := Lib.hid (HR4.out.below hb8)
          replace HW4 := Lib.hid (HW4.out.below hb8)
          replace HZ := Lib.hid (HZ.out.below hb8)
          replace CD0 := Lib.hid (CD0.out.below hb8)
          replace TX := Lib.hid (TX.out.below hb8)
          obtain ⟨s_CD0, t_CD0⟩ := CD0.out
          obtain ⟨c0_TX, c1_TX, c2_TX, cl_TX⟩ := TX.out
          clear hb8
          go_wp2_with fail
          go_roundw
          case rel => exact ⟨k + 1, l4, wI s (x0, x1, x2), by omega, by go_num, HC4, HO4, HR4, HW4, HBW⟩
          case measure => first | (simp [intOf]; done) | (simp [intOf]; omega)
        · by_cases h0 : x0 < 0
          · have hr1 : decide (x0 < 0) = true := by simp; omega
            clear h0
            obtain ⟨rfl, he⟩ := set_out hP HC.out hx
            rw [he] at HR4
            clear hP hx he
            obtain ⟨s_CD0, t_CD0⟩ := CD0.out
            obtain ⟨c0_TX, c1_TX, c2_TX, cl_TX⟩ := TX.out
            go_wp2_with fail
            have CK := fun W h => checkh_c v4 lh.length lh W h
            rw [decide_eq_true HC.out] at CK
            refine (CK _ HR4.out).mono ?_
            rintro e w5 ⟨rfl, hb5⟩
            clear s_CD0 t_CD0
            clear c0_TX c1_TX c2_TX cl_TX
            replace HBW := Lib.hid (chain HBW.out hb5)
            replace HR := Lib.hid (HR.out.below hb5)
            replace HW := Lib.hid (HW.out.below hb5)
            replace HR4 := Lib.hid (HR4.out.below hb5)
            replace CD0 := Lib.hid (CD0.out.below hb5)
            replace TX := Lib.hid (TX.out.below hb5)
            obtain ⟨s_CD0, t_CD0⟩ := CD0.out
            obtain ⟨c0_TX, c1_TX, c2_TX, cl_TX⟩ := TX.out
            clear CK
            clear hb5
            go_wp2_with fail
            refine (sorted_c v4 lh.length lh (by omega) _ HR4.out).mono ?_
            rintro e w6 ⟨v6, s6, rfl, hP6, hR6, hb6⟩
            clear s_CD0 t_CD0
            clear c0_TX c1_TX c2_TX cl_TX
            replace HBW := Lib.hid (chain HBW.out hb6)
            replace HR := Lib.hid (HR.out.below hb6)
            replace HW := Lib.hid (HW.out.below hb6)
            replace HR4 := Lib.hid (HR4.out.below hb6)
            replace CD0 := Lib.hid (CD0.out.below hb6)
            replace TX := Lib.hid (TX.out.below hb6)
            obtain ⟨s_CD0, t_CD0⟩ := CD0.out
            obtain ⟨c0_TX, c1_TX, c2_TX, cl_TX⟩ := TX.out
            have hS6 := sort_yes hP6 HC.out (t := s) HO.out.2 HO.out.1.symm
            rw [hS6] at hR6
            have HZ := Lib.hid hR6
            clear hP6 hR6 hS6
            clear hb6
            go_wp2_with fail
            have SM := fun v1 v2 m a W h1 h2 => sameI_c v1 v2 m m a a W h1 h2
            simp only [decide_true] at SM
            refine (SM _ _ _ _ _ HZ.out HW.out).mono ?_
            rintro e w7 ⟨rfl, hb7⟩
            clear s_CD0 t_CD0
            clear c0_TX c1_TX c2_TX cl_TX
            replace HBW := Lib.hid (chain HBW.out hb7)
            replace HR := Lib.hid (HR.out.below hb7)
            replace HW := Lib.hid (HW.out.below hb7)
            replace HR4 := Lib.hid (HR4.out.below hb7)
            replace HZ := Lib.hid (HZ.out.below hb7)
            replace CD0 := Lib.hid (CD0.out.below hb7)
            replace TX := Lib.hid (TX.out.below hb7)
            obtain ⟨s_CD0, t_CD0⟩ := CD0.out
            obtain ⟨c0_TX, c1_TX, c2_TX, cl_TX⟩ := TX.out
            clear hb7
            go_wp2_with fail
            refine (SM _ _ _ _ _ HR4.out HR.out).mono ?_
            rintro e w8 ⟨rfl, hb8⟩
            clear s_CD0 t_CD0
            clear c0_TX c1_TX c2_TX cl_TX
            replace HBW := Lib.hid (chain HBW.out hb8)
            replace HR := Lib.hid (HR.out.below hb8)
            replace HW := Lib.hid (HW.out.below hb8)
            replace HR4 := Lib.hid (HR4.out.below hb8)
            replace HZ := Lib.hid (HZ.out.below hb8)
            replace CD0 := Lib.hid (CD0.out.below hb8)
            replace TX := Lib.hid (TX.out.below hb8)
            obtain ⟨s_CD0, t_CD0⟩ := CD0.out
            obtain ⟨c0_TX, c1_TX, c2_TX, cl_TX⟩ := TX.out
            clear hb8
            go_wp2_with fail
            go_roundw
            case rel => exact ⟨k + 1, lh, s, by omega, by go_num, HC, HO, HR4, HW, HBW⟩
            case measure => first | (simp [intOf]; done) | (simp [intOf]; omega)
          · have hr1 : decide (x0 < 0) = false := by simp; omega
            have hr2 : decide (63 < x0) = true := by simp; omega
            clear h0
            obtain ⟨rfl, he⟩ := set_out hP HC.out hx
            rw [he] at HR4
            clear hP hx he
            obtain ⟨s_CD0, t_CD0⟩ := CD0.out
            obtain ⟨c0_TX, c1_TX, c2_TX, cl_TX⟩ := TX.out
            go_wp2_with fail
            have CK := fun W h => checkh_c v4 lh.length lh W h
            rw [decide_eq_true HC.out] at CK
            refine (CK _ HR4.out).mono ?_
            rintro e w5 ⟨rfl, hb5⟩
            clear s_CD0 t_CD0
            clear c0_TX c1_TX c2_TX cl_TX
            replace HBW := Lib.hid (chain HBW.out hb5)
            replace HR := Lib.hid (HR.out.below hb5)
            replace HW := Lib.hid (HW.out.below hb5)
            replace HR4 := Lib.hid (HR4.out.below hb5)
            replace CD0 := Lib.hid (CD0.out.below hb5)
            replace TX := Lib.hid (TX.out.below hb5)
            obtain ⟨s_CD0, t_CD0⟩ := CD0.out
            obtain ⟨c0_TX, c1_TX, c2_TX, cl_TX⟩ := TX.out
            clear CK
            clear hb5
            go_wp2_with fail
            refine (sorted_c v4 lh.length lh (by omega) _ HR4.out).mono ?_
            rintro e w6 ⟨v6, s6, rfl, hP6, hR6, hb6⟩
            clear s_CD0 t_CD0
            clear c0_TX c1_TX c2_TX cl_TX
            replace HBW := Lib.hid (chain HBW.out hb6)
            replace HR := Lib.hid (HR.out.below hb6)
            replace HW := Lib.hid (HW.out.below hb6)
            replace HR4 := Lib.hid (HR4.out.below hb6)
            replace CD0 := Lib.hid (CD0.out.below hb6)
            replace TX := Lib.hid (TX.out.below hb6)
            obtain ⟨s_CD0, t_CD0⟩ := CD0.out
            obtain ⟨c0_TX, c1_TX, c2_TX, cl_TX⟩ := TX.out
            have hS6 := sort_yes hP6 HC.out (t := s) HO.out.2 HO.out.1.symm
            rw [hS6] at hR6
            have HZ := Lib.hid hR6
            clear hP6 hR6 hS6
            clear hb6
            go_wp2_with fail
            have SM := fun v1 v2 m a W h1 h2 => sameI_c v1 v2 m m a a W h1 h2
            simp only [decide_true] at SM
            refine (SM _ _ _ _ _ HZ.out HW.out).mono ?_
            rintro e w7 ⟨rfl, hb7⟩
            clear s_CD0 t_CD0
            clear c0_TX c1_TX c2_TX cl_TX
            replace HBW := Lib.hid (chain HBW.out hb7)
            replace HR := Lib.hid (HR.out.below hb7)
            replace HW := Lib.hid (HW.out.below hb7)
            replace HR4 := Lib.hid (HR4.out.below hb7)
            replace HZ := Lib.hid (HZ.out.below hb7)
            replace CD0 := Lib.hid (CD0.out.below hb7)
            replace TX := Lib.hid (TX.out.below hb7)
            obtain ⟨s_CD0, t_CD0⟩ := CD0.out
            obtain ⟨c0_TX, c1_TX, c2_TX, cl_TX⟩ := TX.out
            clear hb7
            go_wp2_with fail
            refine (SM _ _ _ _ _ HR4.out HR.out).mono ?_
            rintro e w8 ⟨rfl, hb8⟩
            clear s_CD0 t_CD0
            clear c0_TX c1_TX c2_TX cl_TX
            replace HBW := Lib.hid (chain HBW.out hb8)
            replace HR := Lib.hid (HR.out.below hb8)
            replace HW := Lib.hid (HW.out.below hb8)
            replace HR4 := Lib.hid (HR4.out.below hb8)
            replace HZ := Lib.hid (HZ.out.below hb8)
            replace CD0 := Lib.hid (CD0.out.below hb8)
            replace TX := Lib.hid (TX.out.below hb8)
            obtain ⟨s_CD0, t_CD0⟩ := CD0.out
            obtain ⟨c0_TX, c1_TX, c2_TX, cl_TX⟩ := TX.out
            clear hb8
            go_wp2_with fail
            go_roundw
            case rel => exact ⟨k + 1, lh, s, by omega, by go_num, HC, HO, HR4, HW, HBW⟩
            case measure => first | (simp [intOf]; done) | (simp [intOf]; omega)
    · have hge' : decide ((k : Int) < (n2 : Int)) = false := by simp; omega
      have hge : decide (k < n2) = false := by simp; omega
      go_wp2_with fail
      go_ret
      exact ⟨by first | rfl | (simp; done), HBW.out⟩
theorem walk_HeapSteps (v0 v1 : Value) (w : World) (o0 : RowIn encI 3 (fun _ => True) w v0) (o1 : RowIn encS 4 (fun _ => True) w v1) :
    Calls Try.prog 4 #[v0, v1] w fun e w' => e = .returned (.bool true) ∧ Below w.heap.size w w' := by
  obtain ⟨A, n, c, l, rfl, hcap, _, hl, _, hs⟩ := o0
  obtain ⟨A2, n2, c2, l2, rfl, _, _, _, _, hs2⟩ := o1
  by_cases hn : n ≤ 64
  · by_cases hm : n2 ≤ 100
    · by_cases hc : chkI l
      · exact steps_go A n c l A2 n2 c2 l2 hn hm hc hcap hl w hs hs2
      · exact steps_no A n c l A2 n2 c2 l2 hn hm hc hcap hl w hs hs2
    · exact steps_big2 A n c l A2 n2 c2 l2 hn (by omega) hcap hl w hs hs2
  · exact steps_big1 A n c l A2 n2 c2 l2 (by omega) hcap hl w hs hs2
end Go.Proofs.Try
