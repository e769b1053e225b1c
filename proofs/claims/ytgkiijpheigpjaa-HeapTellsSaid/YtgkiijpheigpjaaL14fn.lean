/- HeapTells: no heap, or nothing in it. -/
import Derived.Test.YtgkiijpheigpjaaL14f0
namespace Go.Proofs.Try
open Go.RowKit
set_option linter.unusedVariables false
set_option linter.unusedSimpArgs false
set_option maxRecDepth 100000 in
set_option maxHeartbeats 40000000 in
theorem tells_no (A : Option Addr) (n c : Nat) (l : List It) (a0 a1 a2 b0 b1 b2 z : Int) (hn : n ≤ 100) (hq : ¬(chkI l ∧ l ≠ [])) (hcap : CapOk A n c) (hl : l.length = n) (w : World) (hs : Sees w 3 A n (flat encI l)) :
    Calls Try.prog 3 #[.slice A n c, .agg #[.int .i64 a0, .int .u64 a1, .int .u64 a2], .agg #[.int .i64 b0, .int .u64 b1, .int .u64 b2], .int .i64 z] w fun e w' => e = .returned (.bool true) ∧ Below w.heap.size w w' := by
  have HQ := Lib.hid hq
  clear hq
  have HS : Hid (Rows encI 3 ((w.alloc (.cells #[.int .i64 a0, .int .u64 a1, .int .u64 a2] 25)).alloc (.cells #[.int .i64 b0, .int .u64 b1, .int .u64 b2] 25)) (.slice A n c) n l) := Lib.hid ⟨A, c, rfl, hcap, by omega, hl, (hs.alloc _).alloc _⟩
  have HBW := Lib.hid (chain1 (chain1 (Below.refl w.heap.size w) (.cells #[.int .i64 a0, .int .u64 a1, .int .u64 a2] 25)) (.cells #[.int .i64 b0, .int .u64 b1, .int .u64 b2] 25))
  have TA := Lib.hid ((tri.new w (.int .i64 a0) (.int .u64 a1) (.int .u64 a2) 25).below ((Below.refl _ _).alloc (Nat.le_refl _) (.cells #[.int .i64 b0, .int .u64 b1, .int .u64 b2] 25)))
  have TB := Lib.hid (tri.new' (b := w.heap.size + 1) (w := w.alloc (.cells #[.int .i64 a0, .int .u64 a1, .int .u64 a2] 25)) (by rw [World.size_alloc]) (.int .i64 b0) (.int .u64 b1) (.int .u64 b2) 25)
  have qn : decide (100 < (n : Int)) = false := by simp; omega
  have HL := Lib.hid hl
  clear hs hl hcap
  go_enter Try.func3, Try.ntmps3
  go_wp2_with fail
  refine (awake14 _).mono ?_
  rintro e w1 ⟨rfl, hb1⟩
  replace HBW := Lib.hid (chain HBW.out hb1)
  replace HS := Lib.hid (HS.out.below hb1)
  replace TA := Lib.hid (TA.out.below hb1)
  replace TB := Lib.hid (TB.out.below hb1)
  clear hb1
  go_wp2_with fail
  refine (rsorted_c _ n l (by omega) _ HS.out).mono ?_
  rintro e w2 ⟨v2, s2, rfl, hP2, hR2, hb2⟩
  replace HBW := Lib.hid (chain HBW.out hb2)
  replace HS := Lib.hid (HS.out.below hb2)
  replace TA := Lib.hid (TA.out.below hb2)
  replace TB := Lib.hid (TB.out.below hb2)
  have HP := Lib.hid hP2
  have HSL : Hid (s2.length ≤ 100) := Lib.hid (by have := sort_len hP2; have := HL.out; omega)
  have HW := Lib.hid hR2
  clear hP2 hR2
  clear hb2
  go_wp2_with fail
  refine (findh_c _ n l z (by omega) _ HS.out).mono ?_
  rintro e w3 ⟨i3, p3, q3, b3, rfl, hP3, hb3⟩
  replace HBW := Lib.hid (chain HBW.out hb3)
  replace HS := Lib.hid (HS.out.below hb3)
  replace HW := Lib.hid (HW.out.below hb3)
  replace TA := Lib.hid (TA.out.below hb3)
  replace TB := Lib.hid (TB.out.below hb3)
  have HF := Lib.hid hP3
  clear hP3
  clear hb3
  have TX := Lib.hid (tri.new w3 (.int .i64 i3) (.int .u64 p3) (.int .u64 q3) 25)
  replace HBW := Lib.hid (chain1 HBW.out (.cells #[.int .i64 i3, .int .u64 p3, .int .u64 q3] 25))
  replace HS := Lib.hid (HS.out.below ((Below.refl _ _).alloc (Nat.le_refl _) (.cells #[.int .i64 i3, .int .u64 p3, .int .u64 q3] 25)))
  replace HW := Lib.hid (HW.out.below ((Below.refl _ _).alloc (Nat.le_refl _) (.cells #[.int .i64 i3, .int .u64 p3, .int .u64 q3] 25)))
  replace TA := Lib.hid (TA.out.below ((Below.refl _ _).alloc (Nat.le_refl _) (.cells #[.int .i64 i3, .int .u64 p3, .int .u64 q3] 25)))
  replace TB := Lib.hid (TB.out.below ((Below.refl _ _).alloc (Nat.le_refl _) (.cells #[.int .i64 i3, .int .u64 p3, .int .u64 q3] 25)))
  go_wp2_with fail
  refine (rfind_c _ s2.length s2 z (by have := HSL.out; omega) _ HW.out).mono ?_
  rintro e w4 ⟨i4, p4, q4, b4, rfl, hP4, hb4⟩
  replace HBW := Lib.hid (chain HBW.out hb4)
  replace HS := Lib.hid (HS.out.below hb4)
  replace HW := Lib.hid (HW.out.below hb4)
  replace TA := Lib.hid (TA.out.below hb4)
  replace TB := Lib.hid (TB.out.below hb4)
  replace TX := Lib.hid (TX.out.below hb4)
  obtain ⟨hx4, rfl⟩ := find_same HP.out HF.out hP4
  simp only [Prod.mk.injEq] at hx4
  obtain ⟨rfl, rfl, rfl⟩ := hx4
  clear hP4 HF
  clear hb4
  have TY := Lib.hid (tri.new w4 (.int .i64 i3) (.int .u64 p3) (.int .u64 q3) 25)
  replace HBW := Lib.hid (chain1 HBW.out (.cells #[.int .i64 i3, .int .u64 p3, .int .u64 q3] 25))
  replace HS := Lib.hid (HS.out.below ((Below.refl _ _).alloc (Nat.le_refl _) (.cells #[.int .i64 i3, .int .u64 p3, .int .u64 q3] 25)))
  replace HW := Lib.hid (HW.out.below ((Below.refl _ _).alloc (Nat.le_refl _) (.cells #[.int .i64 i3, .int .u64 p3, .int .u64 q3] 25)))
  replace TA := Lib.hid (TA.out.below ((Below.refl _ _).alloc (Nat.le_refl _) (.cells #[.int .i64 i3, .int .u64 p3, .int .u64 q3] 25)))
  replace TB := Lib.hid (TB.out.below ((Below.refl _ _).alloc (Nat.le_refl _) (.cells #[.int .i64 i3, .int .u64 p3, .int .u64 q3] 25)))
  replace TX := Lib.hid (TX.out.below ((Below.refl _ _).alloc (Nat.le_refl _) (.cells #[.int .i64 i3, .int .u64 p3, .int .u64 q3] 25)))
  go_wp2_with fail
  refine (min_c _ n l (by omega) _ HS.out).mono ?_
  rintro e w5 ⟨i5, p5, q5, b5, rfl, hP5, hb5⟩
  replace HBW := Lib.hid (chain HBW.out hb5)
  replace HS := Lib.hid (HS.out.below hb5)
  replace HW := Lib.hid (HW.out.below hb5)
  replace TA := Lib.hid (TA.out.below hb5)
  replace TB := Lib.hid (TB.out.below hb5)
  replace TX := Lib.hid (TX.out.below hb5)
  replace TY := Lib.hid (TY.out.below hb5)
  have HM := Lib.hid (min_same HP.out hP5)
  clear hP5
  clear hb5
  have TM := Lib.hid (tri.new w5 (.int .i64 i5) (.int .u64 p5) (.int .u64 q5) 25)
  replace HBW := Lib.hid (chain1 HBW.out (.cells #[.int .i64 i5, .int .u64 p5, .int .u64 q5] 25))
  replace HS := Lib.hid (HS.out.below ((Below.refl _ _).alloc (Nat.le_refl _) (.cells #[.int .i64 i5, .int .u64 p5, .int .u64 q5] 25)))
  replace HW := Lib.hid (HW.out.below ((Below.refl _ _).alloc (Nat.le_refl _) (.cells #[.int .i64 i5, .int .u64 p5, .int .u64 q5] 25)))
  replace TA := Lib.hid (TA.out.below ((Below.refl _ _).alloc (Nat.le_refl _) (.cells #[.int .i64 i5, .int .u64 p5, .int .u64 q5] 25)))
  replace TB := Lib.hid (TB.out.below ((Below.refl _ _).alloc (Nat.le_refl _) (.cells #[.int .i64 i5, .int .u64 p5, .int .u64 q5] 25)))
  replace TX := Lib.hid (TX.out.below ((Below.refl _ _).alloc (Nat.le_refl _) (.cells #[.int .i64 i5, .int .u64 p5, .int .u64 q5] 25)))
  replace TY := Lib.hid (TY.out.below ((Below.refl _ _).alloc (Nat.le_refl _) (.cells #[.int .i64 i5, .int .u64 p5, .int .u64 q5] 25)))
  have CK1 := fun W h => checkh_c (.slice A n c) n l W h
  have CK2 := fun W h => rcheck_c (.slice A n c) n l (by omega) W h
  obtain ⟨kc, hkc⟩ : ∃ kc, kc = decide (chkI l) := ⟨_, rfl⟩
  rw [← hkc] at CK1 CK2
  have LS1 := fun W => less_c a0 a1 a2 b0 b1 b2 W
  have LS2 := fun W => rless_c a0 a1 a2 b0 b1 b2 W
  obtain ⟨kl, hkl⟩ : ∃ kl, kl = decide (LtI (a0, a1, a2) (b0, b1, b2)) := ⟨_, rfl⟩
  rw [← hkl] at LS1 LS2
  have SO := fun W h => sorted_c (.slice A n c) n l (by omega) W h
  have SM := fun v1 v2 W h1 h2 => sameI_c v1 v2 s2.length s2.length s2 s2 W h1 h2
  simp only [decide_true] at SM
  clear hkc hkl
  rcases HM.out with ⟨rfl, h1, h2⟩ | ⟨rfl, rfl, h2⟩
  · exfalso
    rcases HP.out with ⟨_, rfl⟩ | ⟨hc, h, _⟩
    · simp at h1
    · refine HQ.out ⟨hc, fun e => ?_⟩
      rw [e] at h
      have := h.length_eq
      simp at this
      rw [this] at h1
      simp at h1
  · simp only [Prod.mk.injEq] at h2
    obtain ⟨rfl, rfl, rfl⟩ := h2
    obtain ⟨AW, cW, rfl, _⟩ := HW.out
    obtain ⟨c0_TA, c1_TA, c2_TA, cl_TA⟩ := TA.out
    obtain ⟨c0_TB, c1_TB, c2_TB, cl_TB⟩ := TB.out
    obtain ⟨c0_TX, c1_TX, c2_TX, cl_TX⟩ := TX.out
    obtain ⟨c0_TY, c1_TY, c2_TY, cl_TY⟩ := TY.out
    obtain ⟨c0_TM, c1_TM, c2_TM, cl_TM⟩ := TM.out
    go_wp2_with fail
    go_quiet (fail)
    clear c0_TA c1_TA c2_TA cl_TA
    clear c0_TB c1_TB c2_TB cl_TB
    clear c0_TX c1_TX c2_TX cl_TX
    clear c0_TY c1_TY c2_TY cl_TY
    clear c0_TM c1_TM c2_TM cl_TM
    replace HBW := Lib.hid (chain HBW.out (Below_drewN (Below.refl _ _) nq))
    replace HS := Lib.hid (HS.out.below (Below_drewN (Below.refl _ _) nq))
    replace HW := Lib.hid (HW.out.below (Below_drewN (Below.refl _ _) nq))
    replace TA := Lib.hid (TA.out.below (Below_drewN (Below.refl _ _) nq))
    replace TB := Lib.hid (TB.out.below (Below_drewN (Below.refl _ _) nq))
    replace TX := Lib.hid (TX.out.below (Below_drewN (Below.refl _ _) nq))
    replace TY := Lib.hid (TY.out.below (Below_drewN (Below.refl _ _) nq))
    replace TM := Lib.hid (TM.out.below (Below_drewN (Below.refl _ _) nq))
    obtain ⟨c0_TA, c1_TA, c2_TA, cl_TA⟩ := TA.out
    obtain ⟨c0_TB, c1_TB, c2_TB, cl_TB⟩ := TB.out
    obtain ⟨c0_TX, c1_TX, c2_TX, cl_TX⟩ := TX.out
    obtain ⟨c0_TY, c1_TY, c2_TY, cl_TY⟩ := TY.out
    obtain ⟨c0_TM, c1_TM, c2_TM, cl_TM⟩ := TM.out
    go_wp2_with fail
    clear c0_TA c1_TA c2_TA cl_TA
    clear c0_TB c1_TB c2_TB cl_TB
    clear c0_TX c1_TX c2_TX cl_TX
    clear c0_TY c1_TY c2_TY cl_TY
    clear c0_TM c1_TM c2_TM cl_TM
    clear TM HM 
    generalize (w5.alloc (.cells #[.int .i64 0, .int .u64 0, .int .u64 0] 25)).drewN nq = V at *
    obtain ⟨c0_TA, c1_TA, c2_TA, cl_TA⟩ := TA.out
    obtain ⟨c0_TB, c1_TB, c2_TB, cl_TB⟩ := TB.out
    obtain ⟨c0_TX, c1_TX, c2_TX, cl_TX⟩ := TX.out
    obtain ⟨c0_TY, c1_TY, c2_TY, cl_TY⟩ := TY.out
    refine region_mid 18 19 (by kernel_rfl) (by kernel_rfl) (by kernel_rfl) (by kernel_rfl) (by decide) rfl ?_
    intro hlat
    (simp only [List.take_succ_cons, List.take_zero, List.drop_succ_cons, List.drop_zero])
    repeat (go_big_quiet_step ((first | (go_at_call 20; with_reducible exact later_call (CK1 _ (HS.out.below (later_below _ _)))) | (go_at_call 21; with_reducible exact later_call (CK2 _ (HS.out.below (later_below _ _)))) | (go_at_call 22; with_reducible exact later_call (LS1 _)) | (go_at_call 23; with_reducible exact later_call (LS2 _)))))
    refine wpQuiet_nil ?_
    intro W9 hb9
    clear hlat
    clear c0_TA c1_TA c2_TA cl_TA
    clear c0_TB c1_TB c2_TB cl_TB
    clear c0_TX c1_TX c2_TX cl_TX
    clear c0_TY c1_TY c2_TY cl_TY
    replace HBW := Lib.hid (chain HBW.out hb9)
    replace HS := Lib.hid (HS.out.below hb9)
    replace HW := Lib.hid (HW.out.below hb9)
    replace TA := Lib.hid (TA.out.below hb9)
    replace TB := Lib.hid (TB.out.below hb9)
    replace TX := Lib.hid (TX.out.below hb9)
    replace TY := Lib.hid (TY.out.below hb9)
    obtain ⟨c0_TA, c1_TA, c2_TA, cl_TA⟩ := TA.out
    obtain ⟨c0_TB, c1_TB, c2_TB, cl_TB⟩ := TB.out
    obtain ⟨c0_TX, c1_TX, c2_TX, cl_TX⟩ := TX.out
    obtain ⟨c0_TY, c1_TY, c2_TY, cl_TY⟩ := TY.out
    clear hb9 CK1 CK2 LS1 LS2
    clear c0_TA c1_TA c2_TA cl_TA
    clear c0_TB c1_TB c2_TB cl_TB
    clear c0_TX c1_TX c2_TX cl_TX
    clear c0_TY c1_TY c2_TY cl_TY
    refine wpAny_ready (rs := [18, 20]) (fuel := 18) (by kernel_rfl) (by simp) (AllReady.cons rfl (fun K hK => ?_) (AllReady.cons rfl (fun K hK => ?_) AllReady.nil))
    · go_simp
      refine hK _ _ ?_
      clear hK K
      refine wpAny_ready (rs := [19, 20]) (fuel := 17) (by kernel_rfl) (by simp) (AllReady.cons rfl (fun K hK => ?_) (AllReady.cons rfl (fun K hK => ?_) AllReady.nil))
      · go_simp
        go_wp2_with (go_at_call 25; refine (SO _ HS.out).mono ?_; rintro e w' ⟨v9, s9, rfl, hP9, hR9, hb⟩)
        try (refine hK _ _ ?_)
        try clear hK K
        obtain rfl := sort_same HP.out hP9
        have HZ := Lib.hid hR9
        clear hP9 hR9
        replace HBW := Lib.hid (chain HBW.out hb)
        replace HS := Lib.hid (HS.out.below hb)
        replace HW := Lib.hid (HW.out.below hb)
        replace TA := Lib.hid (TA.out.below hb)
        replace TB := Lib.hid (TB.out.below hb)
        replace TX := Lib.hid (TX.out.below hb)
        replace TY := Lib.hid (TY.out.below hb)
        clear hb SO
        refine wpAny_ready (rs := [20]) (fuel := 16) (by kernel_rfl) (by simp) (AllReady.cons rfl (fun K hK => ?_) AllReady.nil)
        go_simp
        refine hK _ _ ?_
        clear hK K
        refine wpAny_ready (rs := [21]) (fuel := 15) (by kernel_rfl) (by simp) (AllReady.cons rfl (fun K hK => ?_) AllReady.nil)
        go_simp
        go_wp2_with (go_at_call 24; refine (SM _ _ _ HZ.out HW.out).mono ?_; rintro e w' ⟨rfl, hb⟩)
        try (refine hK _ _ ?_)
        try clear hK K
        replace HBW := Lib.hid (chain HBW.out hb)
        replace HS := Lib.hid (HS.out.below hb)
        replace HW := Lib.hid (HW.out.below hb)
        replace TA := Lib.hid (TA.out.below hb)
        replace TB := Lib.hid (TB.out.below hb)
        replace TX := Lib.hid (TX.out.below hb)
        replace TY := Lib.hid (TY.out.below hb)
        obtain ⟨c0_TA, c1_TA, c2_TA, cl_TA⟩ := TA.out
        obtain ⟨c0_TB, c1_TB, c2_TB, cl_TB⟩ := TB.out
        obtain ⟨c0_TX, c1_TX, c2_TX, cl_TX⟩ := TX.out
        obtain ⟨c0_TY, c1_TY, c2_TY, cl_TY⟩ := TY.out
        clear hb SM
        refine any_mid 22 36 1 (by kernel_rfl) (by kernel_rfl) (by kernel_rfl) (by decide) (by decide) rfl ?_
        intro hlat
        (simp only [List.take_succ_cons, List.take_zero, List.drop_succ_cons, List.drop_zero])
        repeat (go_big_quiet_step (fail))
        refine wpQuiet_nil ?_
        intro W10 hb10
        clear hlat
        clear c0_TA c1_TA c2_TA cl_TA
        clear c0_TB c1_TB c2_TB cl_TB
        clear c0_TX c1_TX c2_TX cl_TX
        clear c0_TY c1_TY c2_TY cl_TY
        replace HBW := Lib.hid (chain HBW.out hb10)
        replace HS := Lib.hid (HS.out.below hb10)
        replace HW := Lib.hid (HW.out.below hb10)
        replace TA := Lib.hid (TA.out.below hb10)
        replace TB := Lib.hid (TB.out.below hb10)
        replace TX := Lib.hid (TX.out.below hb10)
        replace TY := Lib.hid (TY.out.below hb10)
        obtain ⟨c0_TA, c1_TA, c2_TA, cl_TA⟩ := TA.out
        obtain ⟨c0_TB, c1_TB, c2_TB, cl_TB⟩ := TB.out
        obtain ⟨c0_TX, c1_TX, c2_TX, cl_TX⟩ := TX.out
        obtain ⟨c0_TY, c1_TY, c2_TY, cl_TY⟩ := TY.out
        clear hb10
        refine wpAny_ready (rs := [36]) (fuel := 0) (by kernel_rfl) (by simp) (AllReady.cons rfl (fun K hK => ?_) AllReady.nil)
        go_simp
        refine hK _ _ ?_
        clear hK K
        refine wpAny_done (by kernel_rfl) ?_ _
        go_wp2_with fail
        go_ret
        exact ⟨by first | rfl | (simp; done), HBW.out⟩
      · go_simp
        refine hK _ _ ?_
        clear hK K
        refine wpAny_ready (rs := [19]) (fuel := 16) (by kernel_rfl) (by simp) (AllReady.cons rfl (fun K hK => ?_) AllReady.nil)
        go_simp
        go_wp2_with (go_at_call 25; refine (SO _ HS.out).mono ?_; rintro e w' ⟨v9, s9, rfl, hP9, hR9, hb⟩)
        try (refine hK _ _ ?_)
        try clear hK K
        obtain rfl := sort_same HP.out hP9
        have HZ := Lib.hid hR9
        clear hP9 hR9
        replace HBW := Lib.hid (chain HBW.out hb)
        replace HS := Lib.hid (HS.out.below hb)
        replace HW := Lib.hid (HW.out.below hb)
        replace TA := Lib.hid (TA.out.below hb)
        replace TB := Lib.hid (TB.out.below hb)
        replace TX := Lib.hid (TX.out.below hb)
        replace TY := Lib.hid (TY.out.below hb)
        clear hb SO
        refine wpAny_ready (rs := [21]) (fuel := 15) (by kernel_rfl) (by simp) (AllReady.cons rfl (fun K hK => ?_) AllReady.nil)
        go_simp
        go_wp2_with (go_at_call 24; refine (SM _ _ _ HZ.out HW.out).mono ?_; rintro e w' ⟨rfl, hb⟩)
        try (refine hK _ _ ?_)
        try clear hK K
        replace HBW := Lib.hid (chain HBW.out hb)
        replace HS := Lib.hid (HS.out.below hb)
        replace HW := Lib.hid (HW.out.below hb)
        replace TA := Lib.hid (TA.out.below hb)
        replace TB := Lib.hid (TB.out.below hb)
        replace TX := Lib.hid (TX.out.below hb)
        replace TY := Lib.hid (TY.out.below hb)
        obtain ⟨c0_TA, c1_TA, c2_TA, cl_TA⟩ := TA.out
        obtain ⟨c0_TB, c1_TB, c2_TB, cl_TB⟩ := TB.out
        obtain ⟨c0_TX, c1_TX, c2_TX, cl_TX⟩ := TX.out
        obtain ⟨c0_TY, c1_TY, c2_TY, cl_TY⟩ := TY.out
        clear hb SM
        refine any_mid 22 36 1 (by kernel_rfl) (by kernel_rfl) (by kernel_rfl) (by decide) (by decide) rfl ?_
        intro hlat
        (simp only [List.take_succ_cons, List.take_zero, List.drop_succ_cons, List.drop_zero])
        repeat (go_big_quiet_step (fail))
        refine wpQuiet_nil ?_
        intro W10 hb10
        clear hlat
        clear c0_TA c1_TA c2_TA cl_TA
        clear c0_TB c1_TB c2_TB cl_TB
        clear c0_TX c1_TX c2_TX cl_TX
        clear c0_TY c1_TY c2_TY cl_TY
        replace HBW := Lib.hid (chain HBW.out hb10)
        replace HS := Lib.hid (HS.out.below hb10)
        replace HW := Lib.hid (HW.out.below hb10)
        replace TA := Lib.hid (TA.out.below hb10)
        replace TB := Lib.hid (TB.out.below hb10)
        replace TX := Lib.hid (TX.out.below hb10)
        replace TY := Lib.hid (TY.out.below hb10)
        obtain ⟨c0_TA, c1_TA, c2_TA, cl_TA⟩ := TA.out
        obtain ⟨c0_TB, c1_TB, c2_TB, cl_TB⟩ := TB.out
        obtain ⟨c0_TX, c1_TX, c2_TX, cl_TX⟩ := TX.out
        obtain ⟨c0_TY, c1_TY, c2_TY, cl_TY⟩ := TY.out
        clear hb10
        refine wpAny_ready (rs := [36]) (fuel := 0) (by kernel_rfl) (by simp) (AllReady.cons rfl (fun K hK => ?_) AllReady.nil)
        go_simp
        refine hK _ _ ?_
        clear hK K
        refine wpAny_done (by kernel_rfl) ?_ _
        go_wp2_with fail
        go_ret
        exact ⟨by first | rfl | (simp; done), HBW.out⟩
    · go_simp
      refine hK _ _ ?_
      clear hK K
      refine wpAny_ready (rs := [18]) (fuel := 17) (by kernel_rfl) (by simp) (AllReady.cons rfl (fun K hK => ?_) AllReady.nil)
      go_simp
      refine hK _ _ ?_
      clear hK K
      refine wpAny_ready (rs := [19]) (fuel := 16) (by kernel_rfl) (by simp) (AllReady.cons rfl (fun K hK => ?_) AllReady.nil)
      go_simp
      go_wp2_with (go_at_call 25; refine (SO _ HS.out).mono ?_; rintro e w' ⟨v9, s9, rfl, hP9, hR9, hb⟩)
      try (refine hK _ _ ?_)
      try clear hK K
      obtain rfl := sort_same HP.out hP9
      have HZ := Lib.hid hR9
      clear hP9 hR9
      replace HBW := Lib.hid (chain HBW.out hb)
      replace HS := Lib.hid (HS.out.below hb)
      replace HW := Lib.hid (HW.out.below hb)
      replace TA := Lib.hid (TA.out.below hb)
      replace TB := Lib.hid (TB.out.below hb)
      replace TX := Lib.hid (TX.out.below hb)
      replace TY := Lib.hid (TY.out.below hb)
      clear hb SO
      refine wpAny_ready (rs := [21]) (fuel := 15) (by kernel_rfl) (by simp) (AllReady.cons rfl (fun K hK => ?_) AllReady.nil)
      go_simp
      go_wp2_with (go_at_call 24; refine (SM _ _ _ HZ.out HW.out).mono ?_; rintro e w' ⟨rfl, hb⟩)
      try (refine hK _ _ ?_)
      try clear hK K
      replace HBW := Lib.hid (chain HBW.out hb)
      replace HS := Lib.hid (HS.out.below hb)
      replace HW := Lib.hid (HW.out.below hb)
      replace TA := Lib.hid (TA.out.below hb)
      replace TB := Lib.hid (TB.out.below hb)
      replace TX := Lib.hid (TX.out.below hb)
      replace TY := Lib.hid (TY.out.below hb)
      obtain ⟨c0_TA, c1_TA, c2_TA, cl_TA⟩ := TA.out
      obtain ⟨c0_TB, c1_TB, c2_TB, cl_TB⟩ := TB.out
      obtain ⟨c0_TX, c1_TX, c2_TX, cl_TX⟩ := TX.out
      obtain ⟨c0_TY, c1_TY, c2_TY, cl_TY⟩ := TY.out
      clear hb SM
      refine any_mid 22 36 1 (by kernel_rfl) (by kernel_rfl) (by kernel_rfl) (by decide) (by decide) rfl ?_
      intro hlat
      (simp only [List.take_succ_cons, List.take_zero, List.drop_succ_cons, List.drop_zero])
      repeat (go_big_quiet_step (fail))
      refine wpQuiet_nil ?_
      intro W10 hb10
      clear hlat
      clear c0_TA c1_TA c2_TA cl_TA
      clear c0_TB c1_TB c2_TB cl_TB
      clear c0_TX c1_TX c2_TX cl_TX
      clear c0_TY c1_TY c2_TY cl_TY
      replace HBW := Lib.hid (chain HBW.out hb10)
      replace HS := Lib.hid (HS.out.below hb10)
      replace HW := Lib.hid (HW.out.below hb10)
      replace TA := Lib.hid (TA.out.below hb10)
      replace TB := Lib.hid (TB.out.below hb10)
      replace TX := Lib.hid (TX.out.below hb10)
      replace TY := Lib.hid (TY.out.below hb10)
      obtain ⟨c0_TA, c1_TA, c2_TA, cl_TA⟩ := TA.out
      obtain ⟨c0_TB, c1_TB, c2_TB, cl_TB⟩ := TB.out
      obtain ⟨c0_TX, c1_TX, c2_TX, cl_TX⟩ := TX.out
      obtain ⟨c0_TY, c1_TY, c2_TY, cl_TY⟩ := TY.out
      clear hb10
      refine wpAny_ready (rs := [36]) (fuel := 0) (by kernel_rfl) (by simp) (AllReady.cons rfl (fun K hK => ?_) AllReady.nil)
      go_simp
      refine hK _ _ ?_
      clear hK K
      refine wpAny_done (by kernel_rfl) ?_ _
      go_wp2_with fail
      go_ret
      exact ⟨by first | rfl | (simp; done), HBW.out⟩
end Go.Proofs.Try
