/- The walk of HeapOrder. -/
import Derived.Test.YtgkiijpheigpjaaW14
import Derived.Test.YtgkiijpheigpjaaOpenI
namespace Go.Proofs.Try
open Go.RowKit
set_option linter.unusedVariables false
set_option linter.unusedSimpArgs false
theorem tri.new' {w : World} {b : Nat} (hb : b = w.heap.size) (x y z : Value) (T : TypeId) : tri (w.alloc (.cells #[x, y, z] T)) b x y z := by subst hb; exact tri.new w x y z T
set_option maxRecDepth 100000 in
set_option maxHeartbeats 4000000 in
theorem order_ba_q0 (a0 a1 a2 b0 b1 b2 c0 c1 c2 : Int) (hl : LtI (b0, b1, b2) (a0, a1, a2)) (h0 : a0 ≠ b0) (w : World) :
    Calls Try.prog 7 #[.agg #[.int .i64 a0, .int .u64 a1, .int .u64 a2], .agg #[.int .i64 b0, .int .u64 b1, .int .u64 b2], .agg #[.int .i64 c0, .int .u64 c1, .int .u64 c2]] w fun e w' => e = .returned (.bool true) ∧ Below w.heap.size w w' := by
  have LAB := fun W => less_c a0 a1 a2 b0 b1 b2 W
  rw [decide_eq_false hl.asy] at LAB
  have LBA := fun W => less_c b0 b1 b2 a0 a1 a2 W
  rw [decide_eq_true hl] at LBA
  clear hl
  have e0 : (a0 == b0) = false := by rw [beq_eq_false_iff_ne]; exact h0
  clear h0
  have TA := Lib.hid (((tri.new w (.int .i64 a0) (.int .u64 a1) (.int .u64 a2) 25).alloc (.cells #[.int .i64 b0, .int .u64 b1, .int .u64 b2] 25)).alloc (.cells #[.int .i64 c0, .int .u64 c1, .int .u64 c2] 25))
  have TB := Lib.hid ((tri.new' (b := w.heap.size + 1) (w := w.alloc (.cells #[.int .i64 a0, .int .u64 a1, .int .u64 a2] 25)) (by simp) (.int .i64 b0) (.int .u64 b1) (.int .u64 b2) 25).alloc (.cells #[.int .i64 c0, .int .u64 c1, .int .u64 c2] 25))
  have TC := Lib.hid (tri.new' (b := w.heap.size + 1 + 1) (w := (w.alloc (.cells #[.int .i64 a0, .int .u64 a1, .int .u64 a2] 25)).alloc (.cells #[.int .i64 b0, .int .u64 b1, .int .u64 b2] 25)) (by simp) (.int .i64 c0) (.int .u64 c1) (.int .u64 c2) 25)
  have HBW := Lib.hid (show Below w.heap.size w (((w.alloc (.cells #[.int .i64 a0, .int .u64 a1, .int .u64 a2] 25)).alloc (.cells #[.int .i64 b0, .int .u64 b1, .int .u64 b2] 25)).alloc (.cells #[.int .i64 c0, .int .u64 c1, .int .u64 c2] 25)) from chain1 (chain1 (chain1 (Below.refl _ _) _) _) _)
  go_enter Try.func7, Try.ntmps7
  go_wp2_with fail
  refine (awake14 _).mono ?_
  rintro e w1 ⟨rfl, hb1⟩
  replace HBW := Lib.hid (chain HBW.out hb1)
  replace TA := Lib.hid (TA.out.below hb1)
  replace TB := Lib.hid (TB.out.below hb1)
  replace TC := Lib.hid (TC.out.below hb1)
  obtain ⟨c0_TA, c1_TA, c2_TA, cl_TA⟩ := TA.out
  obtain ⟨c0_TB, c1_TB, c2_TB, cl_TB⟩ := TB.out
  obtain ⟨c0_TC, c1_TC, c2_TC, cl_TC⟩ := TC.out
  clear hb1
  go_wp2_with fail
  refine (LAB _).mono ?_
  rintro e w2 ⟨rfl, hb2⟩
  clear c0_TA c1_TA c2_TA cl_TA
  clear c0_TB c1_TB c2_TB cl_TB
  clear c0_TC c1_TC c2_TC cl_TC
  replace HBW := Lib.hid (chain HBW.out hb2)
  replace TA := Lib.hid (TA.out.below hb2)
  replace TB := Lib.hid (TB.out.below hb2)
  replace TC := Lib.hid (TC.out.below hb2)
  obtain ⟨c0_TA, c1_TA, c2_TA, cl_TA⟩ := TA.out
  obtain ⟨c0_TB, c1_TB, c2_TB, cl_TB⟩ := TB.out
  obtain ⟨c0_TC, c1_TC, c2_TC, cl_TC⟩ := TC.out
  clear hb2
  go_wp2_with fail
  (refine region_later (by kernel_rfl) (by kernel_rfl) ?_); (intro hlat); (repeat (go_big_quiet_step ((first | (go_at_call 22; with_reducible exact later_call (LAB _)) | (go_at_call 22; with_reducible exact later_call (LBA _)))))); (refine wpQuiet_nil ?_); (intro W3 hb3); (clear hlat)
  clear c0_TA c1_TA c2_TA cl_TA
  clear c0_TB c1_TB c2_TB cl_TB
  clear c0_TC c1_TC c2_TC cl_TC
  replace HBW := Lib.hid (chain HBW.out hb3)
  replace TA := Lib.hid (TA.out.below hb3)
  replace TB := Lib.hid (TB.out.below hb3)
  replace TC := Lib.hid (TC.out.below hb3)
  obtain ⟨c0_TA, c1_TA, c2_TA, cl_TA⟩ := TA.out
  obtain ⟨c0_TB, c1_TB, c2_TB, cl_TB⟩ := TB.out
  obtain ⟨c0_TC, c1_TC, c2_TC, cl_TC⟩ := TC.out
  clear hb3
  go_wp2_with fail
  go_ret
  exact ⟨by first | rfl | (simp; done), HBW.out⟩
set_option maxRecDepth 100000 in
set_option maxHeartbeats 4000000 in
theorem order_ab_q0_y (a0 a1 a2 b0 b1 b2 c0 c1 c2 : Int) (hl : LtI (a0, a1, a2) (b0, b1, b2)) (hk : LtI (b0, b1, b2) (c0, c1, c2)) (h0 : a0 ≠ b0) (w : World) :
    Calls Try.prog 7 #[.agg #[.int .i64 a0, .int .u64 a1, .int .u64 a2], .agg #[.int .i64 b0, .int .u64 b1, .int .u64 b2], .agg #[.int .i64 c0, .int .u64 c1, .int .u64 c2]] w fun e w' => e = .returned (.bool true) ∧ Below w.heap.size w w' := by
  have LAB := fun W => less_c a0 a1 a2 b0 b1 b2 W
  rw [decide_eq_true hl] at LAB
  have LBA := fun W => less_c b0 b1 b2 a0 a1 a2 W
  rw [decide_eq_false hl.asy] at LBA
  have LBC := fun W => less_c b0 b1 b2 c0 c1 c2 W
  rw [decide_eq_true hk] at LBC
  have LAC := fun W => less_c a0 a1 a2 c0 c1 c2 W
  rw [decide_eq_true (hl.tr hk)] at LAC
  clear hl hk
  have e0 : (a0 == b0) = false := by rw [beq_eq_false_iff_ne]; exact h0
  clear h0
  have TA := Lib.hid (((tri.new w (.int .i64 a0) (.int .u64 a1) (.int .u64 a2) 25).alloc (.cells #[.int .i64 b0, .int .u64 b1, .int .u64 b2] 25)).alloc (.cells #[.int .i64 c0, .int .u64 c1, .int .u64 c2] 25))
  have TB := Lib.hid ((tri.new' (b := w.heap.size + 1) (w := w.alloc (.cells #[.int .i64 a0, .int .u64 a1, .int .u64 a2] 25)) (by simp) (.int .i64 b0) (.int .u64 b1) (.int .u64 b2) 25).alloc (.cells #[.int .i64 c0, .int .u64 c1, .int .u64 c2] 25))
  have TC := Lib.hid (tri.new' (b := w.heap.size + 1 + 1) (w := (w.alloc (.cells #[.int .i64 a0, .int .u64 a1, .int .u64 a2] 25)).alloc (.cells #[.int .i64 b0, .int .u64 b1, .int .u64 b2] 25)) (by simp) (.int .i64 c0) (.int .u64 c1) (.int .u64 c2) 25)
  have HBW := Lib.hid (show Below w.heap.size w (((w.alloc (.cells #[.int .i64 a0, .int .u64 a1, .int .u64 a2] 25)).alloc (.cells #[.int .i64 b0, .int .u64 b1, .int .u64 b2] 25)).alloc (.cells #[.int .i64 c0, .int .u64 c1, .int .u64 c2] 25)) from chain1 (chain1 (chain1 (Below.refl _ _) _) _) _)
  go_enter Try.func7, Try.ntmps7
  go_wp2_with fail
  refine (awake14 _).mono ?_
  rintro e w1 ⟨rfl, hb1⟩
  replace HBW := Lib.hid (chain HBW.out hb1)
  replace TA := Lib.hid (TA.out.below hb1)
  replace TB := Lib.hid (TB.out.below hb1)
  replace TC := Lib.hid (TC.out.below hb1)
  obtain ⟨c0_TA, c1_TA, c2_TA, cl_TA⟩ := TA.out
  obtain ⟨c0_TB, c1_TB, c2_TB, cl_TB⟩ := TB.out
  obtain ⟨c0_TC, c1_TC, c2_TC, cl_TC⟩ := TC.out
  clear hb1
  go_wp2_with fail
  refine (LAB _).mono ?_
  rintro e w2 ⟨rfl, hb2⟩
  clear c0_TA c1_TA c2_TA cl_TA
  clear c0_TB c1_TB c2_TB cl_TB
  clear c0_TC c1_TC c2_TC cl_TC
  replace HBW := Lib.hid (chain HBW.out hb2)
  replace TA := Lib.hid (TA.out.below hb2)
  replace TB := Lib.hid (TB.out.below hb2)
  replace TC := Lib.hid (TC.out.below hb2)
  obtain ⟨c0_TA, c1_TA, c2_TA, cl_TA⟩ := TA.out
  obtain ⟨c0_TB, c1_TB, c2_TB, cl_TB⟩ := TB.out
  obtain ⟨c0_TC, c1_TC, c2_TC, cl_TC⟩ := TC.out
  clear hb2
  go_wp2_with fail
  refine (LBC _).mono ?_
  rintro e w3 ⟨rfl, hb3⟩
  clear c0_TA c1_TA c2_TA cl_TA
  clear c0_TB c1_TB c2_TB cl_TB
  clear c0_TC c1_TC c2_TC cl_TC
  replace HBW := Lib.hid (chain HBW.out hb3)
  replace TA := Lib.hid (TA.out.below hb3)
  replace TB := Lib.hid (TB.out.below hb3)
  replace TC := Lib.hid (TC.out.below hb3)
  obtain ⟨c0_TA, c1_TA, c2_TA, cl_TA⟩ := TA.out
  obtain ⟨c0_TB, c1_TB, c2_TB, cl_TB⟩ := TB.out
  obtain ⟨c0_TC, c1_TC, c2_TC, cl_TC⟩ := TC.out
  clear hb3
  go_wp2_with fail
  refine (LAC _).mono ?_
  rintro e w4 ⟨rfl, hb4⟩
  clear c0_TA c1_TA c2_TA cl_TA
  clear c0_TB c1_TB c2_TB cl_TB
  clear c0_TC c1_TC c2_TC cl_TC
  replace HBW := Lib.hid (chain HBW.out hb4)
  replace TA := Lib.hid (TA.out.below hb4)
  replace TB := Lib.hid (TB.out.below hb4)
  replace TC := Lib.hid (TC.out.below hb4)
  obtain ⟨c0_TA, c1_TA, c2_TA, cl_TA⟩ := TA.out
  obtain ⟨c0_TB, c1_TB, c2_TB, cl_TB⟩ := TB.out
  obtain ⟨c0_TC, c1_TC, c2_TC, cl_TC⟩ := TC.out
  clear hb4
  go_wp2_with fail
  (refine region_later (by kernel_rfl) (by kernel_rfl) ?_); (intro hlat); (repeat (go_big_quiet_step ((first | (go_at_call 22; with_reducible exact later_call (LAB _)) | (go_at_call 22; with_reducible exact later_call (LBA _)))))); (refine wpQuiet_nil ?_); (intro W5 hb5); (clear hlat)
  clear c0_TA c1_TA c2_TA cl_TA
  clear c0_TB c1_TB c2_TB cl_TB
  clear c0_TC c1_TC c2_TC cl_TC
  replace HBW := Lib.hid (chain HBW.out hb5)
  replace TA := Lib.hid (TA.out.below hb5)
  replace TB := Lib.hid (TB.out.below hb5)
  replace TC := Lib.hid (TC.out.below hb5)
  obtain ⟨c0_TA, c1_TA, c2_TA, cl_TA⟩ := TA.out
  obtain ⟨c0_TB, c1_TB, c2_TB, cl_TB⟩ := TB.out
  obtain ⟨c0_TC, c1_TC, c2_TC, cl_TC⟩ := TC.out
  clear hb5
  go_wp2_with fail
  go_ret
  exact ⟨by first | rfl | (simp; done), HBW.out⟩
set_option maxRecDepth 100000 in
set_option maxHeartbeats 4000000 in
theorem order_ab_q0_n (a0 a1 a2 b0 b1 b2 c0 c1 c2 : Int) (hl : LtI (a0, a1, a2) (b0, b1, b2)) (hk : ¬LtI (b0, b1, b2) (c0, c1, c2)) (h0 : a0 ≠ b0) (w : World) :
    Calls Try.prog 7 #[.agg #[.int .i64 a0, .int .u64 a1, .int .u64 a2], .agg #[.int .i64 b0, .int .u64 b1, .int .u64 b2], .agg #[.int .i64 c0, .int .u64 c1, .int .u64 c2]] w fun e w' => e = .returned (.bool true) ∧ Below w.heap.size w w' := by
  have LAB := fun W => less_c a0 a1 a2 b0 b1 b2 W
  rw [decide_eq_true hl] at LAB
  have LBA := fun W => less_c b0 b1 b2 a0 a1 a2 W
  rw [decide_eq_false hl.asy] at LBA
  have LBC := fun W => less_c b0 b1 b2 c0 c1 c2 W
  rw [decide_eq_false hk] at LBC
  clear hl hk
  have e0 : (a0 == b0) = false := by rw [beq_eq_false_iff_ne]; exact h0
  clear h0
  have TA := Lib.hid (((tri.new w (.int .i64 a0) (.int .u64 a1) (.int .u64 a2) 25).alloc (.cells #[.int .i64 b0, .int .u64 b1, .int .u64 b2] 25)).alloc (.cells #[.int .i64 c0, .int .u64 c1, .int .u64 c2] 25))
  have TB := Lib.hid ((tri.new' (b := w.heap.size + 1) (w := w.alloc (.cells #[.int .i64 a0, .int .u64 a1, .int .u64 a2] 25)) (by simp) (.int .i64 b0) (.int .u64 b1) (.int .u64 b2) 25).alloc (.cells #[.int .i64 c0, .int .u64 c1, .int .u64 c2] 25))
  have TC := Lib.hid (tri.new' (b := w.heap.size + 1 + 1) (w := (w.alloc (.cells #[.int .i64 a0, .int .u64 a1, .int .u64 a2] 25)).alloc (.cells #[.int .i64 b0, .int .u64 b1, .int .u64 b2] 25)) (by simp) (.int .i64 c0) (.int .u64 c1) (.int .u64 c2) 25)
  have HBW := Lib.hid (show Below w.heap.size w (((w.alloc (.cells #[.int .i64 a0, .int .u64 a1, .int .u64 a2] 25)).alloc (.cells #[.int .i64 b0, .int .u64 b1, .int .u64 b2] 25)).alloc (.cells #[.int .i64 c0, .int .u64 c1, .int .u64 c2] 25)) from chain1 (chain1 (chain1 (Below.refl _ _) _) _) _)
  go_enter Try.func7, Try.ntmps7
  go_wp2_with fail
  refine (awake14 _).mono ?_
  rintro e w1 ⟨rfl, hb1⟩
  replace HBW := Lib.hid (chain HBW.out hb1)
  replace TA := Lib.hid (TA.out.below hb1)
  replace TB := Lib.hid (TB.out.below hb1)
  replace TC := Lib.hid (TC.out.below hb1)
  obtain ⟨c0_TA, c1_TA, c2_TA, cl_TA⟩ := TA.out
  obtain ⟨c0_TB, c1_TB, c2_TB, cl_TB⟩ := TB.out
  obtain ⟨c0_TC, c1_TC, c2_TC, cl_TC⟩ := TC.out
  clear hb1
  go_wp2_with fail
  refine (LAB _).mono ?_
  rintro e w2 ⟨rfl, hb2⟩
  clear c0_TA c1_TA c2_TA cl_TA
  clear c0_TB c1_TB c2_TB cl_TB
  clear c0_TC c1_TC c2_TC cl_TC
  replace HBW := Lib.hid (chain HBW.out hb2)
  replace TA := Lib.hid (TA.out.below hb2)
  replace TB := Lib.hid (TB.out.below hb2)
  replace TC := Lib.hid (TC.out.below hb2)
  obtain ⟨c0_TA, c1_TA, c2_TA, cl_TA⟩ := TA.out
  obtain ⟨c0_TB, c1_TB, c2_TB, cl_TB⟩ := TB.out
  obtain ⟨c0_TC, c1_TC, c2_TC, cl_TC⟩ := TC.out
  clear hb2
  go_wp2_with fail
  refine (LBC _).mono ?_
  rintro e w3 ⟨rfl, hb3⟩
  clear c0_TA c1_TA c2_TA cl_TA
  clear c0_TB c1_TB c2_TB cl_TB
  clear c0_TC c1_TC c2_TC cl_TC
  replace HBW := Lib.hid (chain HBW.out hb3)
  replace TA := Lib.hid (TA.out.below hb3)
  replace TB := Lib.hid (TB.out.below hb3)
  replace TC := Lib.hid (TC.out.below hb3)
  obtain ⟨c0_TA, c1_TA, c2_TA, cl_TA⟩ := TA.out
  obtain ⟨c0_TB, c1_TB, c2_TB, cl_TB⟩ := TB.out
  obtain ⟨c0_TC, c1_TC, c2_TC, cl_TC⟩ := TC.out
  clear hb3
  go_wp2_with fail
  (refine region_later (by kernel_rfl) (by kernel_rfl) ?_); (intro hlat); (repeat (go_big_quiet_step ((first | (go_at_call 22; with_reducible exact later_call (LAB _)) | (go_at_call 22; with_reducible exact later_call (LBA _)))))); (refine wpQuiet_nil ?_); (intro W4 hb4); (clear hlat)
  clear c0_TA c1_TA c2_TA cl_TA
  clear c0_TB c1_TB c2_TB cl_TB
  clear c0_TC c1_TC c2_TC cl_TC
  replace HBW := Lib.hid (chain HBW.out hb4)
  replace TA := Lib.hid (TA.out.below hb4)
  replace TB := Lib.hid (TB.out.below hb4)
  replace TC := Lib.hid (TC.out.below hb4)
  obtain ⟨c0_TA, c1_TA, c2_TA, cl_TA⟩ := TA.out
  obtain ⟨c0_TB, c1_TB, c2_TB, cl_TB⟩ := TB.out
  obtain ⟨c0_TC, c1_TC, c2_TC, cl_TC⟩ := TC.out
  clear hb4
  go_wp2_with fail
  go_ret
  exact ⟨by first | rfl | (simp; done), HBW.out⟩
set_option maxRecDepth 100000 in
set_option maxHeartbeats 4000000 in
theorem order_ba_q1 (a0 a1 a2 b0 b1 b2 c0 c1 c2 : Int) (hl : LtI (b0, b1, b2) (a0, a1, a2)) (h0 : a0 = b0) (h1 : a1 ≠ b1) (w : World) :
    Calls Try.prog 7 #[.agg #[.int .i64 a0, .int .u64 a1, .int .u64 a2], .agg #[.int .i64 b0, .int .u64 b1, .int .u64 b2], .agg #[.int .i64 c0, .int .u64 c1, .int .u64 c2]] w fun e w' => e = .returned (.bool true) ∧ Below w.heap.size w w' := by
  have LAB := fun W => less_c a0 a1 a2 b0 b1 b2 W
  rw [decide_eq_false hl.asy] at LAB
  have LBA := fun W => less_c b0 b1 b2 a0 a1 a2 W
  rw [decide_eq_true hl] at LBA
  clear hl
  subst h0
  have e1 : (a1 == b1) = false := by rw [beq_eq_false_iff_ne]; exact h1
  clear h1
  have TA := Lib.hid (((tri.new w (.int .i64 a0) (.int .u64 a1) (.int .u64 a2) 25).alloc (.cells #[.int .i64 a0, .int .u64 b1, .int .u64 b2] 25)).alloc (.cells #[.int .i64 c0, .int .u64 c1, .int .u64 c2] 25))
  have TB := Lib.hid ((tri.new' (b := w.heap.size + 1) (w := w.alloc (.cells #[.int .i64 a0, .int .u64 a1, .int .u64 a2] 25)) (by simp) (.int .i64 a0) (.int .u64 b1) (.int .u64 b2) 25).alloc (.cells #[.int .i64 c0, .int .u64 c1, .int .u64 c2] 25))
  have TC := Lib.hid (tri.new' (b := w.heap.size + 1 + 1) (w := (w.alloc (.cells #[.int .i64 a0, .int .u64 a1, .int .u64 a2] 25)).alloc (.cells #[.int .i64 a0, .int .u64 b1, .int .u64 b2] 25)) (by simp) (.int .i64 c0) (.int .u64 c1) (.int .u64 c2) 25)
  have HBW := Lib.hid (show Below w.heap.size w (((w.alloc (.cells #[.int .i64 a0, .int .u64 a1, .int .u64 a2] 25)).alloc (.cells #[.int .i64 a0, .int .u64 b1, .int .u64 b2] 25)).alloc (.cells #[.int .i64 c0, .int .u64 c1, .int .u64 c2] 25)) from chain1 (chain1 (chain1 (Below.refl _ _) _) _) _)
  go_enter Try.func7, Try.ntmps7
  go_wp2_with fail
  refine (awake14 _).mono ?_
  rintro e w1 ⟨rfl, hb1⟩
  replace HBW := Lib.hid (chain HBW.out hb1)
  replace TA := Lib.hid (TA.out.below hb1)
  replace TB := Lib.hid (TB.out.below hb1)
  replace TC := Lib.hid (TC.out.below hb1)
  obtain ⟨c0_TA, c1_TA, c2_TA, cl_TA⟩ := TA.out
  obtain ⟨c0_TB, c1_TB, c2_TB, cl_TB⟩ := TB.out
  obtain ⟨c0_TC, c1_TC, c2_TC, cl_TC⟩ := TC.out
  clear hb1
  go_wp2_with fail
  refine (LAB _).mono ?_
  rintro e w2 ⟨rfl, hb2⟩
  clear c0_TA c1_TA c2_TA cl_TA
  clear c0_TB c1_TB c2_TB cl_TB
  clear c0_TC c1_TC c2_TC cl_TC
  replace HBW := Lib.hid (chain HBW.out hb2)
  replace TA := Lib.hid (TA.out.below hb2)
  replace TB := Lib.hid (TB.out.below hb2)
  replace TC := Lib.hid (TC.out.below hb2)
  obtain ⟨c0_TA, c1_TA, c2_TA, cl_TA⟩ := TA.out
  obtain ⟨c0_TB, c1_TB, c2_TB, cl_TB⟩ := TB.out
  obtain ⟨c0_TC, c1_TC, c2_TC, cl_TC⟩ := TC.out
  clear hb2
  go_wp2_with fail
  (refine region_later (by kernel_rfl) (by kernel_rfl) ?_); (intro hlat); (repeat (go_big_quiet_step ((first | (go_at_call 22; with_reducible exact later_call (LAB _)) | (go_at_call 22; with_reducible exact later_call (LBA _)))))); (refine wpQuiet_nil ?_); (intro W3 hb3); (clear hlat)
  clear c0_TA c1_TA c2_TA cl_TA
  clear c0_TB c1_TB c2_TB cl_TB
  clear c0_TC c1_TC c2_TC cl_TC
  replace HBW := Lib.hid (chain HBW.out hb3)
  replace TA := Lib.hid (TA.out.below hb3)
  replace TB := Lib.hid (TB.out.below hb3)
  replace TC := Lib.hid (TC.out.below hb3)
  obtain ⟨c0_TA, c1_TA, c2_TA, cl_TA⟩ := TA.out
  obtain ⟨c0_TB, c1_TB, c2_TB, cl_TB⟩ := TB.out
  obtain ⟨c0_TC, c1_TC, c2_TC, cl_TC⟩ := TC.out
  clear hb3
  go_wp2_with fail
  go_ret
  exact ⟨by first | rfl | (simp; done), HBW.out⟩
set_option maxRecDepth 100000 in
set_option maxHeartbeats 4000000 in
theorem order_ab_q1_y (a0 a1 a2 b0 b1 b2 c0 c1 c2 : Int) (hl : LtI (a0, a1, a2) (b0, b1, b2)) (hk : LtI (b0, b1, b2) (c0, c1, c2)) (h0 : a0 = b0) (h1 : a1 ≠ b1) (w : World) :
    Calls Try.prog 7 #[.agg #[.int .i64 a0, .int .u64 a1, .int .u64 a2], .agg #[.int .i64 b0, .int .u64 b1, .int .u64 b2], .agg #[.int .i64 c0, .int .u64 c1, .int .u64 c2]] w fun e w' => e = .returned (.bool true) ∧ Below w.heap.size w w' := by
  have LAB := fun W => less_c a0 a1 a2 b0 b1 b2 W
  rw [decide_eq_true hl] at LAB
  have LBA := fun W => less_c b0 b1 b2 a0 a1 a2 W
  rw [decide_eq_false hl.asy] at LBA
  have LBC := fun W => less_c b0 b1 b2 c0 c1 c2 W
  rw [decide_eq_true hk] at LBC
  have LAC := fun W => less_c a0 a1 a2 c0 c1 c2 W
  rw [decide_eq_true (hl.tr hk)] at LAC
  clear hl hk
  subst h0
  have e1 : (a1 == b1) = false := by rw [beq_eq_false_iff_ne]; exact h1
  clear h1
  have TA := Lib.hid (((tri.new w (.int .i64 a0) (.int .u64 a1) (.int .u64 a2) 25).alloc (.cells #[.int .i64 a0, .int .u64 b1, .int .u64 b2] 25)).alloc (.cells #[.int .i64 c0, .int .u64 c1, .int .u64 c2] 25))
  have TB := Lib.hid ((tri.new' (b := w.heap.size + 1) (w := w.alloc (.cells #[.int .i64 a0, .int .u64 a1, .int .u64 a2] 25)) (by simp) (.int .i64 a0) (.int .u64 b1) (.int .u64 b2) 25).alloc (.cells #[.int .i64 c0, .int .u64 c1, .int .u64 c2] 25))
  have TC := Lib.hid (tri.new' (b := w.heap.size + 1 + 1) (w := (w.alloc (.cells #[.int .i64 a0, .int .u64 a1, .int .u64 a2] 25)).alloc (.cells #[.int .i64 a0, .int .u64 b1, .int .u64 b2] 25)) (by simp) (.int .i64 c0) (.int .u64 c1) (.int .u64 c2) 25)
  have HBW := Lib.hid (show Below w.heap.size w (((w.alloc (.cells #[.int .i64 a0, .int .u64 a1, .int .u64 a2] 25)).alloc (.cells #[.int .i64 a0, .int .u64 b1, .int .u64 b2] 25)).alloc (.cells #[.int .i64 c0, .int .u64 c1, .int .u64 c2] 25)) from chain1 (chain1 (chain1 (Below.refl _ _) _) _) _)
  go_enter Try.func7, Try.ntmps7
  go_wp2_with fail
  refine (awake14 _).mono ?_
  rintro e w1 ⟨rfl, hb1⟩
  replace HBW := Lib.hid (chain HBW.out hb1)
  replace TA := Lib.hid (TA.out.below hb1)
  replace TB := Lib.hid (TB.out.below hb1)
  replace TC := Lib.hid (TC.out.below hb1)
  obtain ⟨c0_TA, c1_TA, c2_TA, cl_TA⟩ := TA.out
  obtain ⟨c0_TB, c1_TB, c2_TB, cl_TB⟩ := TB.out
  obtain ⟨c0_TC, c1_TC, c2_TC, cl_TC⟩ := TC.out
  clear hb1
  go_wp2_with fail
  refine (LAB _).mono ?_
  rintro e w2 ⟨rfl, hb2⟩
  clear c0_TA c1_TA c2_TA cl_TA
  clear c0_TB c1_TB c2_TB cl_TB
  clear c0_TC c1_TC c2_TC cl_TC
  replace HBW := Lib.hid (chain HBW.out hb2)
  replace TA := Lib.hid (TA.out.below hb2)
  replace TB := Lib.hid (TB.out.below hb2)
  replace TC := Lib.hid (TC.out.below hb2)
  obtain ⟨c0_TA, c1_TA, c2_TA, cl_TA⟩ := TA.out
  obtain ⟨c0_TB, c1_TB, c2_TB, cl_TB⟩ := TB.out
  obtain ⟨c0_TC, c1_TC, c2_TC, cl_TC⟩ := TC.out
  clear hb2
  go_wp2_with fail
  refine (LBC _).mono ?_
  rintro e w3 ⟨rfl, hb3⟩
  clear c0_TA c1_TA c2_TA cl_TA
  clear c0_TB c1_TB c2_TB cl_TB
  clear c0_TC c1_TC c2_TC cl_TC
  replace HBW := Lib.hid (chain HBW.out hb3)
  replace TA := Lib.hid (TA.out.below hb3)
  replace TB := Lib.hid (TB.out.below hb3)
  replace TC := Lib.hid (TC.out.below hb3)
  obtain ⟨c0_TA, c1_TA, c2_TA, cl_TA⟩ := TA.out
  obtain ⟨c0_TB, c1_TB, c2_TB, cl_TB⟩ := TB.out
  obtain ⟨c0_TC, c1_TC, c2_TC, cl_TC⟩ := TC.out
  clear hb3
  go_wp2_with fail
  refine (LAC _).mono ?_
  rintro e w4 ⟨rfl, hb4⟩
  clear c0_TA c1_TA c2_TA cl_TA
  clear c0_TB c1_TB c2_TB cl_TB
  clear c0_TC c1_TC c2_TC cl_TC
  replace HBW := Lib.hid (chain HBW.out hb4)
  replace TA := Lib.hid (TA.out.below hb4)
  replace TB := Lib.hid (TB.out.below hb4)
  replace TC := Lib.hid (TC.out.below hb4)
  obtain ⟨c0_TA, c1_TA, c2_TA, cl_TA⟩ := TA.out
  obtain ⟨c0_TB, c1_TB, c2_TB, cl_TB⟩ := TB.out
  obtain ⟨c0_TC, c1_TC, c2_TC, cl_TC⟩ := TC.out
  clear hb4
  go_wp2_with fail
  (refine region_later (by kernel_rfl) (by kernel_rfl) ?_); (intro hlat); (repeat (go_big_quiet_step ((first | (go_at_call 22; with_reducible exact later_call (LAB _)) | (go_at_call 22; with_reducible exact later_call (LBA _)))))); (refine wpQuiet_nil ?_); (intro W5 hb5); (clear hlat)
  clear c0_TA c1_TA c2_TA cl_TA
  clear c0_TB c1_TB c2_TB cl_TB
  clear c0_TC c1_TC c2_TC cl_TC
  replace HBW := Lib.hid (chain HBW.out hb5)
  replace TA := Lib.hid (TA.out.below hb5)
  replace TB := Lib.hid (TB.out.below hb5)
  replace TC := Lib.hid (TC.out.below hb5)
  obtain ⟨c0_TA, c1_TA, c2_TA, cl_TA⟩ := TA.out
  obtain ⟨c0_TB, c1_TB, c2_TB, cl_TB⟩ := TB.out
  obtain ⟨c0_TC, c1_TC, c2_TC, cl_TC⟩ := TC.out
  clear hb5
  go_wp2_with fail
  go_ret
  exact ⟨by first | rfl | (simp; done), HBW.out⟩
set_option maxRecDepth 100000 in
set_option maxHeartbeats 4000000 in
theorem order_ab_q1_n (a0 a1 a2 b0 b1 b2 c0 c1 c2 : Int) (hl : LtI (a0, a1, a2) (b0, b1, b2)) (hk : ¬LtI (b0, b1, b2) (c0, c1, c2)) (h0 : a0 = b0) (h1 : a1 ≠ b1) (w : World) :
    Calls Try.prog 7 #[.agg #[.int .i64 a0, .int .u64 a1, .int .u64 a2], .agg #[.int .i64 b0, .int .u64 b1, .int .u64 b2], .agg #[.int .i64 c0, .int .u64 c1, .int .u64 c2]] w fun e w' => e = .returned (.bool true) ∧ Below w.heap.size w w' := by
  have LAB := fun W => less_c a0 a1 a2 b0 b1 b2 W
  rw [decide_eq_true hl] at LAB
  have LBA := fun W => less_c b0 b1 b2 a0 a1 a2 W
  rw [decide_eq_false hl.asy] at LBA
  have LBC := fun W => less_c b0 b1 b2 c0 c1 c2 W
  rw [decide_eq_false hk] at LBC
  clear hl hk
  subst h0
  have e1 : (a1 == b1) = false := by rw [beq_eq_false_iff_ne]; exact h1
  clear h1
  have TA := Lib.hid (((tri.new w (.int .i64 a0) (.int .u64 a1) (.int .u64 a2) 25).alloc (.cells #[.int .i64 a0, .int .u64 b1, .int .u64 b2] 25)).alloc (.cells #[.int .i64 c0, .int .u64 c1, .int .u64 c2] 25))
  have TB := Lib.hid ((tri.new' (b := w.heap.size + 1) (w := w.alloc (.cells #[.int .i64 a0, .int .u64 a1, .int .u64 a2] 25)) (by simp) (.int .i64 a0) (.int .u64 b1) (.int .u64 b2) 25).alloc (.cells #[.int .i64 c0, .int .u64 c1, .int .u64 c2] 25))
  have TC := Lib.hid (tri.new' (b := w.heap.size + 1 + 1) (w := (w.alloc (.cells #[.int .i64 a0, .int .u64 a1, .int .u64 a2] 25)).alloc (.cells #[.int .i64 a0, .int .u64 b1, .int .u64 b2] 25)) (by simp) (.int .i64 c0) (.int .u64 c1) (.int .u64 c2) 25)
  have HBW := Lib.hid (show Below w.heap.size w (((w.alloc (.cells #[.int .i64 a0, .int .u64 a1, .int .u64 a2] 25)).alloc (.cells #[.int .i64 a0, .int .u64 b1, .int .u64 b2] 25)).alloc (.cells #[.int .i64 c0, .int .u64 c1, .int .u64 c2] 25)) from chain1 (chain1 (chain1 (Below.refl _ _) _) _) _)
  go_enter Try.func7, Try.ntmps7
  go_wp2_with fail
  refine (awake14 _).mono ?_
  rintro e w1 ⟨rfl, hb1⟩
  replace HBW := Lib.hid (chain HBW.out hb1)
  replace TA := Lib.hid (TA.out.below hb1)
  replace TB := Lib.hid (TB.out.below hb1)
  replace TC := Lib.hid (TC.out.below hb1)
  obtain ⟨c0_TA, c1_TA, c2_TA, cl_TA⟩ := TA.out
  obtain ⟨c0_TB, c1_TB, c2_TB, cl_TB⟩ := TB.out
  obtain ⟨c0_TC, c1_TC, c2_TC, cl_TC⟩ := TC.out
  clear hb1
  go_wp2_with fail
  refine (LAB _).mono ?_
  rintro e w2 ⟨rfl, hb2⟩
  clear c0_TA c1_TA c2_TA cl_TA
  clear c0_TB c1_TB c2_TB cl_TB
  clear c0_TC c1_TC c2_TC cl_TC
  replace HBW := Lib.hid (chain HBW.out hb2)
  replace TA := Lib.hid (TA.out.below hb2)
  replace TB := Lib.hid (TB.out.below hb2)
  replace TC := Lib.hid (TC.out.below hb2)
  obtain ⟨c0_TA, c1_TA, c2_TA, cl_TA⟩ := TA.out
  obtain ⟨c0_TB, c1_TB, c2_TB, cl_TB⟩ := TB.out
  obtain ⟨c0_TC, c1_TC, c2_TC, cl_TC⟩ := TC.out
  clear hb2
  go_wp2_with fail
  refine (LBC _).mono ?_
  rintro e w3 ⟨rfl, hb3⟩
  clear c0_TA c1_TA c2_TA cl_TA
  clear c0_TB c1_TB c2_TB cl_TB
  clear c0_TC c1_TC c2_TC cl_TC
  replace HBW := Lib.hid (chain HBW.out hb3)
  replace TA := Lib.hid (TA.out.below hb3)
  replace TB := Lib.hid (TB.out.below hb3)
  replace TC := Lib.hid (TC.out.below hb3)
  obtain ⟨c0_TA, c1_TA, c2_TA, cl_TA⟩ := TA.out
  obtain ⟨c0_TB, c1_TB, c2_TB, cl_TB⟩ := TB.out
  obtain ⟨c0_TC, c1_TC, c2_TC, cl_TC⟩ := TC.out
  clear hb3
  go_wp2_with fail
  (refine region_later (by kernel_rfl) (by kernel_rfl) ?_); (intro hlat); (repeat (go_big_quiet_step ((first | (go_at_call 22; with_reducible exact later_call (LAB _)) | (go_at_call 22; with_reducible exact later_call (LBA _)))))); (refine wpQuiet_nil ?_); (intro W4 hb4); (clear hlat)
  clear c0_TA c1_TA c2_TA cl_TA
  clear c0_TB c1_TB c2_TB cl_TB
  clear c0_TC c1_TC c2_TC cl_TC
  replace HBW := Lib.hid (chain HBW.out hb4)
  replace TA := Lib.hid (TA.out.below hb4)
  replace TB := Lib.hid (TB.out.below hb4)
  replace TC := Lib.hid (TC.out.below hb4)
  obtain ⟨c0_TA, c1_TA, c2_TA, cl_TA⟩ := TA.out
  obtain ⟨c0_TB, c1_TB, c2_TB, cl_TB⟩ := TB.out
  obtain ⟨c0_TC, c1_TC, c2_TC, cl_TC⟩ := TC.out
  clear hb4
  go_wp2_with fail
  go_ret
  exact ⟨by first | rfl | (simp; done), HBW.out⟩
set_option maxRecDepth 100000 in
set_option maxHeartbeats 4000000 in
theorem order_ba_q2 (a0 a1 a2 b0 b1 b2 c0 c1 c2 : Int) (hl : LtI (b0, b1, b2) (a0, a1, a2)) (h0 : a0 = b0) (h1 : a1 = b1) (h2 : a2 ≠ b2) (w : World) :
    Calls Try.prog 7 #[.agg #[.int .i64 a0, .int .u64 a1, .int .u64 a2], .agg #[.int .i64 b0, .int .u64 b1, .int .u64 b2], .agg #[.int .i64 c0, .int .u64 c1, .int .u64 c2]] w fun e w' => e = .returned (.bool true) ∧ Below w.heap.size w w' := by
  have LAB := fun W => less_c a0 a1 a2 b0 b1 b2 W
  rw [decide_eq_false hl.asy] at LAB
  have LBA := fun W => less_c b0 b1 b2 a0 a1 a2 W
  rw [decide_eq_true hl] at LBA
  clear hl
  subst h0 h1
  have e2 : (a2 == b2) = false := by rw [beq_eq_false_iff_ne]; exact h2
  clear h2
  have TA := Lib.hid (((tri.new w (.int .i64 a0) (.int .u64 a1) (.int .u64 a2) 25).alloc (.cells #[.int .i64 a0, .int .u64 a1, .int .u64 b2] 25)).alloc (.cells #[.int .i64 c0, .int .u64 c1, .int .u64 c2] 25))
  have TB := Lib.hid ((tri.new' (b := w.heap.size + 1) (w := w.alloc (.cells #[.int .i64 a0, .int .u64 a1, .int .u64 a2] 25)) (by simp) (.int .i64 a0) (.int .u64 a1) (.int .u64 b2) 25).alloc (.cells #[.int .i64 c0, .int .u64 c1, .int .u64 c2] 25))
  have TC := Lib.hid (tri.new' (b := w.heap.size + 1 + 1) (w := (w.alloc (.cells #[.int .i64 a0, .int .u64 a1, .int .u64 a2] 25)).alloc (.cells #[.int .i64 a0, .int .u64 a1, .int .u64 b2] 25)) (by simp) (.int .i64 c0) (.int .u64 c1) (.int .u64 c2) 25)
  have HBW := Lib.hid (show Below w.heap.size w (((w.alloc (.cells #[.int .i64 a0, .int .u64 a1, .int .u64 a2] 25)).alloc (.cells #[.int .i64 a0, .int .u64 a1, .int .u64 b2] 25)).alloc (.cells #[.int .i64 c0, .int .u64 c1, .int .u64 c2] 25)) from chain1 (chain1 (chain1 (Below.refl _ _) _) _) _)
  go_enter Try.func7, Try.ntmps7
  go_wp2_with fail
  refine (awake14 _).mono ?_
  rintro e w1 ⟨rfl, hb1⟩
  replace HBW := Lib.hid (chain HBW.out hb1)
  replace TA := Lib.hid (TA.out.below hb1)
  replace TB := Lib.hid (TB.out.below hb1)
  replace TC := Lib.hid (TC.out.below hb1)
  obtain ⟨c0_TA, c1_TA, c2_TA, cl_TA⟩ := TA.out
  obtain ⟨c0_TB, c1_TB, c2_TB, cl_TB⟩ := TB.out
  obtain ⟨c0_TC, c1_TC, c2_TC, cl_TC⟩ := TC.out
  clear hb1
  go_wp2_with fail
  refine (LAB _).mono ?_
  rintro e w2 ⟨rfl, hb2⟩
  clear c0_TA c1_TA c2_TA cl_TA
  clear c0_TB c1_TB c2_TB cl_TB
  clear c0_TC c1_TC c2_TC cl_TC
  replace HBW := Lib.hid (chain HBW.out hb2)
  replace TA := Lib.hid (TA.out.below hb2)
  replace TB := Lib.hid (TB.out.below hb2)
  replace TC := Lib.hid (TC.out.below hb2)
  obtain ⟨c0_TA, c1_TA, c2_TA, cl_TA⟩ := TA.out
  obtain ⟨c0_TB, c1_TB, c2_TB, cl_TB⟩ := TB.out
  obtain ⟨c0_TC, c1_TC, c2_TC, cl_TC⟩ := TC.out
  clear hb2
  go_wp2_with fail
  (refine region_later (by kernel_rfl) (by kernel_rfl) ?_); (intro hlat); (repeat (go_big_quiet_step ((first | (go_at_call 22; with_reducible exact later_call (LAB _)) | (go_at_call 22; with_reducible exact later_call (LBA _)))))); (refine wpQuiet_nil ?_); (intro W3 hb3); (clear hlat)
  clear c0_TA c1_TA c2_TA cl_TA
  clear c0_TB c1_TB c2_TB cl_TB
  clear c0_TC c1_TC c2_TC cl_TC
  replace HBW := Lib.hid (chain HBW.out hb3)
  replace TA := Lib.hid (TA.out.below hb3)
  replace TB := Lib.hid (TB.out.below hb3)
  replace TC := Lib.hid (TC.out.below hb3)
  obtain ⟨c0_TA, c1_TA, c2_TA, cl_TA⟩ := TA.out
  obtain ⟨c0_TB, c1_TB, c2_TB, cl_TB⟩ := TB.out
  obtain ⟨c0_TC, c1_TC, c2_TC, cl_TC⟩ := TC.out
  clear hb3
  go_wp2_with fail
  go_ret
  exact ⟨by first | rfl | (simp; done), HBW.out⟩
set_option maxRecDepth 100000 in
set_option maxHeartbeats 4000000 in
theorem order_ab_q2_y (a0 a1 a2 b0 b1 b2 c0 c1 c2 : Int) (hl : LtI (a0, a1, a2) (b0, b1, b2)) (hk : LtI (b0, b1, b2) (c0, c1, c2)) (h0 : a0 = b0) (h1 : a1 = b1) (h2 : a2 ≠ b2) (w : World) :
    Calls Try.prog 7 #[.agg #[.int .i64 a0, .int .u64 a1, .int .u64 a2], .agg #[.int .i64 b0, .int .u64 b1, .int .u64 b2], .agg #[.int .i64 c0, .int .u64 c1, .int .u64 c2]] w fun e w' => e = .returned (.bool true) ∧ Below w.heap.size w w' := by
  have LAB := fun W => less_c a0 a1 a2 b0 b1 b2 W
  rw [decide_eq_true hl] at LAB
  have LBA := fun W => less_c b0 b1 b2 a0 a1 a2 W
  rw [decide_eq_false hl.asy] at LBA
  have LBC := fun W => less_c b0 b1 b2 c0 c1 c2 W
  rw [decide_eq_true hk] at LBC
  have LAC := fun W => less_c a0 a1 a2 c0 c1 c2 W
  rw [decide_eq_true (hl.tr hk)] at LAC
  clear hl hk
  subst h0 h1
  have e2 : (a2 == b2) = false := by rw [beq_eq_false_iff_ne]; exact h2
  clear h2
  have TA := Lib.hid (((tri.new w (.int .i64 a0) (.int .u64 a1) (.int .u64 a2) 25).alloc (.cells #[.int .i64 a0, .int .u64 a1, .int .u64 b2] 25)).alloc (.cells #[.int .i64 c0, .int .u64 c1, .int .u64 c2] 25))
  have TB := Lib.hid ((tri.new' (b := w.heap.size + 1) (w := w.alloc (.cells #[.int .i64 a0, .int .u64 a1, .int .u64 a2] 25)) (by simp) (.int .i64 a0) (.int .u64 a1) (.int .u64 b2) 25).alloc (.cells #[.int .i64 c0, .int .u64 c1, .int .u64 c2] 25))
  have TC := Lib.hid (tri.new' (b := w.heap.size + 1 + 1) (w := (w.alloc (.cells #[.int .i64 a0, .int .u64 a1, .int .u64 a2] 25)).alloc (.cells #[.int .i64 a0, .int .u64 a1, .int .u64 b2] 25)) (by simp) (.int .i64 c0) (.int .u64 c1) (.int .u64 c2) 25)
  have HBW := Lib.hid (show Below w.heap.size w (((w.alloc (.cells #[.int .i64 a0, .int .u64 a1, .int .u64 a2] 25)).alloc (.cells #[.int .i64 a0, .int .u64 a1, .int .u64 b2] 25)).alloc (.cells #[.int .i64 c0, .int .u64 c1, .int .u64 c2] 25)) from chain1 (chain1 (chain1 (Below.refl _ _) _) _) _)
  go_enter Try.func7, Try.ntmps7
  go_wp2_with fail
  refine (awake14 _).mono ?_
  rintro e w1 ⟨rfl, hb1⟩
  replace HBW := Lib.hid (chain HBW.out hb1)
  replace TA := Lib.hid (TA.out.below hb1)
  replace TB := Lib.hid (TB.out.below hb1)
  replace TC := Lib.hid (TC.out.below hb1)
  obtain ⟨c0_TA, c1_TA, c2_TA, cl_TA⟩ := TA.out
  obtain ⟨c0_TB, c1_TB, c2_TB, cl_TB⟩ := TB.out
  obtain ⟨c0_TC, c1_TC, c2_TC, cl_TC⟩ := TC.out
  clear hb1
  go_wp2_with fail
  refine (LAB _).mono ?_
  rintro e w2 ⟨rfl, hb2⟩
  clear c0_TA c1_TA c2_TA cl_TA
  clear c0_TB c1_TB c2_TB cl_TB
  clear c0_TC c1_TC c2_TC cl_TC
  replace HBW := Lib.hid (chain HBW.out hb2)
  replace TA := Lib.hid (TA.out.below hb2)
  replace TB := Lib.hid (TB.out.below hb2)
  replace TC := Lib.hid (TC.out.below hb2)
  obtain ⟨c0_TA, c1_TA, c2_TA, cl_TA⟩ := TA.out
  obtain ⟨c0_TB, c1_TB, c2_TB, cl_TB⟩ := TB.out
  obtain ⟨c0_TC, c1_TC, c2_TC, cl_TC⟩ := TC.out
  clear hb2
  go_wp2_with fail
  refine (LBC _).mono ?_
  rintro e w3 ⟨rfl, hb3⟩
  clear c0_TA c1_TA c2_TA cl_TA
  clear c0_TB c1_TB c2_TB cl_TB
  clear c0_TC c1_TC c2_TC cl_TC
  replace HBW := Lib.hid (chain HBW.out hb3)
  replace TA := Lib.hid (TA.out.below hb3)
  replace TB := Lib.hid (TB.out.below hb3)
  replace TC := Lib.hid (TC.out.below hb3)
  obtain ⟨c0_TA, c1_TA, c2_TA, cl_TA⟩ := TA.out
  obtain ⟨c0_TB, c1_TB, c2_TB, cl_TB⟩ := TB.out
  obtain ⟨c0_TC, c1_TC, c2_TC, cl_TC⟩ := TC.out
  clear hb3
  go_wp2_with fail
  refine (LAC _).mono ?_
  rintro e w4 ⟨rfl, hb4⟩
  clear c0_TA c1_TA c2_TA cl_TA
  clear c0_TB c1_TB c2_TB cl_TB
  clear c0_TC c1_TC c2_TC cl_TC
  replace HBW := Lib.hid (chain HBW.out hb4)
  replace TA := Lib.hid (TA.out.below hb4)
  replace TB := Lib.hid (TB.out.below hb4)
  replace TC := Lib.hid (TC.out.below hb4)
  obtain ⟨c0_TA, c1_TA, c2_TA, cl_TA⟩ := TA.out
  obtain ⟨c0_TB, c1_TB, c2_TB, cl_TB⟩ := TB.out
  obtain ⟨c0_TC, c1_TC, c2_TC, cl_TC⟩ := TC.out
  clear hb4
  go_wp2_with fail
  (refine region_later (by kernel_rfl) (by kernel_rfl) ?_); (intro hlat); (repeat (go_big_quiet_step ((first | (go_at_call 22; with_reducible exact later_call (LAB _)) | (go_at_call 22; with_reducible exact later_call (LBA _)))))); (refine wpQuiet_nil ?_); (intro W5 hb5); (clear hlat)
  clear c0_TA c1_TA c2_TA cl_TA
  clear c0_TB c1_TB c2_TB cl_TB
  clear c0_TC c1_TC c2_TC cl_TC
  replace HBW := Lib.hid (chain HBW.out hb5)
  replace TA := Lib.hid (TA.out.below hb5)
  replace TB := Lib.hid (TB.out.below hb5)
  replace TC := Lib.hid (TC.out.below hb5)
  obtain ⟨c0_TA, c1_TA, c2_TA, cl_TA⟩ := TA.out
  obtain ⟨c0_TB, c1_TB, c2_TB, cl_TB⟩ := TB.out
  obtain ⟨c0_TC, c1_TC, c2_TC, cl_TC⟩ := TC.out
  clear hb5
  go_wp2_with fail
  go_ret
  exact ⟨by first | rfl | (simp; done), HBW.out⟩
set_option maxRecDepth 100000 in
set_option maxHeartbeats 4000000 in
theorem order_ab_q2_n (a0 a1 a2 b0 b1 b2 c0 c1 c2 : Int) (hl : LtI (a0, a1, a2) (b0, b1, b2)) (hk : ¬LtI (b0, b1, b2) (c0, c1, c2)) (h0 : a0 = b0) (h1 : a1 = b1) (h2 : a2 ≠ b2) (w : World) :
    Calls Try.prog 7 #[.agg #[.int .i64 a0, .int .u64 a1, .int .u64 a2], .agg #[.int .i64 b0, .int .u64 b1, .int .u64 b2], .agg #[.int .i64 c0, .int .u64 c1, .int .u64 c2]] w fun e w' => e = .returned (.bool true) ∧ Below w.heap.size w w' := by
  have LAB := fun W => less_c a0 a1 a2 b0 b1 b2 W
  rw [decide_eq_true hl] at LAB
  have LBA := fun W => less_c b0 b1 b2 a0 a1 a2 W
  rw [decide_eq_false hl.asy] at LBA
  have LBC := fun W => less_c b0 b1 b2 c0 c1 c2 W
  rw [decide_eq_false hk] at LBC
  clear hl hk
  subst h0 h1
  have e2 : (a2 == b2) = false := by rw [beq_eq_false_iff_ne]; exact h2
  clear h2
  have TA := Lib.hid (((tri.new w (.int .i64 a0) (.int .u64 a1) (.int .u64 a2) 25).alloc (.cells #[.int .i64 a0, .int .u64 a1, .int .u64 b2] 25)).alloc (.cells #[.int .i64 c0, .int .u64 c1, .int .u64 c2] 25))
  have TB := Lib.hid ((tri.new' (b := w.heap.size + 1) (w := w.alloc (.cells #[.int .i64 a0, .int .u64 a1, .int .u64 a2] 25)) (by simp) (.int .i64 a0) (.int .u64 a1) (.int .u64 b2) 25).alloc (.cells #[.int .i64 c0, .int .u64 c1, .int .u64 c2] 25))
  have TC := Lib.hid (tri.new' (b := w.heap.size + 1 + 1) (w := (w.alloc (.cells #[.int .i64 a0, .int .u64 a1, .int .u64 a2] 25)).alloc (.cells #[.int .i64 a0, .int .u64 a1, .int .u64 b2] 25)) (by simp) (.int .i64 c0) (.int .u64 c1) (.int .u64 c2) 25)
  have HBW := Lib.hid (show Below w.heap.size w (((w.alloc (.cells #[.int .i64 a0, .int .u64 a1, .int .u64 a2] 25)).alloc (.cells #[.int .i64 a0, .int .u64 a1, .int .u64 b2] 25)).alloc (.cells #[.int .i64 c0, .int .u64 c1, .int .u64 c2] 25)) from chain1 (chain1 (chain1 (Below.refl _ _) _) _) _)
  go_enter Try.func7, Try.ntmps7
  go_wp2_with fail
  refine (awake14 _).mono ?_
  rintro e w1 ⟨rfl, hb1⟩
  replace HBW := Lib.hid (chain HBW.out hb1)
  replace TA := Lib.hid (TA.out.below hb1)
  replace TB := Lib.hid (TB.out.below hb1)
  replace TC := Lib.hid (TC.out.below hb1)
  obtain ⟨c0_TA, c1_TA, c2_TA, cl_TA⟩ := TA.out
  obtain ⟨c0_TB, c1_TB, c2_TB, cl_TB⟩ := TB.out
  obtain ⟨c0_TC, c1_TC, c2_TC, cl_TC⟩ := TC.out
  clear hb1
  go_wp2_with fail
  refine (LAB _).mono ?_
  rintro e w2 ⟨rfl, hb2⟩
  clear c0_TA c1_TA c2_TA cl_TA
  clear c0_TB c1_TB c2_TB cl_TB
  clear c0_TC c1_TC c2_TC cl_TC
  replace HBW := Lib.hid (chain HBW.out hb2)
  replace TA := Lib.hid (TA.out.below hb2)
  replace TB := Lib.hid (TB.out.below hb2)
  replace TC := Lib.hid (TC.out.below hb2)
  obtain ⟨c0_TA, c1_TA, c2_TA, cl_TA⟩ := TA.out
  obtain ⟨c0_TB, c1_TB, c2_TB, cl_TB⟩ := TB.out
  obtain ⟨c0_TC, c1_TC, c2_TC, cl_TC⟩ := TC.out
  clear hb2
  go_wp2_with fail
  refine (LBC _).mono ?_
  rintro e w3 ⟨rfl, hb3⟩
  clear c0_TA c1_TA c2_TA cl_TA
  clear c0_TB c1_TB c2_TB cl_TB
  clear c0_TC c1_TC c2_TC cl_TC
  replace HBW := Lib.hid (chain HBW.out hb3)
  replace TA := Lib.hid (TA.out.below hb3)
  replace TB := Lib.hid (TB.out.below hb3)
  replace TC := Lib.hid (TC.out.below hb3)
  obtain ⟨c0_TA, c1_TA, c2_TA, cl_TA⟩ := TA.out
  obtain ⟨c0_TB, c1_TB, c2_TB, cl_TB⟩ := TB.out
  obtain ⟨c0_TC, c1_TC, c2_TC, cl_TC⟩ := TC.out
  clear hb3
  go_wp2_with fail
  (refine region_later (by kernel_rfl) (by kernel_rfl) ?_); (intro hlat); (repeat (go_big_quiet_step ((first | (go_at_call 22; with_reducible exact later_call (LAB _)) | (go_at_call 22; with_reducible exact later_call (LBA _)))))); (refine wpQuiet_nil ?_); (intro W4 hb4); (clear hlat)
  clear c0_TA c1_TA c2_TA cl_TA
  clear c0_TB c1_TB c2_TB cl_TB
  clear c0_TC c1_TC c2_TC cl_TC
  replace HBW := Lib.hid (chain HBW.out hb4)
  replace TA := Lib.hid (TA.out.below hb4)
  replace TB := Lib.hid (TB.out.below hb4)
  replace TC := Lib.hid (TC.out.below hb4)
  obtain ⟨c0_TA, c1_TA, c2_TA, cl_TA⟩ := TA.out
  obtain ⟨c0_TB, c1_TB, c2_TB, cl_TB⟩ := TB.out
  obtain ⟨c0_TC, c1_TC, c2_TC, cl_TC⟩ := TC.out
  clear hb4
  go_wp2_with fail
  go_ret
  exact ⟨by first | rfl | (simp; done), HBW.out⟩
set_option maxRecDepth 100000 in
set_option maxHeartbeats 4000000 in
theorem order_eq (a0 a1 a2 b0 b1 b2 c0 c1 c2 : Int) (h0 : a0 = b0) (h1 : a1 = b1) (h2 : a2 = b2) (w : World) :
    Calls Try.prog 7 #[.agg #[.int .i64 a0, .int .u64 a1, .int .u64 a2], .agg #[.int .i64 b0, .int .u64 b1, .int .u64 b2], .agg #[.int .i64 c0, .int .u64 c1, .int .u64 c2]] w fun e w' => e = .returned (.bool true) ∧ Below w.heap.size w w' := by
  subst h0 h1 h2
  have LAB := fun W => less_c a0 a1 a2 a0 a1 a2 W
  rw [decide_eq_false (LtI.irr _)] at LAB
  have LBA := LAB
  have TA := Lib.hid (((tri.new w (.int .i64 a0) (.int .u64 a1) (.int .u64 a2) 25).alloc (.cells #[.int .i64 a0, .int .u64 a1, .int .u64 a2] 25)).alloc (.cells #[.int .i64 c0, .int .u64 c1, .int .u64 c2] 25))
  have TB := Lib.hid ((tri.new' (b := w.heap.size + 1) (w := w.alloc (.cells #[.int .i64 a0, .int .u64 a1, .int .u64 a2] 25)) (by simp) (.int .i64 a0) (.int .u64 a1) (.int .u64 a2) 25).alloc (.cells #[.int .i64 c0, .int .u64 c1, .int .u64 c2] 25))
  have TC := Lib.hid (tri.new' (b := w.heap.size + 1 + 1) (w := (w.alloc (.cells #[.int .i64 a0, .int .u64 a1, .int .u64 a2] 25)).alloc (.cells #[.int .i64 a0, .int .u64 a1, .int .u64 a2] 25)) (by simp) (.int .i64 c0) (.int .u64 c1) (.int .u64 c2) 25)
  have HBW := Lib.hid (show Below w.heap.size w (((w.alloc (.cells #[.int .i64 a0, .int .u64 a1, .int .u64 a2] 25)).alloc (.cells #[.int .i64 a0, .int .u64 a1, .int .u64 a2] 25)).alloc (.cells #[.int .i64 c0, .int .u64 c1, .int .u64 c2] 25)) from chain1 (chain1 (chain1 (Below.refl _ _) _) _) _)
  go_enter Try.func7, Try.ntmps7
  go_wp2_with fail
  refine (awake14 _).mono ?_
  rintro e w1 ⟨rfl, hb1⟩
  replace HBW := Lib.hid (chain HBW.out hb1)
  replace TA := Lib.hid (TA.out.below hb1)
  replace TB := Lib.hid (TB.out.below hb1)
  replace TC := Lib.hid (TC.out.below hb1)
  obtain ⟨c0_TA, c1_TA, c2_TA, cl_TA⟩ := TA.out
  obtain ⟨c0_TB, c1_TB, c2_TB, cl_TB⟩ := TB.out
  obtain ⟨c0_TC, c1_TC, c2_TC, cl_TC⟩ := TC.out
  clear hb1
  go_wp2_with fail
  refine (LAB _).mono ?_
  rintro e w2 ⟨rfl, hb2⟩
  clear c0_TA c1_TA c2_TA cl_TA
  clear c0_TB c1_TB c2_TB cl_TB
  clear c0_TC c1_TC c2_TC cl_TC
  replace HBW := Lib.hid (chain HBW.out hb2)
  replace TA := Lib.hid (TA.out.below hb2)
  replace TB := Lib.hid (TB.out.below hb2)
  replace TC := Lib.hid (TC.out.below hb2)
  obtain ⟨c0_TA, c1_TA, c2_TA, cl_TA⟩ := TA.out
  obtain ⟨c0_TB, c1_TB, c2_TB, cl_TB⟩ := TB.out
  obtain ⟨c0_TC, c1_TC, c2_TC, cl_TC⟩ := TC.out
  clear hb2
  go_wp2_with fail
  (refine region_later (by kernel_rfl) (by kernel_rfl) ?_); (intro hlat); (repeat (go_big_quiet_step ((first | (go_at_call 22; with_reducible exact later_call (LAB _)) | (go_at_call 22; with_reducible exact later_call (LBA _)))))); (refine wpQuiet_nil ?_); (intro W3 hb3); (clear hlat)
  clear c0_TA c1_TA c2_TA cl_TA
  clear c0_TB c1_TB c2_TB cl_TB
  clear c0_TC c1_TC c2_TC cl_TC
  replace HBW := Lib.hid (chain HBW.out hb3)
  replace TA := Lib.hid (TA.out.below hb3)
  replace TB := Lib.hid (TB.out.below hb3)
  replace TC := Lib.hid (TC.out.below hb3)
  obtain ⟨c0_TA, c1_TA, c2_TA, cl_TA⟩ := TA.out
  obtain ⟨c0_TB, c1_TB, c2_TB, cl_TB⟩ := TB.out
  obtain ⟨c0_TC, c1_TC, c2_TC, cl_TC⟩ := TC.out
  clear hb3
  go_wp2_with fail
  go_ret
  exact ⟨by first | rfl | (simp; done), HBW.out⟩
theorem walk_HeapOrder (a b c : It) (w : World) :
    Calls Try.prog 7 #[.agg (encI a).toArray, .agg (encI b).toArray, .agg (encI c).toArray] w fun e w' => e = .returned (.bool true) ∧ Below w.heap.size w w' := by
  obtain ⟨a0, a1, a2⟩ := a
  obtain ⟨b0, b1, b2⟩ := b
  obtain ⟨c0, c1, c2⟩ := c
  by_cases h0 : a0 = b0
  · by_cases h1 : a1 = b1
    · by_cases h2 : a2 = b2
      · exact order_eq a0 a1 a2 b0 b1 b2 c0 c1 c2 h0 h1 h2 w
      · by_cases hl : LtI (a0, a1, a2) (b0, b1, b2)
        · by_cases hk : LtI (b0, b1, b2) (c0, c1, c2)
          · exact order_ab_q2_y a0 a1 a2 b0 b1 b2 c0 c1 c2 hl hk h0 h1 h2 w
          · exact order_ab_q2_n a0 a1 a2 b0 b1 b2 c0 c1 c2 hl hk h0 h1 h2 w
        · exact order_ba_q2 a0 a1 a2 b0 b1 b2 c0 c1 c2 (Classical.byContradiction fun hr => h2 (by have := LtI.tot hl hr; simp only [Prod.mk.injEq] at this; exact this.2.2)) h0 h1 h2 w
    · by_cases hl : LtI (a0, a1, a2) (b0, b1, b2)
      · by_cases hk : LtI (b0, b1, b2) (c0, c1, c2)
        · exact order_ab_q1_y a0 a1 a2 b0 b1 b2 c0 c1 c2 hl hk h0 h1 w
        · exact order_ab_q1_n a0 a1 a2 b0 b1 b2 c0 c1 c2 hl hk h0 h1 w
      · exact order_ba_q1 a0 a1 a2 b0 b1 b2 c0 c1 c2 (Classical.byContradiction fun hr => h1 (by have := LtI.tot hl hr; simp only [Prod.mk.injEq] at this; exact this.2.1)) h0 h1 w
  · by_cases hl : LtI (a0, a1, a2) (b0, b1, b2)
    · by_cases hk : LtI (b0, b1, b2) (c0, c1, c2)
      · exact order_ab_q0_y a0 a1 a2 b0 b1 b2 c0 c1 c2 hl hk h0 w
      · exact order_ab_q0_n a0 a1 a2 b0 b1 b2 c0 c1 c2 hl hk h0 w
    · exact order_ba_q0 a0 a1 a2 b0 b1 b2 c0 c1 c2 (Classical.byContradiction fun hr => h0 (by have := LtI.tot hl hr; simp only [Prod.mk.injEq] at this; exact this.1)) h0 w
end Go.Proofs.Try
