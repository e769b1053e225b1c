/- ListTells (stage 15). -/
import Derived.Test.YtgkiijpheigpjaaW15
import Derived.Test.YtgkiijpheigpjaaOpenL
namespace Go.Proofs.Try
open Go.RowKit
set_option linter.unusedVariables false
set_option linter.unusedSimpArgs false
theorem gt_maxLen {n : Nat} (h : ¬n ≤ 100) : (100 : Int) < (n : Int) := by omega
set_option maxRecDepth 100000 in
set_option maxHeartbeats 8000000 in
theorem walk_ListTells (v0 : Value) (x : Ls) (id : Int) (w2 : (Lit.int .i64 id).wf = true) (w : World) (o0 : RowIn encZ 1 (fun _ => True) w v0) :
    Calls Try.prog 9 #[v0, .agg (celV (lsC x)), .int .i64 id] w fun e w' => e = .returned (.bool true) ∧ Below w.heap.size w w' := by
  obtain ⟨A, n, c, l, rfl, hcap, hmx, hl, _, hs⟩ := o0
  have hzc := zero_cells
  clear w2
  by_cases hn : n ≤ 100
  · have hr0 : Rows encZ 1 w (.slice A n c) n l := ⟨A, c, rfl, hcap, by omega, hl, hs⟩
    have hn1 : ¬((100 : Int) < (n : Int)) := by omega
    clear hcap hmx hl hs
    have HF1 := Lib.hid (show vbk (w.alloc (.cells (celV (lsC x)) 55)) (w.heap.size) 55 (lsC x) from vbk.new w _ _)
    have HB2 := Lib.hid (show Below w.heap.size w (w.alloc (.cells (celV (lsC x)) 55)) from (Below.refl _ _).alloc (Nat.le_refl _) _)
    have HR3 := Lib.hid (hr0.below ((Below.refl _ _).alloc (Nat.le_refl _) (.cells (celV (lsC x)) 55)))
    have hE0 := fun W => eqS_same (laidF l) W
    have hE1 := fun W => eqS_same (touchR x id) W
    have hE2 := fun W => eqS_same (dropR x id) W
    have hE3 := fun W => eqS_same (told []) W
    clear hr0 hn
    go_enter Try.func9, Try.ntmps9
    go_wp2_with (first
         | (refine wpList_load_vbk rfl 55 (.tmp 4) rfl (w.heap.size) 55 (lsC x) (by first | rfl | (simp [Act.eval]; done)) HF1.out _ Try.underlying55 rfl (lsC_info _) ?_))
    refine (awake15 (w.alloc (.cells (celV (lsC x)) 55))).mono ?_
    rintro e w4 ⟨rfl, hb5⟩
    have HF6 := Lib.hid (HF1.out.below hb5)
    have HR7 := Lib.hid (HR3.out.below hb5)
    have HB8 := Lib.hid (chain HB2.out hb5)
    go_wp2_with fail
    refine (of_c (.slice A n c) n l w4 HR7.out).mono ?_
    rintro e w9 ⟨rfl, hb10⟩
    have HF11 := Lib.hid (HF6.out.below hb10)
    have HR12 := Lib.hid (HR7.out.below hb10)
    have HB13 := Lib.hid (chain HB8.out hb10)
    go_wp2_with (first
         | (refine wpList_store_vbk rfl 55 (.tmp 8) (.tmp 36) rfl w9.heap.size 55 (lsC z0) (lsC (laidF l)) (by first | rfl | (simp [Act.eval]; done)) (by first | rfl | (simp [Act.eval]; done)) (by first | exact vbk.new' (by simp) | (rw [hzc]; exact vbk.new' (by simp))) (by simp only [lsC_len]) (lsC_one _) (lsC_info _) ?_
            have HF14 := Lib.hid (show vbk ((w9.alloc (.cells (celV (lsC z0)) 55)).setRow w9.heap.size (celV (lsC (laidF l)))) (w.heap.size) 55 (lsC x) from (HF11.out.alloc _).otherRow (Nat.ne_of_lt HF11.out.lt) _)
            have HF15 := Lib.hid (show vbk ((w9.alloc (.cells (celV (lsC z0)) 55)).setRow w9.heap.size (celV (lsC (laidF l)))) w9.heap.size 55 (lsC (laidF l)) from (vbk.new' rfl).setRow _)
            have HB16 := Lib.hid (show Below w.heap.size w ((w9.alloc (.cells (celV (lsC z0)) 55)).setRow w9.heap.size (celV (lsC (laidF l)))) from below_setRow (chain1 HB13.out _) HB13.out.size _)
            have HR17 := Lib.hid (show Rows encZ 1 ((w9.alloc (.cells (celV (lsC z0)) 55)).setRow w9.heap.size (celV (lsC (laidF l)))) (.slice A n c) n l from HR12.out.below (below_setRow (chain1 (Below.refl _ _) _) (Nat.le_refl _) _))))
    refine (rof_c (.slice A n c) n l ((w9.alloc (.cells (celV (lsC z0)) 55)).setRow w9.heap.size (celV (lsC (laidF l)))) HR17.out).mono ?_
    rintro e w18 ⟨rfl, hb19⟩
    have HF20 := Lib.hid (HF14.out.below hb19)
    have HF21 := Lib.hid (HF15.out.below hb19)
    have HR22 := Lib.hid (HR17.out.below hb19)
    have HB23 := Lib.hid (chain HB16.out hb19)
    go_wp2_with (first
         | (refine wpList_store_vbk rfl 55 (.tmp 10) (.tmp 41) rfl w18.heap.size 55 (lsC z0) (lsC (laidF l)) (by first | rfl | (simp [Act.eval]; done)) (by first | rfl | (simp [Act.eval]; done)) (by first | exact vbk.new' (by simp) | (rw [hzc]; exact vbk.new' (by simp))) (by simp only [lsC_len]) (lsC_one _) (lsC_info _) ?_
            have HF24 := Lib.hid (show vbk ((w18.alloc (.cells (celV (lsC z0)) 55)).setRow w18.heap.size (celV (lsC (laidF l)))) (w.heap.size) 55 (lsC x) from (HF20.out.alloc _).otherRow (Nat.ne_of_lt HF20.out.lt) _)
            have HF25 := Lib.hid (show vbk ((w18.alloc (.cells (celV (lsC z0)) 55)).setRow w18.heap.size (celV (lsC (laidF l)))) (w9.heap.size) 55 (lsC (laidF l)) from (HF21.out.alloc _).otherRow (Nat.ne_of_lt HF21.out.lt) _)
            have HF26 := Lib.hid (show vbk ((w18.alloc (.cells (celV (lsC z0)) 55)).setRow w18.heap.size (celV (lsC (laidF l)))) w18.heap.size 55 (lsC (laidF l)) from (vbk.new' rfl).setRow _)
            have HB27 := Lib.hid (show Below w.heap.size w ((w18.alloc (.cells (celV (lsC z0)) 55)).setRow w18.heap.size (celV (lsC (laidF l)))) from below_setRow (chain1 HB23.out _) HB23.out.size _)
            have HR28 := Lib.hid (show Rows encZ 1 ((w18.alloc (.cells (celV (lsC z0)) 55)).setRow w18.heap.size (celV (lsC (laidF l)))) (.slice A n c) n l from HR22.out.below (below_setRow (chain1 (Below.refl _ _) _) (Nat.le_refl _) _)))
         | (refine wpList_load_vbk rfl 55 (.tmp 4) rfl (w.heap.size) 55 (lsC x) (by first | rfl | (simp [Act.eval]; done)) HF24.out _ Try.underlying55 rfl (lsC_info _) ?_)
         | (refine wpList_load_vbk rfl 55 (.tmp 8) rfl (w9.heap.size) 55 (lsC (laidF l)) (by first | rfl | (simp [Act.eval]; done)) HF25.out _ Try.underlying55 rfl (lsC_info _) ?_)
         | (refine wpList_load_vbk rfl 55 (.tmp 10) rfl (w18.heap.size) 55 (lsC (laidF l)) (by first | rfl | (simp [Act.eval]; done)) HF26.out _ Try.underlying55 rfl (lsC_info _) ?_))
    refine (order_r x ((w18.alloc (.cells (celV (lsC z0)) 55)).setRow w18.heap.size (celV (lsC (laidF l))))).mono ?_
    rintro e w29 ⟨Ao, co, rfl, hro, hb30⟩
    have HF31 := Lib.hid (HF24.out.below hb30)
    have HF32 := Lib.hid (HF25.out.below hb30)
    have HF33 := Lib.hid (HF26.out.below hb30)
    have HR34 := Lib.hid (HR28.out.below hb30)
    have HB35 := Lib.hid (chain HB27.out hb30)
    have HR36 := Lib.hid hro
    clear hro
    go_wp2_with (first
         | (refine wpList_load_vbk rfl 55 (.tmp 4) rfl (w.heap.size) 55 (lsC x) (by first | rfl | (simp [Act.eval]; done)) HF31.out _ Try.underlying55 rfl (lsC_info _) ?_)
         | (refine wpList_load_vbk rfl 55 (.tmp 8) rfl (w9.heap.size) 55 (lsC (laidF l)) (by first | rfl | (simp [Act.eval]; done)) HF32.out _ Try.underlying55 rfl (lsC_info _) ?_)
         | (refine wpList_load_vbk rfl 55 (.tmp 10) rfl (w18.heap.size) 55 (lsC (laidF l)) (by first | rfl | (simp [Act.eval]; done)) HF33.out _ Try.underlying55 rfl (lsC_info _) ?_))
    refine (rorder_r x w29).mono ?_
    rintro e w37 ⟨Ap, cp, rfl, hrp, hb38⟩
    have HF39 := Lib.hid (HF31.out.below hb38)
    have HF40 := Lib.hid (HF32.out.below hb38)
    have HF41 := Lib.hid (HF33.out.below hb38)
    have HR42 := Lib.hid (HR34.out.below hb38)
    have HR43 := Lib.hid (HR36.out.below hb38)
    have HB44 := Lib.hid (chain HB35.out hb38)
    have HR45 := Lib.hid hrp
    clear hrp
    go_wp2_with (first
         | (refine wpList_load_vbk rfl 55 (.tmp 4) rfl (w.heap.size) 55 (lsC x) (by first | rfl | (simp [Act.eval]; done)) HF39.out _ Try.underlying55 rfl (lsC_info _) ?_)
         | (refine wpList_load_vbk rfl 55 (.tmp 8) rfl (w9.heap.size) 55 (lsC (laidF l)) (by first | rfl | (simp [Act.eval]; done)) HF40.out _ Try.underlying55 rfl (lsC_info _) ?_)
         | (refine wpList_load_vbk rfl 55 (.tmp 10) rfl (w18.heap.size) 55 (lsC (laidF l)) (by first | rfl | (simp [Act.eval]; done)) HF41.out _ Try.underlying55 rfl (lsC_info _) ?_))
    refine (touch_c x id w37).mono ?_
    rintro e w46 ⟨rfl, hb47⟩
    have HF48 := Lib.hid (HF39.out.below hb47)
    have HF49 := Lib.hid (HF40.out.below hb47)
    have HF50 := Lib.hid (HF41.out.below hb47)
    have HR51 := Lib.hid (HR42.out.below hb47)
    have HR52 := Lib.hid (HR43.out.below hb47)
    have HR53 := Lib.hid (HR45.out.below hb47)
    have HB54 := Lib.hid (chain HB44.out hb47)
    go_wp2_with (first
         | (refine wpList_store_vbk rfl 55 (.tmp 16) (.tmp 57) rfl w46.heap.size 55 (lsC z0) (lsC (touchR x id)) (by first | rfl | (simp [Act.eval]; done)) (by first | rfl | (simp [Act.eval]; done)) (by first | exact vbk.new' (by simp) | (rw [hzc]; exact vbk.new' (by simp))) (by simp only [lsC_len]) (lsC_one _) (lsC_info _) ?_
            have HF55 := Lib.hid (show vbk ((w46.alloc (.cells (celV (lsC z0)) 55)).setRow w46.heap.size (celV (lsC (touchR x id)))) (w.heap.size) 55 (lsC x) from (HF48.out.alloc _).otherRow (Nat.ne_of_lt HF48.out.lt) _)
            have HF56 := Lib.hid (show vbk ((w46.alloc (.cells (celV (lsC z0)) 55)).setRow w46.heap.size (celV (lsC (touchR x id)))) (w9.heap.size) 55 (lsC (laidF l)) from (HF49.out.alloc _).otherRow (Nat.ne_of_lt HF49.out.lt) _)
            have HF57 := Lib.hid (show vbk ((w46.alloc (.cells (celV (lsC z0)) 55)).setRow w46.heap.size (celV (lsC (touchR x id)))) (w18.heap.size) 55 (lsC (laidF l)) from (HF50.out.alloc _).otherRow (Nat.ne_of_lt HF50.out.lt) _)
            have HF58 := Lib.hid (show vbk ((w46.alloc (.cells (celV (lsC z0)) 55)).setRow w46.heap.size (celV (lsC (touchR x id)))) w46.heap.size 55 (lsC (touchR x id)) from (vbk.new' rfl).setRow _)
            have HB59 := Lib.hid (show Below w.heap.size w ((w46.alloc (.cells (celV (lsC z0)) 55)).setRow w46.heap.size (celV (lsC (touchR x id)))) from below_setRow (chain1 HB54.out _) HB54.out.size _)
            have HR60 := Lib.hid (show Rows encZ 1 ((w46.alloc (.cells (celV (lsC z0)) 55)).setRow w46.heap.size (celV (lsC (touchR x id)))) (.slice A n c) n l from HR51.out.below (below_setRow (chain1 (Below.refl _ _) _) (Nat.le_refl _) _))
            have HR61 := Lib.hid (show Rows encZ 1 ((w46.alloc (.cells (celV (lsC z0)) 55)).setRow w46.heap.size (celV (lsC (touchR x id)))) (.slice Ao (ordL x).length co) (ordL x).length (zs (ordL x)) from HR52.out.below (below_setRow (chain1 (Below.refl _ _) _) (Nat.le_refl _) _))
            have HR62 := Lib.hid (show Rows encZ 1 ((w46.alloc (.cells (celV (lsC z0)) 55)).setRow w46.heap.size (celV (lsC (touchR x id)))) (.slice Ap (ordL x).length cp) (ordL x).length (zs (ordL x)) from HR53.out.below (below_setRow (chain1 (Below.refl _ _) _) (Nat.le_refl _) _)))
         | (refine wpList_load_vbk rfl 55 (.tmp 4) rfl (w.heap.size) 55 (lsC x) (by first | rfl | (simp [Act.eval]; done)) HF55.out _ Try.underlying55 rfl (lsC_info _) ?_)
         | (refine wpList_load_vbk rfl 55 (.tmp 8) rfl (w9.heap.size) 55 (lsC (laidF l)) (by first | rfl | (simp [Act.eval]; done)) HF56.out _ Try.underlying55 rfl (lsC_info _) ?_)
         | (refine wpList_load_vbk rfl 55 (.tmp 10) rfl (w18.heap.size) 55 (lsC (laidF l)) (by first | rfl | (simp [Act.eval]; done)) HF57.out _ Try.underlying55 rfl (lsC_info _) ?_)
         | (refine wpList_load_vbk rfl 55 (.tmp 16) rfl (w46.heap.size) 55 (lsC (touchR x id)) (by first | rfl | (simp [Act.eval]; done)) HF58.out _ Try.underlying55 rfl (lsC_info _) ?_))
    refine (rtouch_c x id ((w46.alloc (.cells (celV (lsC z0)) 55)).setRow w46.heap.size (celV (lsC (touchR x id))))).mono ?_
    rintro e w63 ⟨rfl, hb64⟩
    have HF65 := Lib.hid (HF55.out.below hb64)
    have HF66 := Lib.hid (HF56.out.below hb64)
    have HF67 := Lib.hid (HF57.out.below hb64)
    have HF68 := Lib.hid (HF58.out.below hb64)
    have HR69 := Lib.hid (HR60.out.below hb64)
    have HR70 := Lib.hid (HR61.out.below hb64)
    have HR71 := Lib.hid (HR62.out.below hb64)
    have HB72 := Lib.hid (chain HB59.out hb64)
    go_wp2_with (first
         | (refine wpList_store_vbk rfl 55 (.tmp 18) (.tmp 63) rfl w63.heap.size 55 (lsC z0) (lsC (touchR x id)) (by first | rfl | (simp [Act.eval]; done)) (by first | rfl | (simp [Act.eval]; done)) (by first | exact vbk.new' (by simp) | (rw [hzc]; exact vbk.new' (by simp))) (by simp only [lsC_len]) (lsC_one _) (lsC_info _) ?_
            have HF73 := Lib.hid (show vbk ((w63.alloc (.cells (celV (lsC z0)) 55)).setRow w63.heap.size (celV (lsC (touchR x id)))) (w.heap.size) 55 (lsC x) from (HF65.out.alloc _).otherRow (Nat.ne_of_lt HF65.out.lt) _)
            have HF74 := Lib.hid (show vbk ((w63.alloc (.cells (celV (lsC z0)) 55)).setRow w63.heap.size (celV (lsC (touchR x id)))) (w9.heap.size) 55 (lsC (laidF l)) from (HF66.out.alloc _).otherRow (Nat.ne_of_lt HF66.out.lt) _)
            have HF75 := Lib.hid (show vbk ((w63.alloc (.cells (celV (lsC z0)) 55)).setRow w63.heap.size (celV (lsC (touchR x id)))) (w18.heap.size) 55 (lsC (laidF l)) from (HF67.out.alloc _).otherRow (Nat.ne_of_lt HF67.out.lt) _)
            have HF76 := Lib.hid (show vbk ((w63.alloc (.cells (celV (lsC z0)) 55)).setRow w63.heap.size (celV (lsC (touchR x id)))) (w46.heap.size) 55 (lsC (touchR x id)) from (HF68.out.alloc _).otherRow (Nat.ne_of_lt HF68.out.lt) _)
            have HF77 := Lib.hid (show vbk ((w63.alloc (.cells (celV (lsC z0)) 55)).setRow w63.heap.size (celV (lsC (touchR x id)))) w63.heap.size 55 (lsC (touchR x id)) from (vbk.new' rfl).setRow _)
            have HB78 := Lib.hid (show Below w.heap.size w ((w63.alloc (.cells (celV (lsC z0)) 55)).setRow w63.heap.size (celV (lsC (touchR x id)))) from below_setRow (chain1 HB72.out _) HB72.out.size _)
            have HR79 := Lib.hid (show Rows encZ 1 ((w63.alloc (.cells (celV (lsC z0)) 55)).setRow w63.heap.size (celV (lsC (touchR x id)))) (.slice A n c) n l from HR69.out.below (below_setRow (chain1 (Below.refl _ _) _) (Nat.le_refl _) _))
            have HR80 := Lib.hid (show Rows encZ 1 ((w63.alloc (.cells (celV (lsC z0)) 55)).setRow w63.heap.size (celV (lsC (touchR x id)))) (.slice Ao (ordL x).length co) (ordL x).length (zs (ordL x)) from HR70.out.below (below_setRow (chain1 (Below.refl _ _) _) (Nat.le_refl _) _))
            have HR81 := Lib.hid (show Rows encZ 1 ((w63.alloc (.cells (celV (lsC z0)) 55)).setRow w63.heap.size (celV (lsC (touchR x id)))) (.slice Ap (ordL x).length cp) (ordL x).length (zs (ordL x)) from HR71.out.below (below_setRow (chain1 (Below.refl _ _) _) (Nat.le_refl _) _)))
         | (refine wpList_load_vbk rfl 55 (.tmp 4) rfl (w.heap.size) 55 (lsC x) (by first | rfl | (simp [Act.eval]; done)) HF73.out _ Try.underlying55 rfl (lsC_info _) ?_)
         | (refine wpList_load_vbk rfl 55 (.tmp 8) rfl (w9.heap.size) 55 (lsC (laidF l)) (by first | rfl | (simp [Act.eval]; done)) HF74.out _ Try.underlying55 rfl (lsC_info _) ?_)
         | (refine wpList_load_vbk rfl 55 (.tmp 10) rfl (w18.heap.size) 55 (lsC (laidF l)) (by first | rfl | (simp [Act.eval]; done)) HF75.out _ Try.underlying55 rfl (lsC_info _) ?_)
         | (refine wpList_load_vbk rfl 55 (.tmp 16) rfl (w46.heap.size) 55 (lsC (touchR x id)) (by first | rfl | (simp [Act.eval]; done)) HF76.out _ Try.underlying55 rfl (lsC_info _) ?_)
         | (refine wpList_load_vbk rfl 55 (.tmp 18) rfl (w63.heap.size) 55 (lsC (touchR x id)) (by first | rfl | (simp [Act.eval]; done)) HF77.out _ Try.underlying55 rfl (lsC_info _) ?_))
    refine (drop_c x id ((w63.alloc (.cells (celV (lsC z0)) 55)).setRow w63.heap.size (celV (lsC (touchR x id))))).mono ?_
    rintro e w82 ⟨rfl, hb83⟩
    have HF84 := Lib.hid (HF73.out.below hb83)
    have HF85 := Lib.hid (HF74.out.below hb83)
    have HF86 := Lib.hid (HF75.out.below hb83)
    have HF87 := Lib.hid (HF76.out.below hb83)
    have HF88 := Lib.hid (HF77.out.below hb83)
    have HR89 := Lib.hid (HR79.out.below hb83)
    have HR90 := Lib.hid (HR80.out.below hb83)
    have HR91 := Lib.hid (HR81.out.below hb83)
    have HB92 := Lib.hid (chain HB78.out hb83)
    go_wp2_with (first
         | (refine wpList_store_vbk rfl 55 (.tmp 20) (.tmp 69) rfl w82.heap.size 55 (lsC z0) (lsC (dropR x id)) (by first | rfl | (simp [Act.eval]; done)) (by first | rfl | (simp [Act.eval]; done)) (by first | exact vbk.new' (by simp) | (rw [hzc]; exact vbk.new' (by simp))) (by simp only [lsC_len]) (lsC_one _) (lsC_info _) ?_
            have HF93 := Lib.hid (show vbk ((w82.alloc (.cells (celV (lsC z0)) 55)).setRow w82.heap.size (celV (lsC (dropR x id)))) (w.heap.size) 55 (lsC x) from (HF84.out.alloc _).otherRow (Nat.ne_of_lt HF84.out.lt) _)
            have HF94 := Lib.hid (show vbk ((w82.alloc (.cells (celV (lsC z0)) 55)).setRow w82.heap.size (celV (lsC (dropR x id)))) (w9.heap.size) 55 (lsC (laidF l)) from (HF85.out.alloc _).otherRow (Nat.ne_of_lt HF85.out.lt) _)
            have HF95 := Lib.hid (show vbk ((w82.alloc (.cells (celV (lsC z0)) 55)).setRow w82.heap.size (celV (lsC (dropR x id)))) (w18.heap.size) 55 (lsC (laidF l)) from (HF86.out.alloc _).otherRow (Nat.ne_of_lt HF86.out.lt) _)
            have HF96 := Lib.hid (show vbk ((w82.alloc (.cells (celV (lsC z0)) 55)).setRow w82.heap.size (celV (lsC (dropR x id)))) (w46.heap.size) 55 (lsC (touchR x id)) from (HF87.out.alloc _).otherRow (Nat.ne_of_lt HF87.out.lt) _)
            have HF97 := Lib.hid (show vbk ((w82.alloc (.cells (celV (lsC z0)) 55)).setRow w82.heap.size (celV (lsC (dropR x id)))) (w63.heap.size) 55 (lsC (touchR x id)) from (HF88.out.alloc _).otherRow (Nat.ne_of_lt HF88.out.lt) _)
            have HF98 := Lib.hid (show vbk ((w82.alloc (.cells (celV (lsC z0)) 55)).setRow w82.heap.size (celV (lsC (dropR x id)))) w82.heap.size 55 (lsC (dropR x id)) from (vbk.new' rfl).setRow _)
            have HB99 := Lib.hid (show Below w.heap.size w ((w82.alloc (.cells (celV (lsC z0)) 55)).setRow w82.heap.size (celV (lsC (dropR x id)))) from below_setRow (chain1 HB92.out _) HB92.out.size _)
            have HR100 := Lib.hid (show Rows encZ 1 ((w82.alloc (.cells (celV (lsC z0)) 55)).setRow w82.heap.size (celV (lsC (dropR x id)))) (.slice A n c) n l from HR89.out.below (below_setRow (chain1 (Below.refl _ _) _) (Nat.le_refl _) _))
            have HR101 := Lib.hid (show Rows encZ 1 ((w82.alloc (.cells (celV (lsC z0)) 55)).setRow w82.heap.size (celV (lsC (dropR x id)))) (.slice Ao (ordL x).length co) (ordL x).length (zs (ordL x)) from HR90.out.below (below_setRow (chain1 (Below.refl _ _) _) (Nat.le_refl _) _))
            have HR102 := Lib.hid (show Rows encZ 1 ((w82.alloc (.cells (celV (lsC z0)) 55)).setRow w82.heap.size (celV (lsC (dropR x id)))) (.slice Ap (ordL x).length cp) (ordL x).length (zs (ordL x)) from HR91.out.below (below_setRow (chain1 (Below.refl _ _) _) (Nat.le_refl _) _)))
         | (refine wpList_load_vbk rfl 55 (.tmp 4) rfl (w.heap.size) 55 (lsC x) (by first | rfl | (simp [Act.eval]; done)) HF93.out _ Try.underlying55 rfl (lsC_info _) ?_)
         | (refine wpList_load_vbk rfl 55 (.tmp 8) rfl (w9.heap.size) 55 (lsC (laidF l)) (by first | rfl | (simp [Act.eval]; done)) HF94.out _ Try.underlying55 rfl (lsC_info _) ?_)
         | (refine wpList_load_vbk rfl 55 (.tmp 10) rfl (w18.heap.size) 55 (lsC (laidF l)) (by first | rfl | (simp [Act.eval]; done)) HF95.out _ Try.underlying55 rfl (lsC_info _) ?_)
         | (refine wpList_load_vbk rfl 55 (.tmp 16) rfl (w46.heap.size) 55 (lsC (touchR x id)) (by first | rfl | (simp [Act.eval]; done)) HF96.out _ Try.underlying55 rfl (lsC_info _) ?_)
         | (refine wpList_load_vbk rfl 55 (.tmp 18) rfl (w63.heap.size) 55 (lsC (touchR x id)) (by first | rfl | (simp [Act.eval]; done)) HF97.out _ Try.underlying55 rfl (lsC_info _) ?_)
         | (refine wpList_load_vbk rfl 55 (.tmp 20) rfl (w82.heap.size) 55 (lsC (dropR x id)) (by first | rfl | (simp [Act.eval]; done)) HF98.out _ Try.underlying55 rfl (lsC_info _) ?_))
    refine (rdrop_c x id ((w82.alloc (.cells (celV (lsC z0)) 55)).setRow w82.heap.size (celV (lsC (dropR x id))))).mono ?_
    rintro e w103 ⟨rfl, hb104⟩
    have HF105 := Lib.hid (HF93.out.below hb104)
    have HF106 := Lib.hid (HF94.out.below hb104)
    have HF107 := Lib.hid (HF95.out.below hb104)
    have HF108 := Lib.hid (HF96.out.below hb104)
    have HF109 := Lib.hid (HF97.out.below hb104)
    have HF110 := Lib.hid (HF98.out.below hb104)
    have HR111 := Lib.hid (HR100.out.below hb104)
    have HR112 := Lib.hid (HR101.out.below hb104)
    have HR113 := Lib.hid (HR102.out.below hb104)
    have HB114 := Lib.hid (chain HB99.out hb104)
    go_wp2_with (first
         | (refine wpList_store_vbk rfl 55 (.tmp 22) (.tmp 75) rfl w103.heap.size 55 (lsC z0) (lsC (dropR x id)) (by first | rfl | (simp [Act.eval]; done)) (by first | rfl | (simp [Act.eval]; done)) (by first | exact vbk.new' (by simp) | (rw [hzc]; exact vbk.new' (by simp))) (by simp only [lsC_len]) (lsC_one _) (lsC_info _) ?_
            have HF115 := Lib.hid (show vbk ((w103.alloc (.cells (celV (lsC z0)) 55)).setRow w103.heap.size (celV (lsC (dropR x id)))) (w.heap.size) 55 (lsC x) from (HF105.out.alloc _).otherRow (Nat.ne_of_lt HF105.out.lt) _)
            have HF116 := Lib.hid (show vbk ((w103.alloc (.cells (celV (lsC z0)) 55)).setRow w103.heap.size (celV (lsC (dropR x id)))) (w9.heap.size) 55 (lsC (laidF l)) from (HF106.out.alloc _).otherRow (Nat.ne_of_lt HF106.out.lt) _)
            have HF117 := Lib.hid (show vbk ((w103.alloc (.cells (celV (lsC z0)) 55)).setRow w103.heap.size (celV (lsC (dropR x id)))) (w18.heap.size) 55 (lsC (laidF l)) from (HF107.out.alloc _).otherRow (Nat.ne_of_lt HF107.out.lt) _)
            have HF118 := Lib.hid (show vbk ((w103.alloc (.cells (celV (lsC z0)) 55)).setRow w103.heap.size (celV (lsC (dropR x id)))) (w46.heap.size) 55 (lsC (touchR x id)) from (HF108.out.alloc _).otherRow (Nat.ne_of_lt HF108.out.lt) _)
            have HF119 := Lib.hid (show vbk ((w103.alloc (.cells (celV (lsC z0)) 55)).setRow w103.heap.size (celV (lsC (dropR x id)))) (w63.heap.size) 55 (lsC (touchR x id)) from (HF109.out.alloc _).otherRow (Nat.ne_of_lt HF109.out.lt) _)
            have HF120 := Lib.hid (show vbk ((w103.alloc (.cells (celV (lsC z0)) 55)).setRow w103.heap.size (celV (lsC (dropR x id)))) (w82.heap.size) 55 (lsC (dropR x id)) from (HF110.out.alloc _).otherRow (Nat.ne_of_lt HF110.out.lt) _)
            have HF121 := Lib.hid (show vbk ((w103.alloc (.cells (celV (lsC z0)) 55)).setRow w103.heap.size (celV (lsC (dropR x id)))) w103.heap.size 55 (lsC (dropR x id)) from (vbk.new' rfl).setRow _)
            have HB122 := Lib.hid (show Below w.heap.size w ((w103.alloc (.cells (celV (lsC z0)) 55)).setRow w103.heap.size (celV (lsC (dropR x id)))) from below_setRow (chain1 HB114.out _) HB114.out.size _)
            have HR123 := Lib.hid (show Rows encZ 1 ((w103.alloc (.cells (celV (lsC z0)) 55)).setRow w103.heap.size (celV (lsC (dropR x id)))) (.slice A n c) n l from HR111.out.below (below_setRow (chain1 (Below.refl _ _) _) (Nat.le_refl _) _))
            have HR124 := Lib.hid (show Rows encZ 1 ((w103.alloc (.cells (celV (lsC z0)) 55)).setRow w103.heap.size (celV (lsC (dropR x id)))) (.slice Ao (ordL x).length co) (ordL x).length (zs (ordL x)) from HR112.out.below (below_setRow (chain1 (Below.refl _ _) _) (Nat.le_refl _) _))
            have HR125 := Lib.hid (show Rows encZ 1 ((w103.alloc (.cells (celV (lsC z0)) 55)).setRow w103.heap.size (celV (lsC (dropR x id)))) (.slice Ap (ordL x).length cp) (ordL x).length (zs (ordL x)) from HR113.out.below (below_setRow (chain1 (Below.refl _ _) _) (Nat.le_refl _) _)))
         | (refine wpList_load_vbk rfl 55 (.tmp 4) rfl (w.heap.size) 55 (lsC x) (by first | rfl | (simp [Act.eval]; done)) HF115.out _ Try.underlying55 rfl (lsC_info _) ?_)
         | (refine wpList_load_vbk rfl 55 (.tmp 8) rfl (w9.heap.size) 55 (lsC (laidF l)) (by first | rfl | (simp [Act.eval]; done)) HF116.out _ Try.underlying55 rfl (lsC_info _) ?_)
         | (refine wpList_load_vbk rfl 55 (.tmp 10) rfl (w18.heap.size) 55 (lsC (laidF l)) (by first | rfl | (simp [Act.eval]; done)) HF117.out _ Try.underlying55 rfl (lsC_info _) ?_)
         | (refine wpList_load_vbk rfl 55 (.tmp 16) rfl (w46.heap.size) 55 (lsC (touchR x id)) (by first | rfl | (simp [Act.eval]; done)) HF118.out _ Try.underlying55 rfl (lsC_info _) ?_)
         | (refine wpList_load_vbk rfl 55 (.tmp 18) rfl (w63.heap.size) 55 (lsC (touchR x id)) (by first | rfl | (simp [Act.eval]; done)) HF119.out _ Try.underlying55 rfl (lsC_info _) ?_)
         | (refine wpList_load_vbk rfl 55 (.tmp 20) rfl (w82.heap.size) 55 (lsC (dropR x id)) (by first | rfl | (simp [Act.eval]; done)) HF120.out _ Try.underlying55 rfl (lsC_info _) ?_)
         | (refine wpList_load_vbk rfl 55 (.tmp 22) rfl (w103.heap.size) 55 (lsC (dropR x id)) (by first | rfl | (simp [Act.eval]; done)) HF121.out _ Try.underlying55 rfl (lsC_info _) ?_))
    refine (last_c x ((w103.alloc (.cells (celV (lsC z0)) 55)).setRow w103.heap.size (celV (lsC (dropR x id))))).mono ?_
    rintro e w126 ⟨rfl, hb127⟩
    have HF128 := Lib.hid (HF115.out.below hb127)
    have HF129 := Lib.hid (HF116.out.below hb127)
    have HF130 := Lib.hid (HF117.out.below hb127)
    have HF131 := Lib.hid (HF118.out.below hb127)
    have HF132 := Lib.hid (HF119.out.below hb127)
    have HF133 := Lib.hid (HF120.out.below hb127)
    have HF134 := Lib.hid (HF121.out.below hb127)
    have HR135 := Lib.hid (HR123.out.below hb127)
    have HR136 := Lib.hid (HR124.out.below hb127)
    have HR137 := Lib.hid (HR125.out.below hb127)
    have HB138 := Lib.hid (chain HB122.out hb127)
    go_wp2_with (first
         | (refine wpList_load_vbk rfl 55 (.tmp 4) rfl (w.heap.size) 55 (lsC x) (by first | rfl | (simp [Act.eval]; done)) HF128.out _ Try.underlying55 rfl (lsC_info _) ?_)
         | (refine wpList_load_vbk rfl 55 (.tmp 8) rfl (w9.heap.size) 55 (lsC (laidF l)) (by first | rfl | (simp [Act.eval]; done)) HF129.out _ Try.underlying55 rfl (lsC_info _) ?_)
         | (refine wpList_load_vbk rfl 55 (.tmp 10) rfl (w18.heap.size) 55 (lsC (laidF l)) (by first | rfl | (simp [Act.eval]; done)) HF130.out _ Try.underlying55 rfl (lsC_info _) ?_)
         | (refine wpList_load_vbk rfl 55 (.tmp 16) rfl (w46.heap.size) 55 (lsC (touchR x id)) (by first | rfl | (simp [Act.eval]; done)) HF131.out _ Try.underlying55 rfl (lsC_info _) ?_)
         | (refine wpList_load_vbk rfl 55 (.tmp 18) rfl (w63.heap.size) 55 (lsC (touchR x id)) (by first | rfl | (simp [Act.eval]; done)) HF132.out _ Try.underlying55 rfl (lsC_info _) ?_)
         | (refine wpList_load_vbk rfl 55 (.tmp 20) rfl (w82.heap.size) 55 (lsC (dropR x id)) (by first | rfl | (simp [Act.eval]; done)) HF133.out _ Try.underlying55 rfl (lsC_info _) ?_)
         | (refine wpList_load_vbk rfl 55 (.tmp 22) rfl (w103.heap.size) 55 (lsC (dropR x id)) (by first | rfl | (simp [Act.eval]; done)) HF134.out _ Try.underlying55 rfl (lsC_info _) ?_))
    refine (rlast_c x w126).mono ?_
    rintro e w139 ⟨rfl, hb140⟩
    have HF141 := Lib.hid (HF128.out.below hb140)
    have HF142 := Lib.hid (HF129.out.below hb140)
    have HF143 := Lib.hid (HF130.out.below hb140)
    have HF144 := Lib.hid (HF131.out.below hb140)
    have HF145 := Lib.hid (HF132.out.below hb140)
    have HF146 := Lib.hid (HF133.out.below hb140)
    have HF147 := Lib.hid (HF134.out.below hb140)
    have HR148 := Lib.hid (HR135.out.below hb140)
    have HR149 := Lib.hid (HR136.out.below hb140)
    have HR150 := Lib.hid (HR137.out.below hb140)
    have HB151 := Lib.hid (chain HB138.out hb140)
    go_wp2_with (first
         | (refine wpList_load_vbk rfl 55 (.tmp 4) rfl (w.heap.size) 55 (lsC x) (by first | rfl | (simp [Act.eval]; done)) HF141.out _ Try.underlying55 rfl (lsC_info _) ?_)
         | (refine wpList_load_vbkg (by first | rfl | (simp [Region.wanted, yielded]; done)) 55 (.tmp 4) rfl (w.heap.size) 55 (lsC x) (by first | rfl | (simp [Act.eval]; done)) HF141.out _ Try.underlying55 rfl (lsC_info _) ?_)
         | (refine wpList_load_vbk rfl 55 (.tmp 8) rfl (w9.heap.size) 55 (lsC (laidF l)) (by first | rfl | (simp [Act.eval]; done)) HF142.out _ Try.underlying55 rfl (lsC_info _) ?_)
         | (refine wpList_load_vbkg (by first | rfl | (simp [Region.wanted, yielded]; done)) 55 (.tmp 8) rfl (w9.heap.size) 55 (lsC (laidF l)) (by first | rfl | (simp [Act.eval]; done)) HF142.out _ Try.underlying55 rfl (lsC_info _) ?_)
         | (refine wpList_load_vbk rfl 55 (.tmp 10) rfl (w18.heap.size) 55 (lsC (laidF l)) (by first | rfl | (simp [Act.eval]; done)) HF143.out _ Try.underlying55 rfl (lsC_info _) ?_)
         | (refine wpList_load_vbkg (by first | rfl | (simp [Region.wanted, yielded]; done)) 55 (.tmp 10) rfl (w18.heap.size) 55 (lsC (laidF l)) (by first | rfl | (simp [Act.eval]; done)) HF143.out _ Try.underlying55 rfl (lsC_info _) ?_)
         | (refine wpList_load_vbk rfl 55 (.tmp 16) rfl (w46.heap.size) 55 (lsC (touchR x id)) (by first | rfl | (simp [Act.eval]; done)) HF144.out _ Try.underlying55 rfl (lsC_info _) ?_)
         | (refine wpList_load_vbkg (by first | rfl | (simp [Region.wanted, yielded]; done)) 55 (.tmp 16) rfl (w46.heap.size) 55 (lsC (touchR x id)) (by first | rfl | (simp [Act.eval]; done)) HF144.out _ Try.underlying55 rfl (lsC_info _) ?_)
         | (refine wpList_load_vbk rfl 55 (.tmp 18) rfl (w63.heap.size) 55 (lsC (touchR x id)) (by first | rfl | (simp [Act.eval]; done)) HF145.out _ Try.underlying55 rfl (lsC_info _) ?_)
         | (refine wpList_load_vbkg (by first | rfl | (simp [Region.wanted, yielded]; done)) 55 (.tmp 18) rfl (w63.heap.size) 55 (lsC (touchR x id)) (by first | rfl | (simp [Act.eval]; done)) HF145.out _ Try.underlying55 rfl (lsC_info _) ?_)
         | (refine wpList_load_vbk rfl 55 (.tmp 20) rfl (w82.heap.size) 55 (lsC (dropR x id)) (by first | rfl | (simp [Act.eval]; done)) HF146.out _ Try.underlying55 rfl (lsC_info _) ?_)
         | (refine wpList_load_vbkg (by first | rfl | (simp [Region.wanted, yielded]; done)) 55 (.tmp 20) rfl (w82.heap.size) 55 (lsC (dropR x id)) (by first | rfl | (simp [Act.eval]; done)) HF146.out _ Try.underlying55 rfl (lsC_info _) ?_)
         | (refine wpList_load_vbk rfl 55 (.tmp 22) rfl (w103.heap.size) 55 (lsC (dropR x id)) (by first | rfl | (simp [Act.eval]; done)) HF147.out _ Try.underlying55 rfl (lsC_info _) ?_)
         | (refine wpList_load_vbkg (by first | rfl | (simp [Region.wanted, yielded]; done)) 55 (.tmp 22) rfl (w103.heap.size) 55 (lsC (dropR x id)) (by first | rfl | (simp [Act.eval]; done)) HF147.out _ Try.underlying55 rfl (lsC_info _) ?_))
    refine (same_r _ _ _ (zs (ordL x)) w139 HR149.out HR150.out).mono ?_
    rintro e w152 ⟨rfl, hb153⟩
    have HF154 := Lib.hid (HF141.out.below hb153)
    have HF155 := Lib.hid (HF142.out.below hb153)
    have HF156 := Lib.hid (HF143.out.below hb153)
    have HF157 := Lib.hid (HF144.out.below hb153)
    have HF158 := Lib.hid (HF145.out.below hb153)
    have HF159 := Lib.hid (HF146.out.below hb153)
    have HF160 := Lib.hid (HF147.out.below hb153)
    have HR161 := Lib.hid (HR148.out.below hb153)
    have HR162 := Lib.hid (HR149.out.below hb153)
    have HR163 := Lib.hid (HR150.out.below hb153)
    have HB164 := Lib.hid (chain HB151.out hb153)
    go_wp2_with (first
         | (refine wpList_load_vbk rfl 55 (.tmp 4) rfl (w.heap.size) 55 (lsC x) (by first | rfl | (simp [Act.eval]; done)) HF154.out _ Try.underlying55 rfl (lsC_info _) ?_)
         | (refine wpList_load_vbkg (by first | rfl | (simp [Region.wanted, yielded]; done)) 55 (.tmp 4) rfl (w.heap.size) 55 (lsC x) (by first | rfl | (simp [Act.eval]; done)) HF154.out _ Try.underlying55 rfl (lsC_info _) ?_)
         | (refine wpList_load_vbk rfl 55 (.tmp 8) rfl (w9.heap.size) 55 (lsC (laidF l)) (by first | rfl | (simp [Act.eval]; done)) HF155.out _ Try.underlying55 rfl (lsC_info _) ?_)
         | (refine wpList_load_vbkg (by first | rfl | (simp [Region.wanted, yielded]; done)) 55 (.tmp 8) rfl (w9.heap.size) 55 (lsC (laidF l)) (by first | rfl | (simp [Act.eval]; done)) HF155.out _ Try.underlying55 rfl (lsC_info _) ?_)
         | (refine wpList_load_vbk rfl 55 (.tmp 10) rfl (w18.heap.size) 55 (lsC (laidF l)) (by first | rfl | (simp [Act.eval]; done)) HF156.out _ Try.underlying55 rfl (lsC_info _) ?_)
         | (refine wpList_load_vbkg (by first | rfl | (simp [Region.wanted, yielded]; done)) 55 (.tmp 10) rfl (w18.heap.size) 55 (lsC (laidF l)) (by first | rfl | (simp [Act.eval]; done)) HF156.out _ Try.underlying55 rfl (lsC_info _) ?_)
         | (refine wpList_load_vbk rfl 55 (.tmp 16) rfl (w46.heap.size) 55 (lsC (touchR x id)) (by first | rfl | (simp [Act.eval]; done)) HF157.out _ Try.underlying55 rfl (lsC_info _) ?_)
         | (refine wpList_load_vbkg (by first | rfl | (simp [Region.wanted, yielded]; done)) 55 (.tmp 16) rfl (w46.heap.size) 55 (lsC (touchR x id)) (by first | rfl | (simp [Act.eval]; done)) HF157.out _ Try.underlying55 rfl (lsC_info _) ?_)
         | (refine wpList_load_vbk rfl 55 (.tmp 18) rfl (w63.heap.size) 55 (lsC (touchR x id)) (by first | rfl | (simp [Act.eval]; done)) HF158.out _ Try.underlying55 rfl (lsC_info _) ?_)
         | (refine wpList_load_vbkg (by first | rfl | (simp [Region.wanted, yielded]; done)) 55 (.tmp 18) rfl (w63.heap.size) 55 (lsC (touchR x id)) (by first | rfl | (simp [Act.eval]; done)) HF158.out _ Try.underlying55 rfl (lsC_info _) ?_)
         | (refine wpList_load_vbk rfl 55 (.tmp 20) rfl (w82.heap.size) 55 (lsC (dropR x id)) (by first | rfl | (simp [Act.eval]; done)) HF159.out _ Try.underlying55 rfl (lsC_info _) ?_)
         | (refine wpList_load_vbkg (by first | rfl | (simp [Region.wanted, yielded]; done)) 55 (.tmp 20) rfl (w82.heap.size) 55 (lsC (dropR x id)) (by first | rfl | (simp [Act.eval]; done)) HF159.out _ Try.underlying55 rfl (lsC_info _) ?_)
         | (refine wpList_load_vbk rfl 55 (.tmp 22) rfl (w103.heap.size) 55 (lsC (dropR x id)) (by first | rfl | (simp [Act.eval]; done)) HF160.out _ Try.underlying55 rfl (lsC_info _) ?_)
         | (refine wpList_load_vbkg (by first | rfl | (simp [Region.wanted, yielded]; done)) 55 (.tmp 22) rfl (w103.heap.size) 55 (lsC (dropR x id)) (by first | rfl | (simp [Act.eval]; done)) HF160.out _ Try.underlying55 rfl (lsC_info _) ?_))
    refine (new_c w152).mono ?_
    rintro e w165 ⟨rfl, hb166⟩
    have HF167 := Lib.hid (HF154.out.below hb166)
    have HF168 := Lib.hid (HF155.out.below hb166)
    have HF169 := Lib.hid (HF156.out.below hb166)
    have HF170 := Lib.hid (HF157.out.below hb166)
    have HF171 := Lib.hid (HF158.out.below hb166)
    have HF172 := Lib.hid (HF159.out.below hb166)
    have HF173 := Lib.hid (HF160.out.below hb166)
    have HR174 := Lib.hid (HR161.out.below hb166)
    have HR175 := Lib.hid (HR162.out.below hb166)
    have HR176 := Lib.hid (HR163.out.below hb166)
    have HB177 := Lib.hid (chain HB164.out hb166)
    go_wp2_with fail
    refine (told_c (.slice none 0 0) 0 [] w165 may_nil (Rows.nil _ _ _)).mono ?_
    rintro e w178 ⟨rfl, hb179⟩
    have HF180 := Lib.hid (HF167.out.below hb179)
    have HF181 := Lib.hid (HF168.out.below hb179)
    have HF182 := Lib.hid (HF169.out.below hb179)
    have HF183 := Lib.hid (HF170.out.below hb179)
    have HF184 := Lib.hid (HF171.out.below hb179)
    have HF185 := Lib.hid (HF172.out.below hb179)
    have HF186 := Lib.hid (HF173.out.below hb179)
    have HR187 := Lib.hid (HR174.out.below hb179)
    have HR188 := Lib.hid (HR175.out.below hb179)
    have HR189 := Lib.hid (HR176.out.below hb179)
    have HB190 := Lib.hid (chain HB177.out hb179)
    go_wp2_with fail
    go_ret
    exact ⟨by first | rfl | (simp; done), HB190.out⟩
  · have hn1 : (100 : Int) < (n : Int) := by omega
    clear hcap hmx hl hs hn
    go_enter Try.func9, Try.ntmps9
    go_wp2_with fail
    refine (awake15 _).mono ?_
    rintro e w1 ⟨rfl, hb1⟩
    go_wp2_with fail
    go_ret
    exact ⟨rfl, chain2 (Below.refl _ _) hb1⟩
end Go.Proofs.Try
