/- linhaylaw15.awake (stage 15). -/
import Derived.Test.YtgkiijpheigpjaaSm
namespace Go.Proofs.Try
open Go.RowKit
set_option linter.unusedVariables false
set_option linter.unusedSimpArgs false
set_option maxRecDepth 100000 in
set_option maxHeartbeats 1500000 in
theorem awake15 (w : World) : Calls Try.prog 32 #[] w fun e w' => e = .returned (.bool true) ∧ Below w.heap.size w w' := by
  have hzc := zero_cells
  have hz9 := Lib.hid z0_not
  go_enter Try.func32, Try.ntmps32
  have HB0 := Lib.hid (Below.refl w.heap.size w)
  go_wp2_with fail
  refine (new_c w).mono ?_
  rintro e w1 ⟨rfl, hb2⟩
  have HB3 := Lib.hid (chain HB0.out hb2)
  go_wp2_with fail
  refine (touch_t [] [1] 1 1 (by decide) (by decide) rfl rfl w1).mono ?_
  rintro e w4 ⟨rfl, hb5⟩
  have HB6 := Lib.hid (chain HB3.out hb5)
  go_wp2_with (first
       | (refine wpList_store_vbk rfl 55 (.tmp 1) (.tmp 24) rfl w4.heap.size 55 (lsC z0) (lsC (told [1])) (by first | rfl | (simp [Act.eval]; done)) (by first | rfl | (simp [Act.eval]; done)) (by first | exact vbk.new' (by simp) | (rw [hzc]; exact vbk.new' (by simp))) (by simp only [lsC_len]) (lsC_one _) (lsC_info _) ?_
          have HF7 := Lib.hid (show vbk ((w4.alloc (.cells (celV (lsC z0)) 55)).setRow w4.heap.size (celV (lsC (told [1])))) w4.heap.size 55 (lsC (told [1])) from (vbk.new' rfl).setRow _)
          have HB8 := Lib.hid (show Below w.heap.size w ((w4.alloc (.cells (celV (lsC z0)) 55)).setRow w4.heap.size (celV (lsC (told [1])))) from below_setRow (chain1 HB6.out _) HB6.out.size _))
       | (refine wpList_load_vbk rfl 55 (.tmp 1) rfl (w4.heap.size) 55 (lsC (told [1])) (by first | rfl | (simp [Act.eval]; done)) HF7.out _ Try.underlying55 rfl (lsC_info _) ?_))
  refine (touch_t [1] [2, 1] 2 2 (by decide) (by decide) rfl rfl ((w4.alloc (.cells (celV (lsC z0)) 55)).setRow w4.heap.size (celV (lsC (told [1]))))).mono ?_
  rintro e w9 ⟨rfl, hb10⟩
  have HF11 := Lib.hid (HF7.out.below hb10)
  have HB12 := Lib.hid (chain HB8.out hb10)
  go_wp2_with (first
       | (refine wpList_store_vbk rfl 55 (.tmp 1) (.tmp 29) rfl (w4.heap.size) 55 (lsC (told [1])) (lsC (told [2, 1])) (by first | rfl | (simp [Act.eval]; done)) (by first | rfl | (simp [Act.eval]; done)) HF11.out (by simp only [lsC_len]) (lsC_one _) (lsC_info _) ?_
          have HF13 := Lib.hid (show vbk (w9.setRow (w4.heap.size) (celV (lsC (told [2, 1])))) (w4.heap.size) 55 (lsC (told [2, 1])) from HF11.out.setRow _)
          have HB14 := Lib.hid (show Below w.heap.size w (w9.setRow (w4.heap.size) (celV (lsC (told [2, 1])))) from below_setRow HB12.out (HB6.out.size) _))
       | (refine wpList_load_vbk rfl 55 (.tmp 1) rfl (w4.heap.size) 55 (lsC (told [2, 1])) (by first | rfl | (simp [Act.eval]; done)) HF13.out _ Try.underlying55 rfl (lsC_info _) ?_))
  refine (touch_t [2, 1] [3, 2, 1] 3 3 (by decide) (by decide) rfl rfl (w9.setRow (w4.heap.size) (celV (lsC (told [2, 1]))))).mono ?_
  rintro e w15 ⟨rfl, hb16⟩
  have HF17 := Lib.hid (HF13.out.below hb16)
  have HB18 := Lib.hid (chain HB14.out hb16)
  go_wp2_with (first
       | (refine wpList_store_vbk rfl 55 (.tmp 1) (.tmp 34) rfl (w4.heap.size) 55 (lsC (told [2, 1])) (lsC (told [3, 2, 1])) (by first | rfl | (simp [Act.eval]; done)) (by first | rfl | (simp [Act.eval]; done)) HF17.out (by simp only [lsC_len]) (lsC_one _) (lsC_info _) ?_
          have HF19 := Lib.hid (show vbk (w15.setRow (w4.heap.size) (celV (lsC (told [3, 2, 1])))) (w4.heap.size) 55 (lsC (told [3, 2, 1])) from HF17.out.setRow _)
          have HB20 := Lib.hid (show Below w.heap.size w (w15.setRow (w4.heap.size) (celV (lsC (told [3, 2, 1])))) from below_setRow HB18.out (HB6.out.size) _))
       | (refine wpList_load_vbk rfl 55 (.tmp 1) rfl (w4.heap.size) 55 (lsC (told [3, 2, 1])) (by first | rfl | (simp [Act.eval]; done)) HF19.out _ Try.underlying55 rfl (lsC_info _) ?_))
  refine (touch_t [3, 2, 1] [1, 3, 2] 1 1 (by decide) (by decide) rfl rfl (w15.setRow (w4.heap.size) (celV (lsC (told [3, 2, 1]))))).mono ?_
  rintro e w21 ⟨rfl, hb22⟩
  have HF23 := Lib.hid (HF19.out.below hb22)
  have HB24 := Lib.hid (chain HB20.out hb22)
  go_wp2_with (first
       | (refine wpList_store_vbk rfl 55 (.tmp 1) (.tmp 39) rfl (w4.heap.size) 55 (lsC (told [3, 2, 1])) (lsC (told [1, 3, 2])) (by first | rfl | (simp [Act.eval]; done)) (by first | rfl | (simp [Act.eval]; done)) HF23.out (by simp only [lsC_len]) (lsC_one _) (lsC_info _) ?_
          have HF25 := Lib.hid (show vbk (w21.setRow (w4.heap.size) (celV (lsC (told [1, 3, 2])))) (w4.heap.size) 55 (lsC (told [1, 3, 2])) from HF23.out.setRow _)
          have HB26 := Lib.hid (show Below w.heap.size w (w21.setRow (w4.heap.size) (celV (lsC (told [1, 3, 2])))) from below_setRow HB24.out (HB6.out.size) _))
       | (refine wpList_load_vbk rfl 55 (.tmp 1) rfl (w4.heap.size) 55 (lsC (told [1, 3, 2])) (by first | rfl | (simp [Act.eval]; done)) HF25.out _ Try.underlying55 rfl (lsC_info _) ?_))
  refine (order_t [1, 3, 2] (by decide) (w21.setRow (w4.heap.size) (celV (lsC (told [1, 3, 2]))))).mono ?_
  rintro e w27 ⟨Ao, co, rfl, hro, hb28⟩
  have HF29 := Lib.hid (HF25.out.below hb28)
  have HB30 := Lib.hid (chain HB26.out hb28)
  have HR31 := Lib.hid hro
  clear hro
  have hla : lastV (told [1, 3, 2]) = 2 := by decide
  have hlb : lastB (told [1, 3, 2]) = true := by decide
  have LC := fun W => last_c (told [1, 3, 2]) W
  rw [hla, hlb] at LC
  clear hla hlb
  go_wp2_with (first
       | (refine wpList_load_vbk rfl 55 (.tmp 1) rfl (w4.heap.size) 55 (lsC (told [1, 3, 2])) (by first | rfl | (simp [Act.eval]; done)) HF29.out _ Try.underlying55 rfl (lsC_info _) ?_))
  refine (LC w27).mono ?_
  rintro e w32 ⟨rfl, hb33⟩
  have HF34 := Lib.hid (HF29.out.below hb33)
  have HR35 := Lib.hid (HR31.out.below hb33)
  have HB36 := Lib.hid (chain HB30.out hb33)
  clear LC
  go_wp2_with (first
       | (refine wpList_load_vbk rfl 55 (.tmp 1) rfl (w4.heap.size) 55 (lsC (told [1, 3, 2])) (by first | rfl | (simp [Act.eval]; done)) HF34.out _ Try.underlying55 rfl (lsC_info _) ?_))
  refine (drop_t [1, 3, 2] [1, 2] 3 3 (by decide) rfl (by decide) rfl w32).mono ?_
  rintro e w37 ⟨rfl, hb38⟩
  have HF39 := Lib.hid (HF34.out.below hb38)
  have HR40 := Lib.hid (HR35.out.below hb38)
  have HB41 := Lib.hid (chain HB36.out hb38)
  go_wp2_with (first
       | (refine wpList_store_vbk rfl 55 (.tmp 7) (.tmp 54) rfl w37.heap.size 55 (lsC z0) (lsC (told [1, 2])) (by first | rfl | (simp [Act.eval]; done)) (by first | rfl | (simp [Act.eval]; done)) (by first | exact vbk.new' (by simp) | (rw [hzc]; exact vbk.new' (by simp))) (by simp only [lsC_len]) (lsC_one _) (lsC_info _) ?_
          have HF42 := Lib.hid (show vbk ((w37.alloc (.cells (celV (lsC z0)) 55)).setRow w37.heap.size (celV (lsC (told [1, 2])))) (w4.heap.size) 55 (lsC (told [1, 3, 2])) from (HF39.out.alloc _).otherRow (Nat.ne_of_lt HF39.out.lt) _)
          have HF43 := Lib.hid (show vbk ((w37.alloc (.cells (celV (lsC z0)) 55)).setRow w37.heap.size (celV (lsC (told [1, 2])))) w37.heap.size 55 (lsC (told [1, 2])) from (vbk.new' rfl).setRow _)
          have HB44 := Lib.hid (show Below w.heap.size w ((w37.alloc (.cells (celV (lsC z0)) 55)).setRow w37.heap.size (celV (lsC (told [1, 2])))) from below_setRow (chain1 HB41.out _) HB41.out.size _)
          have HR45 := Lib.hid (show Rows encZ 1 ((w37.alloc (.cells (celV (lsC z0)) 55)).setRow w37.heap.size (celV (lsC (told [1, 2])))) (.slice Ao 3 co) 3 [1, 3, 2] from HR40.out.below (below_setRow (chain1 (Below.refl _ _) _) (Nat.le_refl _) _)))
       | (refine wpList_load_vbk rfl 55 (.tmp 1) rfl (w4.heap.size) 55 (lsC (told [1, 3, 2])) (by first | rfl | (simp [Act.eval]; done)) HF42.out _ Try.underlying55 rfl (lsC_info _) ?_)
       | (refine wpList_load_vbk rfl 55 (.tmp 7) rfl (w37.heap.size) 55 (lsC (told [1, 2])) (by first | rfl | (simp [Act.eval]; done)) HF43.out _ Try.underlying55 rfl (lsC_info _) ?_))
  refine (order_t [1, 2] (by decide) ((w37.alloc (.cells (celV (lsC z0)) 55)).setRow w37.heap.size (celV (lsC (told [1, 2]))))).mono ?_
  rintro e w46 ⟨Am, cm, rfl, hrm, hb47⟩
  have HF48 := Lib.hid (HF42.out.below hb47)
  have HF49 := Lib.hid (HF43.out.below hb47)
  have HR50 := Lib.hid (HR45.out.below hb47)
  have HB51 := Lib.hid (chain HB44.out hb47)
  have HR52 := Lib.hid hrm
  clear hrm
  go_wp2_with (first
       | (refine wpList_load_vbk rfl 55 (.tmp 1) rfl (w4.heap.size) 55 (lsC (told [1, 3, 2])) (by first | rfl | (simp [Act.eval]; done)) HF48.out _ Try.underlying55 rfl (lsC_info _) ?_)
       | (refine wpList_load_vbk rfl 55 (.tmp 7) rfl (w37.heap.size) 55 (lsC (told [1, 2])) (by first | rfl | (simp [Act.eval]; done)) HF49.out _ Try.underlying55 rfl (lsC_info _) ?_))
  refine (drop_n [1, 2] 3 (by decide) (by decide) w46).mono ?_
  rintro e w53 ⟨rfl, hb54⟩
  have HF55 := Lib.hid (HF48.out.below hb54)
  have HF56 := Lib.hid (HF49.out.below hb54)
  have HR57 := Lib.hid (HR50.out.below hb54)
  have HR58 := Lib.hid (HR52.out.below hb54)
  have HB59 := Lib.hid (chain HB51.out hb54)
  go_wp2_with (first
       | (refine wpList_store_vbk rfl 55 (.tmp 11) (.tmp 64) rfl w53.heap.size 55 (lsC z0) (lsC (told [1, 2])) (by first | rfl | (simp [Act.eval]; done)) (by first | rfl | (simp [Act.eval]; done)) (by first | exact vbk.new' (by simp) | (rw [hzc]; exact vbk.new' (by simp))) (by simp only [lsC_len]) (lsC_one _) (lsC_info _) ?_
          have HF60 := Lib.hid (show vbk ((w53.alloc (.cells (celV (lsC z0)) 55)).setRow w53.heap.size (celV (lsC (told [1, 2])))) (w4.heap.size) 55 (lsC (told [1, 3, 2])) from (HF55.out.alloc _).otherRow (Nat.ne_of_lt HF55.out.lt) _)
          have HF61 := Lib.hid (show vbk ((w53.alloc (.cells (celV (lsC z0)) 55)).setRow w53.heap.size (celV (lsC (told [1, 2])))) (w37.heap.size) 55 (lsC (told [1, 2])) from (HF56.out.alloc _).otherRow (Nat.ne_of_lt HF56.out.lt) _)
          have HF62 := Lib.hid (show vbk ((w53.alloc (.cells (celV (lsC z0)) 55)).setRow w53.heap.size (celV (lsC (told [1, 2])))) w53.heap.size 55 (lsC (told [1, 2])) from (vbk.new' rfl).setRow _)
          have HB63 := Lib.hid (show Below w.heap.size w ((w53.alloc (.cells (celV (lsC z0)) 55)).setRow w53.heap.size (celV (lsC (told [1, 2])))) from below_setRow (chain1 HB59.out _) HB59.out.size _)
          have HR64 := Lib.hid (show Rows encZ 1 ((w53.alloc (.cells (celV (lsC z0)) 55)).setRow w53.heap.size (celV (lsC (told [1, 2])))) (.slice Ao 3 co) 3 [1, 3, 2] from HR57.out.below (below_setRow (chain1 (Below.refl _ _) _) (Nat.le_refl _) _))
          have HR65 := Lib.hid (show Rows encZ 1 ((w53.alloc (.cells (celV (lsC z0)) 55)).setRow w53.heap.size (celV (lsC (told [1, 2])))) (.slice Am 2 cm) 2 [1, 2] from HR58.out.below (below_setRow (chain1 (Below.refl _ _) _) (Nat.le_refl _) _)))
       | (refine wpList_load_vbk rfl 55 (.tmp 1) rfl (w4.heap.size) 55 (lsC (told [1, 3, 2])) (by first | rfl | (simp [Act.eval]; done)) HF60.out _ Try.underlying55 rfl (lsC_info _) ?_)
       | (refine wpList_load_vbk rfl 55 (.tmp 7) rfl (w37.heap.size) 55 (lsC (told [1, 2])) (by first | rfl | (simp [Act.eval]; done)) HF61.out _ Try.underlying55 rfl (lsC_info _) ?_)
       | (refine wpList_load_vbk rfl 55 (.tmp 11) rfl (w53.heap.size) 55 (lsC (told [1, 2])) (by first | rfl | (simp [Act.eval]; done)) HF62.out _ Try.underlying55 rfl (lsC_info _) ?_))
  refine (touch_n [1, 2] 64 (by decide) (by decide) ((w53.alloc (.cells (celV (lsC z0)) 55)).setRow w53.heap.size (celV (lsC (told [1, 2]))))).mono ?_
  rintro e w66 ⟨rfl, hb67⟩
  have HF68 := Lib.hid (HF60.out.below hb67)
  have HF69 := Lib.hid (HF61.out.below hb67)
  have HF70 := Lib.hid (HF62.out.below hb67)
  have HR71 := Lib.hid (HR64.out.below hb67)
  have HR72 := Lib.hid (HR65.out.below hb67)
  have HB73 := Lib.hid (chain HB63.out hb67)
  go_wp2_with (first
       | (refine wpList_store_vbk rfl 55 (.tmp 13) (.tmp 69) rfl w66.heap.size 55 (lsC z0) (lsC (told [1, 2])) (by first | rfl | (simp [Act.eval]; done)) (by first | rfl | (simp [Act.eval]; done)) (by first | exact vbk.new' (by simp) | (rw [hzc]; exact vbk.new' (by simp))) (by simp only [lsC_len]) (lsC_one _) (lsC_info _) ?_
          have HF74 := Lib.hid (show vbk ((w66.alloc (.cells (celV (lsC z0)) 55)).setRow w66.heap.size (celV (lsC (told [1, 2])))) (w4.heap.size) 55 (lsC (told [1, 3, 2])) from (HF68.out.alloc _).otherRow (Nat.ne_of_lt HF68.out.lt) _)
          have HF75 := Lib.hid (show vbk ((w66.alloc (.cells (celV (lsC z0)) 55)).setRow w66.heap.size (celV (lsC (told [1, 2])))) (w37.heap.size) 55 (lsC (told [1, 2])) from (HF69.out.alloc _).otherRow (Nat.ne_of_lt HF69.out.lt) _)
          have HF76 := Lib.hid (show vbk ((w66.alloc (.cells (celV (lsC z0)) 55)).setRow w66.heap.size (celV (lsC (told [1, 2])))) (w53.heap.size) 55 (lsC (told [1, 2])) from (HF70.out.alloc _).otherRow (Nat.ne_of_lt HF70.out.lt) _)
          have HF77 := Lib.hid (show vbk ((w66.alloc (.cells (celV (lsC z0)) 55)).setRow w66.heap.size (celV (lsC (told [1, 2])))) w66.heap.size 55 (lsC (told [1, 2])) from (vbk.new' rfl).setRow _)
          have HB78 := Lib.hid (show Below w.heap.size w ((w66.alloc (.cells (celV (lsC z0)) 55)).setRow w66.heap.size (celV (lsC (told [1, 2])))) from below_setRow (chain1 HB73.out _) HB73.out.size _)
          have HR79 := Lib.hid (show Rows encZ 1 ((w66.alloc (.cells (celV (lsC z0)) 55)).setRow w66.heap.size (celV (lsC (told [1, 2])))) (.slice Ao 3 co) 3 [1, 3, 2] from HR71.out.below (below_setRow (chain1 (Below.refl _ _) _) (Nat.le_refl _) _))
          have HR80 := Lib.hid (show Rows encZ 1 ((w66.alloc (.cells (celV (lsC z0)) 55)).setRow w66.heap.size (celV (lsC (told [1, 2])))) (.slice Am 2 cm) 2 [1, 2] from HR72.out.below (below_setRow (chain1 (Below.refl _ _) _) (Nat.le_refl _) _)))
       | (refine wpList_load_vbk rfl 55 (.tmp 1) rfl (w4.heap.size) 55 (lsC (told [1, 3, 2])) (by first | rfl | (simp [Act.eval]; done)) HF74.out _ Try.underlying55 rfl (lsC_info _) ?_)
       | (refine wpList_load_vbk rfl 55 (.tmp 7) rfl (w37.heap.size) 55 (lsC (told [1, 2])) (by first | rfl | (simp [Act.eval]; done)) HF75.out _ Try.underlying55 rfl (lsC_info _) ?_)
       | (refine wpList_load_vbk rfl 55 (.tmp 11) rfl (w53.heap.size) 55 (lsC (told [1, 2])) (by first | rfl | (simp [Act.eval]; done)) HF76.out _ Try.underlying55 rfl (lsC_info _) ?_)
       | (refine wpList_load_vbk rfl 55 (.tmp 13) rfl (w66.heap.size) 55 (lsC (told [1, 2])) (by first | rfl | (simp [Act.eval]; done)) HF77.out _ Try.underlying55 rfl (lsC_info _) ?_))
  refine (touch_z 1 ((w66.alloc (.cells (celV (lsC z0)) 55)).setRow w66.heap.size (celV (lsC (told [1, 2]))))).mono ?_
  rintro e w81 ⟨rfl, hb82⟩
  have HF83 := Lib.hid (HF74.out.below hb82)
  have HF84 := Lib.hid (HF75.out.below hb82)
  have HF85 := Lib.hid (HF76.out.below hb82)
  have HF86 := Lib.hid (HF77.out.below hb82)
  have HR87 := Lib.hid (HR79.out.below hb82)
  have HR88 := Lib.hid (HR80.out.below hb82)
  have HB89 := Lib.hid (chain HB78.out hb82)
  have OZ := fun W => order_r z0 W
  rw [hz9.out] at OZ
  go_wp2_with (first
       | (refine wpList_store_vbk rfl 55 (.tmp 15) (.tmp 74) rfl w81.heap.size 55 (lsC z0) (lsC z0) (by first | rfl | (simp [Act.eval]; done)) (by first | rfl | (simp [Act.eval]; done)) (by first | exact vbk.new' (by simp) | (rw [hzc]; exact vbk.new' (by simp))) (by simp only [lsC_len]) (lsC_one _) (lsC_info _) ?_
          have HF90 := Lib.hid (show vbk ((w81.alloc (.cells (celV (lsC z0)) 55)).setRow w81.heap.size (celV (lsC z0))) (w4.heap.size) 55 (lsC (told [1, 3, 2])) from (HF83.out.alloc _).otherRow (Nat.ne_of_lt HF83.out.lt) _)
          have HF91 := Lib.hid (show vbk ((w81.alloc (.cells (celV (lsC z0)) 55)).setRow w81.heap.size (celV (lsC z0))) (w37.heap.size) 55 (lsC (told [1, 2])) from (HF84.out.alloc _).otherRow (Nat.ne_of_lt HF84.out.lt) _)
          have HF92 := Lib.hid (show vbk ((w81.alloc (.cells (celV (lsC z0)) 55)).setRow w81.heap.size (celV (lsC z0))) (w53.heap.size) 55 (lsC (told [1, 2])) from (HF85.out.alloc _).otherRow (Nat.ne_of_lt HF85.out.lt) _)
          have HF93 := Lib.hid (show vbk ((w81.alloc (.cells (celV (lsC z0)) 55)).setRow w81.heap.size (celV (lsC z0))) (w66.heap.size) 55 (lsC (told [1, 2])) from (HF86.out.alloc _).otherRow (Nat.ne_of_lt HF86.out.lt) _)
          have HF94 := Lib.hid (show vbk ((w81.alloc (.cells (celV (lsC z0)) 55)).setRow w81.heap.size (celV (lsC z0))) w81.heap.size 55 (lsC z0) from (vbk.new' rfl).setRow _)
          have HB95 := Lib.hid (show Below w.heap.size w ((w81.alloc (.cells (celV (lsC z0)) 55)).setRow w81.heap.size (celV (lsC z0))) from below_setRow (chain1 HB89.out _) HB89.out.size _)
          have HR96 := Lib.hid (show Rows encZ 1 ((w81.alloc (.cells (celV (lsC z0)) 55)).setRow w81.heap.size (celV (lsC z0))) (.slice Ao 3 co) 3 [1, 3, 2] from HR87.out.below (below_setRow (chain1 (Below.refl _ _) _) (Nat.le_refl _) _))
          have HR97 := Lib.hid (show Rows encZ 1 ((w81.alloc (.cells (celV (lsC z0)) 55)).setRow w81.heap.size (celV (lsC z0))) (.slice Am 2 cm) 2 [1, 2] from HR88.out.below (below_setRow (chain1 (Below.refl _ _) _) (Nat.le_refl _) _)))
       | (refine wpList_load_vbk rfl 55 (.tmp 1) rfl (w4.heap.size) 55 (lsC (told [1, 3, 2])) (by first | rfl | (simp [Act.eval]; done)) HF90.out _ Try.underlying55 rfl (lsC_info _) ?_)
       | (refine wpList_load_vbk rfl 55 (.tmp 7) rfl (w37.heap.size) 55 (lsC (told [1, 2])) (by first | rfl | (simp [Act.eval]; done)) HF91.out _ Try.underlying55 rfl (lsC_info _) ?_)
       | (refine wpList_load_vbk rfl 55 (.tmp 11) rfl (w53.heap.size) 55 (lsC (told [1, 2])) (by first | rfl | (simp [Act.eval]; done)) HF92.out _ Try.underlying55 rfl (lsC_info _) ?_)
       | (refine wpList_load_vbk rfl 55 (.tmp 13) rfl (w66.heap.size) 55 (lsC (told [1, 2])) (by first | rfl | (simp [Act.eval]; done)) HF93.out _ Try.underlying55 rfl (lsC_info _) ?_)
       | (refine wpList_load_vbk rfl 55 (.tmp 15) rfl (w81.heap.size) 55 (lsC z0) (by first | rfl | (simp [Act.eval]; done)) HF94.out _ Try.underlying55 rfl (lsC_info _) ?_))
  refine (OZ ((w81.alloc (.cells (celV (lsC z0)) 55)).setRow w81.heap.size (celV (lsC z0)))).mono ?_
  rintro e w98 ⟨Az, cz, rfl, hrz, hb99⟩
  have HF100 := Lib.hid (HF90.out.below hb99)
  have HF101 := Lib.hid (HF91.out.below hb99)
  have HF102 := Lib.hid (HF92.out.below hb99)
  have HF103 := Lib.hid (HF93.out.below hb99)
  have HF104 := Lib.hid (HF94.out.below hb99)
  have HR105 := Lib.hid (HR96.out.below hb99)
  have HR106 := Lib.hid (HR97.out.below hb99)
  have HB107 := Lib.hid (chain HB95.out hb99)
  clear hrz OZ
  go_wp2_with fail
  have HF108 := Lib.hid (HF100.out.alloc (.cells #[.int .i64 1, .int .i64 1] 3))
  have HF109 := Lib.hid (HF101.out.alloc (.cells #[.int .i64 1, .int .i64 1] 3))
  have HF110 := Lib.hid (HF102.out.alloc (.cells #[.int .i64 1, .int .i64 1] 3))
  have HF111 := Lib.hid (HF103.out.alloc (.cells #[.int .i64 1, .int .i64 1] 3))
  have HF112 := Lib.hid (HF104.out.alloc (.cells #[.int .i64 1, .int .i64 1] 3))
  have HR113 := Lib.hid (HR105.out.below ((Below.refl _ _).alloc (Nat.le_refl _) (.cells #[.int .i64 1, .int .i64 1] 3)))
  have HR114 := Lib.hid (HR106.out.below ((Below.refl _ _).alloc (Nat.le_refl _) (.cells #[.int .i64 1, .int .i64 1] 3)))
  have HB115 := Lib.hid (chain1 HB107.out (.cells #[.int .i64 1, .int .i64 1] 3))
  have OF := Lib.hid (of_c (.slice (some ⟨w98.heap.size, 0, none⟩) 2 2) 2 [1, 1] (w98.alloc (.cells #[.int .i64 1, .int .i64 1] 3)) (rows_blkb (w := w98) (cs := #[.int .i64 1, .int .i64 1]) (t := 3) (l := [1, 1]) (w98.heap.size) 2 2 (by simp) (by omega) (Nat.le_refl _) rfl rfl))
  rw [laidF_no (show ¬isL [1, 1] by decide), errL_no (show ¬isL [1, 1] by decide)] at OF
  refine (OF.out).mono ?_
  rintro e w116 ⟨rfl, hb117⟩
  have HF118 := Lib.hid (HF108.out.below hb117)
  have HF119 := Lib.hid (HF109.out.below hb117)
  have HF120 := Lib.hid (HF110.out.below hb117)
  have HF121 := Lib.hid (HF111.out.below hb117)
  have HF122 := Lib.hid (HF112.out.below hb117)
  have HR123 := Lib.hid (HR113.out.below hb117)
  have HR124 := Lib.hid (HR114.out.below hb117)
  have HB125 := Lib.hid (chain HB115.out hb117)
  go_wp2_with (first
       | (refine wpList_store_vbk rfl 55 (.tmp 19) (.tmp 84) rfl w116.heap.size 55 (lsC z0) (lsC (told [])) (by first | rfl | (simp [Act.eval]; done)) (by first | rfl | (simp [Act.eval]; done)) (by first | exact vbk.new' (by simp) | (rw [hzc]; exact vbk.new' (by simp))) (by simp only [lsC_len]) (lsC_one _) (lsC_info _) ?_
          have HF126 := Lib.hid (show vbk ((w116.alloc (.cells (celV (lsC z0)) 55)).setRow w116.heap.size (celV (lsC (told [])))) (w4.heap.size) 55 (lsC (told [1, 3, 2])) from (HF118.out.alloc _).otherRow (Nat.ne_of_lt HF118.out.lt) _)
          have HF127 := Lib.hid (show vbk ((w116.alloc (.cells (celV (lsC z0)) 55)).setRow w116.heap.size (celV (lsC (told [])))) (w37.heap.size) 55 (lsC (told [1, 2])) from (HF119.out.alloc _).otherRow (Nat.ne_of_lt HF119.out.lt) _)
          have HF128 := Lib.hid (show vbk ((w116.alloc (.cells (celV (lsC z0)) 55)).setRow w116.heap.size (celV (lsC (told [])))) (w53.heap.size) 55 (lsC (told [1, 2])) from (HF120.out.alloc _).otherRow (Nat.ne_of_lt HF120.out.lt) _)
          have HF129 := Lib.hid (show vbk ((w116.alloc (.cells (celV (lsC z0)) 55)).setRow w116.heap.size (celV (lsC (told [])))) (w66.heap.size) 55 (lsC (told [1, 2])) from (HF121.out.alloc _).otherRow (Nat.ne_of_lt HF121.out.lt) _)
          have HF130 := Lib.hid (show vbk ((w116.alloc (.cells (celV (lsC z0)) 55)).setRow w116.heap.size (celV (lsC (told [])))) (w81.heap.size) 55 (lsC z0) from (HF122.out.alloc _).otherRow (Nat.ne_of_lt HF122.out.lt) _)
          have HF131 := Lib.hid (show vbk ((w116.alloc (.cells (celV (lsC z0)) 55)).setRow w116.heap.size (celV (lsC (told [])))) w116.heap.size 55 (lsC (told [])) from (vbk.new' rfl).setRow _)
          have HB132 := Lib.hid (show Below w.heap.size w ((w116.alloc (.cells (celV (lsC z0)) 55)).setRow w116.heap.size (celV (lsC (told [])))) from below_setRow (chain1 HB125.out _) HB125.out.size _)
          have HR133 := Lib.hid (show Rows encZ 1 ((w116.alloc (.cells (celV (lsC z0)) 55)).setRow w116.heap.size (celV (lsC (told [])))) (.slice Ao 3 co) 3 [1, 3, 2] from HR123.out.below (below_setRow (chain1 (Below.refl _ _) _) (Nat.le_refl _) _))
          have HR134 := Lib.hid (show Rows encZ 1 ((w116.alloc (.cells (celV (lsC z0)) 55)).setRow w116.heap.size (celV (lsC (told [])))) (.slice Am 2 cm) 2 [1, 2] from HR124.out.below (below_setRow (chain1 (Below.refl _ _) _) (Nat.le_refl _) _))))
  have HF135 := Lib.hid (HF126.out.alloc (.cells #[.int .i64 1, .int .i64 3, .int .i64 2] 3))
  have HF136 := Lib.hid (HF127.out.alloc (.cells #[.int .i64 1, .int .i64 3, .int .i64 2] 3))
  have HF137 := Lib.hid (HF128.out.alloc (.cells #[.int .i64 1, .int .i64 3, .int .i64 2] 3))
  have HF138 := Lib.hid (HF129.out.alloc (.cells #[.int .i64 1, .int .i64 3, .int .i64 2] 3))
  have HF139 := Lib.hid (HF130.out.alloc (.cells #[.int .i64 1, .int .i64 3, .int .i64 2] 3))
  have HF140 := Lib.hid (HF131.out.alloc (.cells #[.int .i64 1, .int .i64 3, .int .i64 2] 3))
  have HR141 := Lib.hid (HR133.out.below ((Below.refl _ _).alloc (Nat.le_refl _) (.cells #[.int .i64 1, .int .i64 3, .int .i64 2] 3)))
  have HR142 := Lib.hid (HR134.out.below ((Below.refl _ _).alloc (Nat.le_refl _) (.cells #[.int .i64 1, .int .i64 3, .int .i64 2] 3)))
  have HB143 := Lib.hid (chain1 HB132.out (.cells #[.int .i64 1, .int .i64 3, .int .i64 2] 3))
  refine (same_r (.slice Ao 3 co) (.slice (some ⟨w116.heap.size + 1, 0, none⟩) 3 3) 3 [1, 3, 2] (((w116.alloc (.cells (celV (lsC z0)) 55)).setRow w116.heap.size (celV (lsC (told [])))).alloc (.cells #[.int .i64 1, .int .i64 3, .int .i64 2] 3)) HR141.out (rows_blkb (w := ((w116.alloc (.cells (celV (lsC z0)) 55)).setRow w116.heap.size (celV (lsC (told []))))) (cs := #[.int .i64 1, .int .i64 3, .int .i64 2]) (t := 3) (l := [1, 3, 2]) (w116.heap.size + 1) 3 3 (by simp) (by omega) (Nat.le_refl _) rfl rfl)).mono ?_
  rintro e w144 ⟨rfl, hb145⟩
  have HF146 := Lib.hid (HF135.out.below hb145)
  have HF147 := Lib.hid (HF136.out.below hb145)
  have HF148 := Lib.hid (HF137.out.below hb145)
  have HF149 := Lib.hid (HF138.out.below hb145)
  have HF150 := Lib.hid (HF139.out.below hb145)
  have HF151 := Lib.hid (HF140.out.below hb145)
  have HR152 := Lib.hid (HR141.out.below hb145)
  have HR153 := Lib.hid (HR142.out.below hb145)
  have HB154 := Lib.hid (chain HB143.out hb145)
  go_wp2_with fail
  have HF155 := Lib.hid (HF146.out.alloc (.cells #[.int .i64 1, .int .i64 2] 3))
  have HF156 := Lib.hid (HF147.out.alloc (.cells #[.int .i64 1, .int .i64 2] 3))
  have HF157 := Lib.hid (HF148.out.alloc (.cells #[.int .i64 1, .int .i64 2] 3))
  have HF158 := Lib.hid (HF149.out.alloc (.cells #[.int .i64 1, .int .i64 2] 3))
  have HF159 := Lib.hid (HF150.out.alloc (.cells #[.int .i64 1, .int .i64 2] 3))
  have HF160 := Lib.hid (HF151.out.alloc (.cells #[.int .i64 1, .int .i64 2] 3))
  have HR161 := Lib.hid (HR152.out.below ((Below.refl _ _).alloc (Nat.le_refl _) (.cells #[.int .i64 1, .int .i64 2] 3)))
  have HR162 := Lib.hid (HR153.out.below ((Below.refl _ _).alloc (Nat.le_refl _) (.cells #[.int .i64 1, .int .i64 2] 3)))
  have HB163 := Lib.hid (chain1 HB154.out (.cells #[.int .i64 1, .int .i64 2] 3))
  refine (same_r (.slice Am 2 cm) (.slice (some ⟨w144.heap.size, 0, none⟩) 2 2) 2 [1, 2] (w144.alloc (.cells #[.int .i64 1, .int .i64 2] 3)) HR162.out (rows_blkb (w := w144) (cs := #[.int .i64 1, .int .i64 2]) (t := 3) (l := [1, 2]) (w144.heap.size) 2 2 (by simp) (by omega) (Nat.le_refl _) rfl rfl)).mono ?_
  rintro e w164 ⟨rfl, hb165⟩
  have HF166 := Lib.hid (HF155.out.below hb165)
  have HF167 := Lib.hid (HF156.out.below hb165)
  have HF168 := Lib.hid (HF157.out.below hb165)
  have HF169 := Lib.hid (HF158.out.below hb165)
  have HF170 := Lib.hid (HF159.out.below hb165)
  have HF171 := Lib.hid (HF160.out.below hb165)
  have HR172 := Lib.hid (HR161.out.below hb165)
  have HR173 := Lib.hid (HR162.out.below hb165)
  have HB174 := Lib.hid (chain HB163.out hb165)
  go_wp2_with fail
  go_ret
  exact ⟨by first | rfl | (simp; done), HB174.out⟩
end Go.Proofs.Try
