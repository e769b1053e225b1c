/- ListBack (stage 15). -/
import Derived.Test.YtgkiijpheigpjaaL15a
namespace Go.Proofs.Try
open Go.RowKit
set_option linter.unusedVariables false
set_option linter.unusedSimpArgs false
theorem same_rr (v u : Value) (n m : Nat) (l : List Int) (w : World) (h1 : Rows encZ 1 w v n l) (h2 : Rows encZ 1 w u m l) : Calls Try.prog 43 #[v, u] w fun r w' => r = .returned (.bool true) ∧ Below w.heap.size w w' := by
  have a := h1.len
  have b := h2.len
  subst a
  subst b
  exact same_r v u _ l w h1 h2
theorem order_tz {x : Ls} (h : isTB x = true) (W : World) : Calls Try.prog 35 #[.agg (celV (lsC x))] W fun e w' => ∃ A c, e = .returned (.tuple #[.slice A (ordL x).length c, .bool true]) ∧ Rows encZ 1 w' (.slice A (ordL x).length c) (ordL x).length (zs (ordL x)) ∧ Below W.heap.size W w' := by
  have := order_r x W
  rwa [h] at this
theorem order_nz {x : Ls} (h : isTB x = false) (W : World) : Calls Try.prog 35 #[.agg (celV (lsC x))] W fun e w' => ∃ A c, e = .returned (.tuple #[.slice A 0 c, .bool false]) ∧ Rows encZ 1 w' (.slice A 0 c) 0 [] ∧ Below W.heap.size W w' := by
  have := order_r x W
  rwa [h, ordL_no h] at this
theorem of_zs (v : Value) (n : Nat) (m : List Nat) (w : World) (hm : mayL m) (h : Rows encZ 1 w v n (zs m)) :
    Calls Try.prog 33 #[v] w fun e w' => e = .returned (.tuple #[.agg (celV (lsC (told m))), .int .i64 0]) ∧ Below w.heap.size w w' := by
  have := of_c v n (zs m) w h
  rwa [laid_zs hm, err_zs hm] at this
theorem of_no (v : Value) (n : Nat) (l : List Int) (w : World) (hm : ¬isL l) (h : Rows encZ 1 w v n l) :
    Calls Try.prog 33 #[v] w fun e w' => e = .returned (.tuple #[.agg (celV (lsC (told []))), .int .i64 110]) ∧ Below w.heap.size w w' := by
  have := of_c v n l w h
  rwa [laidF_no hm, errL_no hm] at this
theorem eqS_is {x : Ls} (h : isTB x = true) (W : World) : (binOp .eql 55 (.agg (celV (lsC (told (ordL x))))) (.agg (celV (lsC x)))).run Try.prog W = .ok (.bool true) W := by
  rw [eqS_eql, sameB_iff.2 (isTB_iff.1 h).2.symm]
set_option maxRecDepth 100000 in
set_option maxHeartbeats 8000000 in
theorem walk_ListBack (v0 : Value) (x : Ls) (w : World) (o0 : RowIn encZ 1 (fun _ => True) w v0) :
    Calls Try.prog 11 #[v0, .agg (celV (lsC x))] w fun e w' => e = .returned (.bool true) ∧ Below w.heap.size w w' := by
  obtain ⟨A, n, c, l, rfl, hcap, hmx, hl, _, hs⟩ := o0
  have hzc := zero_cells
  by_cases hn : n ≤ 100
  · have hr0 : Rows encZ 1 w (.slice A n c) n l := ⟨A, c, rfl, hcap, by omega, hl, hs⟩
    have hn1 : ¬((100 : Int) < (n : Int)) := by omega
    clear hcap hmx hl hs
    cases ht : isTB x with
    | true =>
      have HTX := Lib.hid ht
      clear ht
      by_cases hi : isL l
      · have HIL := Lib.hid hi
        clear hi
        have hE := fun W => eqS_is HTX.out W
        have HF1 := Lib.hid (show vbk (w.alloc (.cells (celV (lsC x)) 55)) (w.heap.size) 55 (lsC x) from vbk.new w _ _)
        have HB2 := Lib.hid (show Below w.heap.size w (w.alloc (.cells (celV (lsC x)) 55)) from (Below.refl _ _).alloc (Nat.le_refl _) _)
        have HR3 := Lib.hid (hr0.below ((Below.refl _ _).alloc (Nat.le_refl _) (.cells (celV (lsC x)) 55)))
        clear hr0 hn
        go_enter Try.func11, Try.ntmps11
        go_wp2_with (first
             | (refine wpList_load_vbk rfl 55 (.tmp 3) rfl (w.heap.size) 55 (lsC x) (by first | rfl | (simp [Act.eval]; done)) HF1.out _ Try.underlying55 rfl (lsC_info _) ?_))
        refine (awake15 (w.alloc (.cells (celV (lsC x)) 55))).mono ?_
        rintro e w4 ⟨rfl, hb5⟩
        have HF6 := Lib.hid (HF1.out.below hb5)
        have HR7 := Lib.hid (HR3.out.below hb5)
        have HB8 := Lib.hid (chain HB2.out hb5)
        go_wp2_with fail
        refine (of_zs (.slice A n c) n (nat l) w4 (may_nat HIL.out) (by rw [zs_nat HIL.out]; exact HR7.out)).mono ?_
        rintro e w9 ⟨rfl, hb10⟩
        have HF11 := Lib.hid (HF6.out.below hb10)
        have HR12 := Lib.hid (HR7.out.below hb10)
        have HB13 := Lib.hid (chain HB8.out hb10)
        go_wp2_with (first
             | (refine wpList_store_vbk rfl 55 (.tmp 6) (.tmp 22) rfl w9.heap.size 55 (lsC z0) (lsC (told (nat l))) (by first | rfl | (simp [Act.eval]; done)) (by first | rfl | (simp [Act.eval]; done)) (by first | exact vbk.new' (by simp) | (rw [hzc]; exact vbk.new' (by simp))) (by simp only [lsC_len]) (lsC_one _) (lsC_info _) ?_
                have HF14 := Lib.hid (show vbk ((w9.alloc (.cells (celV (lsC z0)) 55)).setRow w9.heap.size (celV (lsC (told (nat l))))) (w.heap.size) 55 (lsC x) from (HF11.out.alloc _).otherRow (Nat.ne_of_lt HF11.out.lt) _)
                have HF15 := Lib.hid (show vbk ((w9.alloc (.cells (celV (lsC z0)) 55)).setRow w9.heap.size (celV (lsC (told (nat l))))) w9.heap.size 55 (lsC (told (nat l))) from (vbk.new' rfl).setRow _)
                have HB16 := Lib.hid (show Below w.heap.size w ((w9.alloc (.cells (celV (lsC z0)) 55)).setRow w9.heap.size (celV (lsC (told (nat l))))) from below_setRow (chain1 HB13.out _) HB13.out.size _)
                have HR17 := Lib.hid (show Rows encZ 1 ((w9.alloc (.cells (celV (lsC z0)) 55)).setRow w9.heap.size (celV (lsC (told (nat l))))) (.slice A n c) n l from HR12.out.below (below_setRow (chain1 (Below.refl _ _) _) (Nat.le_refl _) _)))
             | (refine wpList_load_vbk rfl 55 (.tmp 3) rfl (w.heap.size) 55 (lsC x) (by first | rfl | (simp [Act.eval]; done)) HF14.out _ Try.underlying55 rfl (lsC_info _) ?_)
             | (refine wpList_load_vbk rfl 55 (.tmp 6) rfl (w9.heap.size) 55 (lsC (told (nat l))) (by first | rfl | (simp [Act.eval]; done)) HF15.out _ Try.underlying55 rfl (lsC_info _) ?_))
        refine (order_t (nat l) (may_nat HIL.out) ((w9.alloc (.cells (celV (lsC z0)) 55)).setRow w9.heap.size (celV (lsC (told (nat l)))))).mono ?_
        rintro e w18 ⟨Ao, co, rfl, hro, hb19⟩
        have HF20 := Lib.hid (HF14.out.below hb19)
        have HF21 := Lib.hid (HF15.out.below hb19)
        have HR22 := Lib.hid (HR17.out.below hb19)
        have HB23 := Lib.hid (chain HB16.out hb19)
        rw [zs_nat HIL.out] at hro
        have HR24 := Lib.hid hro
        clear hro
        go_wp2_with (first
             | (refine wpList_load_vbk rfl 55 (.tmp 3) rfl (w.heap.size) 55 (lsC x) (by first | rfl | (simp [Act.eval]; done)) HF20.out _ Try.underlying55 rfl (lsC_info _) ?_)
             | (refine wpList_load_vbk rfl 55 (.tmp 6) rfl (w9.heap.size) 55 (lsC (told (nat l))) (by first | rfl | (simp [Act.eval]; done)) HF21.out _ Try.underlying55 rfl (lsC_info _) ?_))
        refine (order_tz HTX.out w18).mono ?_
        rintro e w25 ⟨Ap, cp, rfl, hrp, hb26⟩
        have HF27 := Lib.hid (HF20.out.below hb26)
        have HF28 := Lib.hid (HF21.out.below hb26)
        have HR29 := Lib.hid (HR22.out.below hb26)
        have HR30 := Lib.hid (HR24.out.below hb26)
        have HB31 := Lib.hid (chain HB23.out hb26)
        have HR32 := Lib.hid hrp
        clear hrp
        go_wp2_with fail
        refine (of_zs _ _ (ordL x) w25 (ordL_may x) HR32.out).mono ?_
        rintro e w33 ⟨rfl, hb34⟩
        have HF35 := Lib.hid (HF27.out.below hb34)
        have HF36 := Lib.hid (HF28.out.below hb34)
        have HR37 := Lib.hid (HR29.out.below hb34)
        have HR38 := Lib.hid (HR30.out.below hb34)
        have HR39 := Lib.hid (HR32.out.below hb34)
        have HB40 := Lib.hid (chain HB31.out hb34)
        go_wp2_with (first
             | (refine wpList_store_vbk rfl 55 (.tmp 12) (.tmp 37) rfl w33.heap.size 55 (lsC z0) (lsC (told (ordL x))) (by first | rfl | (simp [Act.eval]; done)) (by first | rfl | (simp [Act.eval]; done)) (by first | exact vbk.new' (by simp) | (rw [hzc]; exact vbk.new' (by simp))) (by simp only [lsC_len]) (lsC_one _) (lsC_info _) ?_
                have HF41 := Lib.hid (show vbk ((w33.alloc (.cells (celV (lsC z0)) 55)).setRow w33.heap.size (celV (lsC (told (ordL x))))) (w.heap.size) 55 (lsC x) from (HF35.out.alloc _).otherRow (Nat.ne_of_lt HF35.out.lt) _)
                have HF42 := Lib.hid (show vbk ((w33.alloc (.cells (celV (lsC z0)) 55)).setRow w33.heap.size (celV (lsC (told (ordL x))))) (w9.heap.size) 55 (lsC (told (nat l))) from (HF36.out.alloc _).otherRow (Nat.ne_of_lt HF36.out.lt) _)
                have HF43 := Lib.hid (show vbk ((w33.alloc (.cells (celV (lsC z0)) 55)).setRow w33.heap.size (celV (lsC (told (ordL x))))) w33.heap.size 55 (lsC (told (ordL x))) from (vbk.new' rfl).setRow _)
                have HB44 := Lib.hid (show Below w.heap.size w ((w33.alloc (.cells (celV (lsC z0)) 55)).setRow w33.heap.size (celV (lsC (told (ordL x))))) from below_setRow (chain1 HB40.out _) HB40.out.size _)
                have HR45 := Lib.hid (show Rows encZ 1 ((w33.alloc (.cells (celV (lsC z0)) 55)).setRow w33.heap.size (celV (lsC (told (ordL x))))) (.slice A n c) n l from HR37.out.below (below_setRow (chain1 (Below.refl _ _) _) (Nat.le_refl _) _))
                have HR46 := Lib.hid (show Rows encZ 1 ((w33.alloc (.cells (celV (lsC z0)) 55)).setRow w33.heap.size (celV (lsC (told (ordL x))))) (.slice Ao (nat l).length co) (nat l).length l from HR38.out.below (below_setRow (chain1 (Below.refl _ _) _) (Nat.le_refl _) _))
                have HR47 := Lib.hid (show Rows encZ 1 ((w33.alloc (.cells (celV (lsC z0)) 55)).setRow w33.heap.size (celV (lsC (told (ordL x))))) (.slice Ap (ordL x).length cp) (ordL x).length (zs (ordL x)) from HR39.out.below (below_setRow (chain1 (Below.refl _ _) _) (Nat.le_refl _) _))))
        refine (same_rr _ _ _ n l ((w33.alloc (.cells (celV (lsC z0)) 55)).setRow w33.heap.size (celV (lsC (told (ordL x))))) HR46.out HR45.out).mono ?_
        rintro e w48 ⟨rfl, hb49⟩
        have HF50 := Lib.hid (HF41.out.below hb49)
        have HF51 := Lib.hid (HF42.out.below hb49)
        have HF52 := Lib.hid (HF43.out.below hb49)
        have HR53 := Lib.hid (HR45.out.below hb49)
        have HR54 := Lib.hid (HR46.out.below hb49)
        have HR55 := Lib.hid (HR47.out.below hb49)
        have HB56 := Lib.hid (chain HB44.out hb49)
        go_wp2_with (first
             | (refine wpList_load_vbk rfl 55 (.tmp 3) rfl (w.heap.size) 55 (lsC x) (by first | rfl | (simp [Act.eval]; done)) HF50.out _ Try.underlying55 rfl (lsC_info _) ?_)
             | (refine wpList_load_vbkg (by first | rfl | (simp [Region.wanted, yielded]; done)) 55 (.tmp 3) rfl (w.heap.size) 55 (lsC x) (by first | rfl | (simp [Act.eval]; done)) HF50.out _ Try.underlying55 rfl (lsC_info _) ?_)
             | (refine wpList_load_vbk rfl 55 (.tmp 6) rfl (w9.heap.size) 55 (lsC (told (nat l))) (by first | rfl | (simp [Act.eval]; done)) HF51.out _ Try.underlying55 rfl (lsC_info _) ?_)
             | (refine wpList_load_vbkg (by first | rfl | (simp [Region.wanted, yielded]; done)) 55 (.tmp 6) rfl (w9.heap.size) 55 (lsC (told (nat l))) (by first | rfl | (simp [Act.eval]; done)) HF51.out _ Try.underlying55 rfl (lsC_info _) ?_)
             | (refine wpList_load_vbk rfl 55 (.tmp 12) rfl (w33.heap.size) 55 (lsC (told (ordL x))) (by first | rfl | (simp [Act.eval]; done)) HF52.out _ Try.underlying55 rfl (lsC_info _) ?_)
             | (refine wpList_load_vbkg (by first | rfl | (simp [Region.wanted, yielded]; done)) 55 (.tmp 12) rfl (w33.heap.size) 55 (lsC (told (ordL x))) (by first | rfl | (simp [Act.eval]; done)) HF52.out _ Try.underlying55 rfl (lsC_info _) ?_))
        go_ret
        exact ⟨by first | rfl | (simp; done), HB56.out⟩
      · have HIL := Lib.hid hi
        clear hi
        have hE := fun W => eqS_is HTX.out W
        have HF1 := Lib.hid (show vbk (w.alloc (.cells (celV (lsC x)) 55)) (w.heap.size) 55 (lsC x) from vbk.new w _ _)
        have HB2 := Lib.hid (show Below w.heap.size w (w.alloc (.cells (celV (lsC x)) 55)) from (Below.refl _ _).alloc (Nat.le_refl _) _)
        have HR3 := Lib.hid (hr0.below ((Below.refl _ _).alloc (Nat.le_refl _) (.cells (celV (lsC x)) 55)))
        clear hr0 hn
        go_enter Try.func11, Try.ntmps11
        go_wp2_with (first
             | (refine wpList_load_vbk rfl 55 (.tmp 3) rfl (w.heap.size) 55 (lsC x) (by first | rfl | (simp [Act.eval]; done)) HF1.out _ Try.underlying55 rfl (lsC_info _) ?_))
        refine (awake15 (w.alloc (.cells (celV (lsC x)) 55))).mono ?_
        rintro e w4 ⟨rfl, hb5⟩
        have HF6 := Lib.hid (HF1.out.below hb5)
        have HR7 := Lib.hid (HR3.out.below hb5)
        have HB8 := Lib.hid (chain HB2.out hb5)
        go_wp2_with fail
        refine (of_no (.slice A n c) n l w4 HIL.out HR7.out).mono ?_
        rintro e w9 ⟨rfl, hb10⟩
        have HF11 := Lib.hid (HF6.out.below hb10)
        have HR12 := Lib.hid (HR7.out.below hb10)
        have HB13 := Lib.hid (chain HB8.out hb10)
        go_wp2_with (first
             | (refine wpList_store_vbk rfl 55 (.tmp 6) (.tmp 22) rfl w9.heap.size 55 (lsC z0) (lsC (told [])) (by first | rfl | (simp [Act.eval]; done)) (by first | rfl | (simp [Act.eval]; done)) (by first | exact vbk.new' (by simp) | (rw [hzc]; exact vbk.new' (by simp))) (by simp only [lsC_len]) (lsC_one _) (lsC_info _) ?_
                have HF14 := Lib.hid (show vbk ((w9.alloc (.cells (celV (lsC z0)) 55)).setRow w9.heap.size (celV (lsC (told [])))) (w.heap.size) 55 (lsC x) from (HF11.out.alloc _).otherRow (Nat.ne_of_lt HF11.out.lt) _)
                have HF15 := Lib.hid (show vbk ((w9.alloc (.cells (celV (lsC z0)) 55)).setRow w9.heap.size (celV (lsC (told [])))) w9.heap.size 55 (lsC (told [])) from (vbk.new' rfl).setRow _)
                have HB16 := Lib.hid (show Below w.heap.size w ((w9.alloc (.cells (celV (lsC z0)) 55)).setRow w9.heap.size (celV (lsC (told [])))) from below_setRow (chain1 HB13.out _) HB13.out.size _)
                have HR17 := Lib.hid (show Rows encZ 1 ((w9.alloc (.cells (celV (lsC z0)) 55)).setRow w9.heap.size (celV (lsC (told [])))) (.slice A n c) n l from HR12.out.below (below_setRow (chain1 (Below.refl _ _) _) (Nat.le_refl _) _)))
             | (refine wpList_load_vbk rfl 55 (.tmp 3) rfl (w.heap.size) 55 (lsC x) (by first | rfl | (simp [Act.eval]; done)) HF14.out _ Try.underlying55 rfl (lsC_info _) ?_)
             | (refine wpList_load_vbk rfl 55 (.tmp 6) rfl (w9.heap.size) 55 (lsC (told [])) (by first | rfl | (simp [Act.eval]; done)) HF15.out _ Try.underlying55 rfl (lsC_info _) ?_))
        refine (order_t [] may_nil ((w9.alloc (.cells (celV (lsC z0)) 55)).setRow w9.heap.size (celV (lsC (told []))))).mono ?_
        rintro e w18 ⟨Ao, co, rfl, hro, hb19⟩
        have HF20 := Lib.hid (HF14.out.below hb19)
        have HF21 := Lib.hid (HF15.out.below hb19)
        have HR22 := Lib.hid (HR17.out.below hb19)
        have HB23 := Lib.hid (chain HB16.out hb19)
        simp only [List.length_nil] at hro
        have HR24 := Lib.hid hro
        clear hro
        go_wp2_with (first
             | (refine wpList_load_vbk rfl 55 (.tmp 3) rfl (w.heap.size) 55 (lsC x) (by first | rfl | (simp [Act.eval]; done)) HF20.out _ Try.underlying55 rfl (lsC_info _) ?_)
             | (refine wpList_load_vbk rfl 55 (.tmp 6) rfl (w9.heap.size) 55 (lsC (told [])) (by first | rfl | (simp [Act.eval]; done)) HF21.out _ Try.underlying55 rfl (lsC_info _) ?_))
        refine (order_tz HTX.out w18).mono ?_
        rintro e w25 ⟨Ap, cp, rfl, hrp, hb26⟩
        have HF27 := Lib.hid (HF20.out.below hb26)
        have HF28 := Lib.hid (HF21.out.below hb26)
        have HR29 := Lib.hid (HR22.out.below hb26)
        have HR30 := Lib.hid (HR24.out.below hb26)
        have HB31 := Lib.hid (chain HB23.out hb26)
        have HR32 := Lib.hid hrp
        clear hrp
        go_wp2_with fail
        refine (of_zs _ _ (ordL x) w25 (ordL_may x) HR32.out).mono ?_
        rintro e w33 ⟨rfl, hb34⟩
        have HF35 := Lib.hid (HF27.out.below hb34)
        have HF36 := Lib.hid (HF28.out.below hb34)
        have HR37 := Lib.hid (HR29.out.below hb34)
        have HR38 := Lib.hid (HR30.out.below hb34)
        have HR39 := Lib.hid (HR32.out.below hb34)
        have HB40 := Lib.hid (chain HB31.out hb34)
        go_wp2_with (first
             | (refine wpList_store_vbk rfl 55 (.tmp 12) (.tmp 37) rfl w33.heap.size 55 (lsC z0) (lsC (told (ordL x))) (by first | rfl | (simp [Act.eval]; done)) (by first | rfl | (simp [Act.eval]; done)) (by first | exact vbk.new' (by simp) | (rw [hzc]; exact vbk.new' (by simp))) (by simp only [lsC_len]) (lsC_one _) (lsC_info _) ?_
                have HF41 := Lib.hid (show vbk ((w33.alloc (.cells (celV (lsC z0)) 55)).setRow w33.heap.size (celV (lsC (told (ordL x))))) (w.heap.size) 55 (lsC x) from (HF35.out.alloc _).otherRow (Nat.ne_of_lt HF35.out.lt) _)
                have HF42 := Lib.hid (show vbk ((w33.alloc (.cells (celV (lsC z0)) 55)).setRow w33.heap.size (celV (lsC (told (ordL x))))) (w9.heap.size) 55 (lsC (told [])) from (HF36.out.alloc _).otherRow (Nat.ne_of_lt HF36.out.lt) _)
                have HF43 := Lib.hid (show vbk ((w33.alloc (.cells (celV (lsC z0)) 55)).setRow w33.heap.size (celV (lsC (told (ordL x))))) w33.heap.size 55 (lsC (told (ordL x))) from (vbk.new' rfl).setRow _)
                have HB44 := Lib.hid (show Below w.heap.size w ((w33.alloc (.cells (celV (lsC z0)) 55)).setRow w33.heap.size (celV (lsC (told (ordL x))))) from below_setRow (chain1 HB40.out _) HB40.out.size _)
                have HR45 := Lib.hid (show Rows encZ 1 ((w33.alloc (.cells (celV (lsC z0)) 55)).setRow w33.heap.size (celV (lsC (told (ordL x))))) (.slice A n c) n l from HR37.out.below (below_setRow (chain1 (Below.refl _ _) _) (Nat.le_refl _) _))
                have HR46 := Lib.hid (show Rows encZ 1 ((w33.alloc (.cells (celV (lsC z0)) 55)).setRow w33.heap.size (celV (lsC (told (ordL x))))) (.slice Ao 0 co) 0 [] from HR38.out.below (below_setRow (chain1 (Below.refl _ _) _) (Nat.le_refl _) _))
                have HR47 := Lib.hid (show Rows encZ 1 ((w33.alloc (.cells (celV (lsC z0)) 55)).setRow w33.heap.size (celV (lsC (told (ordL x))))) (.slice Ap (ordL x).length cp) (ordL x).length (zs (ordL x)) from HR39.out.below (below_setRow (chain1 (Below.refl _ _) _) (Nat.le_refl _) _)))
             | (refine wpList_load_vbk rfl 55 (.tmp 3) rfl (w.heap.size) 55 (lsC x) (by first | rfl | (simp [Act.eval]; done)) HF41.out _ Try.underlying55 rfl (lsC_info _) ?_)
             | (refine wpList_load_vbkg (by first | rfl | (simp [Region.wanted, yielded]; done)) 55 (.tmp 3) rfl (w.heap.size) 55 (lsC x) (by first | rfl | (simp [Act.eval]; done)) HF41.out _ Try.underlying55 rfl (lsC_info _) ?_)
             | (refine wpList_load_vbk rfl 55 (.tmp 6) rfl (w9.heap.size) 55 (lsC (told [])) (by first | rfl | (simp [Act.eval]; done)) HF42.out _ Try.underlying55 rfl (lsC_info _) ?_)
             | (refine wpList_load_vbkg (by first | rfl | (simp [Region.wanted, yielded]; done)) 55 (.tmp 6) rfl (w9.heap.size) 55 (lsC (told [])) (by first | rfl | (simp [Act.eval]; done)) HF42.out _ Try.underlying55 rfl (lsC_info _) ?_)
             | (refine wpList_load_vbk rfl 55 (.tmp 12) rfl (w33.heap.size) 55 (lsC (told (ordL x))) (by first | rfl | (simp [Act.eval]; done)) HF43.out _ Try.underlying55 rfl (lsC_info _) ?_)
             | (refine wpList_load_vbkg (by first | rfl | (simp [Region.wanted, yielded]; done)) 55 (.tmp 12) rfl (w33.heap.size) 55 (lsC (told (ordL x))) (by first | rfl | (simp [Act.eval]; done)) HF43.out _ Try.underlying55 rfl (lsC_info _) ?_))
        go_ret
        exact ⟨by first | rfl | (simp; done), HB44.out⟩
    | false =>
      have HTX := Lib.hid ht
      clear ht
      by_cases hi : isL l
      · have HIL := Lib.hid hi
        clear hi
        have hE := fun W => eqS_same x W
        have HF1 := Lib.hid (show vbk (w.alloc (.cells (celV (lsC x)) 55)) (w.heap.size) 55 (lsC x) from vbk.new w _ _)
        have HB2 := Lib.hid (show Below w.heap.size w (w.alloc (.cells (celV (lsC x)) 55)) from (Below.refl _ _).alloc (Nat.le_refl _) _)
        have HR3 := Lib.hid (hr0.below ((Below.refl _ _).alloc (Nat.le_refl _) (.cells (celV (lsC x)) 55)))
        clear hr0 hn
        go_enter Try.func11, Try.ntmps11
        go_wp2_with (first
             | (refine wpList_load_vbk rfl 55 (.tmp 3) rfl (w.heap.size) 55 (lsC x) (by first | rfl | (simp [Act.eval]; done)) HF1.out _ Try.underlying55 rfl (lsC_info _) ?_))
        refine (awake15 (w.alloc (.cells (celV (lsC x)) 55))).mono ?_
        rintro e w4 ⟨rfl, hb5⟩
        have HF6 := Lib.hid (HF1.out.below hb5)
        have HR7 := Lib.hid (HR3.out.below hb5)
        have HB8 := Lib.hid (chain HB2.out hb5)
        go_wp2_with fail
        refine (of_zs (.slice A n c) n (nat l) w4 (may_nat HIL.out) (by rw [zs_nat HIL.out]; exact HR7.out)).mono ?_
        rintro e w9 ⟨rfl, hb10⟩
        have HF11 := Lib.hid (HF6.out.below hb10)
        have HR12 := Lib.hid (HR7.out.below hb10)
        have HB13 := Lib.hid (chain HB8.out hb10)
        go_wp2_with (first
             | (refine wpList_store_vbk rfl 55 (.tmp 6) (.tmp 22) rfl w9.heap.size 55 (lsC z0) (lsC (told (nat l))) (by first | rfl | (simp [Act.eval]; done)) (by first | rfl | (simp [Act.eval]; done)) (by first | exact vbk.new' (by simp) | (rw [hzc]; exact vbk.new' (by simp))) (by simp only [lsC_len]) (lsC_one _) (lsC_info _) ?_
                have HF14 := Lib.hid (show vbk ((w9.alloc (.cells (celV (lsC z0)) 55)).setRow w9.heap.size (celV (lsC (told (nat l))))) (w.heap.size) 55 (lsC x) from (HF11.out.alloc _).otherRow (Nat.ne_of_lt HF11.out.lt) _)
                have HF15 := Lib.hid (show vbk ((w9.alloc (.cells (celV (lsC z0)) 55)).setRow w9.heap.size (celV (lsC (told (nat l))))) w9.heap.size 55 (lsC (told (nat l))) from (vbk.new' rfl).setRow _)
                have HB16 := Lib.hid (show Below w.heap.size w ((w9.alloc (.cells (celV (lsC z0)) 55)).setRow w9.heap.size (celV (lsC (told (nat l))))) from below_setRow (chain1 HB13.out _) HB13.out.size _)
                have HR17 := Lib.hid (show Rows encZ 1 ((w9.alloc (.cells (celV (lsC z0)) 55)).setRow w9.heap.size (celV (lsC (told (nat l))))) (.slice A n c) n l from HR12.out.below (below_setRow (chain1 (Below.refl _ _) _) (Nat.le_refl _) _)))
             | (refine wpList_load_vbk rfl 55 (.tmp 3) rfl (w.heap.size) 55 (lsC x) (by first | rfl | (simp [Act.eval]; done)) HF14.out _ Try.underlying55 rfl (lsC_info _) ?_)
             | (refine wpList_load_vbk rfl 55 (.tmp 6) rfl (w9.heap.size) 55 (lsC (told (nat l))) (by first | rfl | (simp [Act.eval]; done)) HF15.out _ Try.underlying55 rfl (lsC_info _) ?_))
        refine (order_t (nat l) (may_nat HIL.out) ((w9.alloc (.cells (celV (lsC z0)) 55)).setRow w9.heap.size (celV (lsC (told (nat l)))))).mono ?_
        rintro e w18 ⟨Ao, co, rfl, hro, hb19⟩
        have HF20 := Lib.hid (HF14.out.below hb19)
        have HF21 := Lib.hid (HF15.out.below hb19)
        have HR22 := Lib.hid (HR17.out.below hb19)
        have HB23 := Lib.hid (chain HB16.out hb19)
        rw [zs_nat HIL.out] at hro
        have HR24 := Lib.hid hro
        clear hro
        go_wp2_with (first
             | (refine wpList_load_vbk rfl 55 (.tmp 3) rfl (w.heap.size) 55 (lsC x) (by first | rfl | (simp [Act.eval]; done)) HF20.out _ Try.underlying55 rfl (lsC_info _) ?_)
             | (refine wpList_load_vbk rfl 55 (.tmp 6) rfl (w9.heap.size) 55 (lsC (told (nat l))) (by first | rfl | (simp [Act.eval]; done)) HF21.out _ Try.underlying55 rfl (lsC_info _) ?_))
        refine (order_nz HTX.out w18).mono ?_
        rintro e w25 ⟨Ap, cp, rfl, hrp, hb26⟩
        have HF27 := Lib.hid (HF20.out.below hb26)
        have HF28 := Lib.hid (HF21.out.below hb26)
        have HR29 := Lib.hid (HR22.out.below hb26)
        have HR30 := Lib.hid (HR24.out.below hb26)
        have HB31 := Lib.hid (chain HB23.out hb26)
        have HR32 := Lib.hid hrp
        clear hrp
        go_wp2_with fail
        refine (of_zs _ 0 [] w25 may_nil HR32.out).mono ?_
        rintro e w33 ⟨rfl, hb34⟩
        have HF35 := Lib.hid (HF27.out.below hb34)
        have HF36 := Lib.hid (HF28.out.below hb34)
        have HR37 := Lib.hid (HR29.out.below hb34)
        have HR38 := Lib.hid (HR30.out.below hb34)
        have HR39 := Lib.hid (HR32.out.below hb34)
        have HB40 := Lib.hid (chain HB31.out hb34)
        go_wp2_with (first
             | (refine wpList_store_vbk rfl 55 (.tmp 12) (.tmp 37) rfl w33.heap.size 55 (lsC z0) (lsC (told [])) (by first | rfl | (simp [Act.eval]; done)) (by first | rfl | (simp [Act.eval]; done)) (by first | exact vbk.new' (by simp) | (rw [hzc]; exact vbk.new' (by simp))) (by simp only [lsC_len]) (lsC_one _) (lsC_info _) ?_
                have HF41 := Lib.hid (show vbk ((w33.alloc (.cells (celV (lsC z0)) 55)).setRow w33.heap.size (celV (lsC (told [])))) (w.heap.size) 55 (lsC x) from (HF35.out.alloc _).otherRow (Nat.ne_of_lt HF35.out.lt) _)
                have HF42 := Lib.hid (show vbk ((w33.alloc (.cells (celV (lsC z0)) 55)).setRow w33.heap.size (celV (lsC (told [])))) (w9.heap.size) 55 (lsC (told (nat l))) from (HF36.out.alloc _).otherRow (Nat.ne_of_lt HF36.out.lt) _)
                have HF43 := Lib.hid (show vbk ((w33.alloc (.cells (celV (lsC z0)) 55)).setRow w33.heap.size (celV (lsC (told [])))) w33.heap.size 55 (lsC (told [])) from (vbk.new' rfl).setRow _)
                have HB44 := Lib.hid (show Below w.heap.size w ((w33.alloc (.cells (celV (lsC z0)) 55)).setRow w33.heap.size (celV (lsC (told [])))) from below_setRow (chain1 HB40.out _) HB40.out.size _)
                have HR45 := Lib.hid (show Rows encZ 1 ((w33.alloc (.cells (celV (lsC z0)) 55)).setRow w33.heap.size (celV (lsC (told [])))) (.slice A n c) n l from HR37.out.below (below_setRow (chain1 (Below.refl _ _) _) (Nat.le_refl _) _))
                have HR46 := Lib.hid (show Rows encZ 1 ((w33.alloc (.cells (celV (lsC z0)) 55)).setRow w33.heap.size (celV (lsC (told [])))) (.slice Ao (nat l).length co) (nat l).length l from HR38.out.below (below_setRow (chain1 (Below.refl _ _) _) (Nat.le_refl _) _))
                have HR47 := Lib.hid (show Rows encZ 1 ((w33.alloc (.cells (celV (lsC z0)) 55)).setRow w33.heap.size (celV (lsC (told [])))) (.slice Ap 0 cp) 0 [] from HR39.out.below (below_setRow (chain1 (Below.refl _ _) _) (Nat.le_refl _) _))))
        refine (same_rr _ _ _ n l ((w33.alloc (.cells (celV (lsC z0)) 55)).setRow w33.heap.size (celV (lsC (told [])))) HR46.out HR45.out).mono ?_
        rintro e w48 ⟨rfl, hb49⟩
        have HF50 := Lib.hid (HF41.out.below hb49)
        have HF51 := Lib.hid (HF42.out.below hb49)
        have HF52 := Lib.hid (HF43.out.below hb49)
        have HR53 := Lib.hid (HR45.out.below hb49)
        have HR54 := Lib.hid (HR46.out.below hb49)
        have HR55 := Lib.hid (HR47.out.below hb49)
        have HB56 := Lib.hid (chain HB44.out hb49)
        go_wp2_with fail
        go_ret
        exact ⟨by first | rfl | (simp; done), HB56.out⟩
      · have HIL := Lib.hid hi
        clear hi
        have hE := fun W => eqS_same x W
        have HF1 := Lib.hid (show vbk (w.alloc (.cells (celV (lsC x)) 55)) (w.heap.size) 55 (lsC x) from vbk.new w _ _)
        have HB2 := Lib.hid (show Below w.heap.size w (w.alloc (.cells (celV (lsC x)) 55)) from (Below.refl _ _).alloc (Nat.le_refl _) _)
        have HR3 := Lib.hid (hr0.below ((Below.refl _ _).alloc (Nat.le_refl _) (.cells (celV (lsC x)) 55)))
        clear hr0 hn
        go_enter Try.func11, Try.ntmps11
        go_wp2_with (first
             | (refine wpList_load_vbk rfl 55 (.tmp 3) rfl (w.heap.size) 55 (lsC x) (by first | rfl | (simp [Act.eval]; done)) HF1.out _ Try.underlying55 rfl (lsC_info _) ?_))
        refine (awake15 (w.alloc (.cells (celV (lsC x)) 55))).mono ?_
        rintro e w4 ⟨rfl, hb5⟩
        have HF6 := Lib.hid (HF1.out.below hb5)
        have HR7 := Lib.hid (HR3.out.below hb5)
        have HB8 := Lib.hid (chain HB2.out hb5)
        go_wp2_with fail
        refine (of_no (.slice A n c) n l w4 HIL.out HR7.out).mono ?_
        rintro e w9 ⟨rfl, hb10⟩
        have HF11 := Lib.hid (HF6.out.below hb10)
        have HR12 := Lib.hid (HR7.out.below hb10)
        have HB13 := Lib.hid (chain HB8.out hb10)
        go_wp2_with (first
             | (refine wpList_store_vbk rfl 55 (.tmp 6) (.tmp 22) rfl w9.heap.size 55 (lsC z0) (lsC (told [])) (by first | rfl | (simp [Act.eval]; done)) (by first | rfl | (simp [Act.eval]; done)) (by first | exact vbk.new' (by simp) | (rw [hzc]; exact vbk.new' (by simp))) (by simp only [lsC_len]) (lsC_one _) (lsC_info _) ?_
                have HF14 := Lib.hid (show vbk ((w9.alloc (.cells (celV (lsC z0)) 55)).setRow w9.heap.size (celV (lsC (told [])))) (w.heap.size) 55 (lsC x) from (HF11.out.alloc _).otherRow (Nat.ne_of_lt HF11.out.lt) _)
                have HF15 := Lib.hid (show vbk ((w9.alloc (.cells (celV (lsC z0)) 55)).setRow w9.heap.size (celV (lsC (told [])))) w9.heap.size 55 (lsC (told [])) from (vbk.new' rfl).setRow _)
                have HB16 := Lib.hid (show Below w.heap.size w ((w9.alloc (.cells (celV (lsC z0)) 55)).setRow w9.heap.size (celV (lsC (told [])))) from below_setRow (chain1 HB13.out _) HB13.out.size _)
                have HR17 := Lib.hid (show Rows encZ 1 ((w9.alloc (.cells (celV (lsC z0)) 55)).setRow w9.heap.size (celV (lsC (told [])))) (.slice A n c) n l from HR12.out.below (below_setRow (chain1 (Below.refl _ _) _) (Nat.le_refl _) _)))
             | (refine wpList_load_vbk rfl 55 (.tmp 3) rfl (w.heap.size) 55 (lsC x) (by first | rfl | (simp [Act.eval]; done)) HF14.out _ Try.underlying55 rfl (lsC_info _) ?_)
             | (refine wpList_load_vbk rfl 55 (.tmp 6) rfl (w9.heap.size) 55 (lsC (told [])) (by first | rfl | (simp [Act.eval]; done)) HF15.out _ Try.underlying55 rfl (lsC_info _) ?_))
        refine (order_t [] may_nil ((w9.alloc (.cells (celV (lsC z0)) 55)).setRow w9.heap.size (celV (lsC (told []))))).mono ?_
        rintro e w18 ⟨Ao, co, rfl, hro, hb19⟩
        have HF20 := Lib.hid (HF14.out.below hb19)
        have HF21 := Lib.hid (HF15.out.below hb19)
        have HR22 := Lib.hid (HR17.out.below hb19)
        have HB23 := Lib.hid (chain HB16.out hb19)
        simp only [List.length_nil] at hro
        have HR24 := Lib.hid hro
        clear hro
        go_wp2_with (first
             | (refine wpList_load_vbk rfl 55 (.tmp 3) rfl (w.heap.size) 55 (lsC x) (by first | rfl | (simp [Act.eval]; done)) HF20.out _ Try.underlying55 rfl (lsC_info _) ?_)
             | (refine wpList_load_vbk rfl 55 (.tmp 6) rfl (w9.heap.size) 55 (lsC (told [])) (by first | rfl | (simp [Act.eval]; done)) HF21.out _ Try.underlying55 rfl (lsC_info _) ?_))
        refine (order_nz HTX.out w18).mono ?_
        rintro e w25 ⟨Ap, cp, rfl, hrp, hb26⟩
        have HF27 := Lib.hid (HF20.out.below hb26)
        have HF28 := Lib.hid (HF21.out.below hb26)
        have HR29 := Lib.hid (HR22.out.below hb26)
        have HR30 := Lib.hid (HR24.out.below hb26)
        have HB31 := Lib.hid (chain HB23.out hb26)
        have HR32 := Lib.hid hrp
        clear hrp
        go_wp2_with fail
        refine (of_zs _ 0 [] w25 may_nil HR32.out).mono ?_
        rintro e w33 ⟨rfl, hb34⟩
        have HF35 := Lib.hid (HF27.out.below hb34)
        have HF36 := Lib.hid (HF28.out.below hb34)
        have HR37 := Lib.hid (HR29.out.below hb34)
        have HR38 := Lib.hid (HR30.out.below hb34)
        have HR39 := Lib.hid (HR32.out.below hb34)
        have HB40 := Lib.hid (chain HB31.out hb34)
        go_wp2_with (first
             | (refine wpList_store_vbk rfl 55 (.tmp 12) (.tmp 37) rfl w33.heap.size 55 (lsC z0) (lsC (told [])) (by first | rfl | (simp [Act.eval]; done)) (by first | rfl | (simp [Act.eval]; done)) (by first | exact vbk.new' (by simp) | (rw [hzc]; exact vbk.new' (by simp))) (by simp only [lsC_len]) (lsC_one _) (lsC_info _) ?_
                have HF41 := Lib.hid (show vbk ((w33.alloc (.cells (celV (lsC z0)) 55)).setRow w33.heap.size (celV (lsC (told [])))) (w.heap.size) 55 (lsC x) from (HF35.out.alloc _).otherRow (Nat.ne_of_lt HF35.out.lt) _)
                have HF42 := Lib.hid (show vbk ((w33.alloc (.cells (celV (lsC z0)) 55)).setRow w33.heap.size (celV (lsC (told [])))) (w9.heap.size) 55 (lsC (told [])) from (HF36.out.alloc _).otherRow (Nat.ne_of_lt HF36.out.lt) _)
                have HF43 := Lib.hid (show vbk ((w33.alloc (.cells (celV (lsC z0)) 55)).setRow w33.heap.size (celV (lsC (told [])))) w33.heap.size 55 (lsC (told [])) from (vbk.new' rfl).setRow _)
                have HB44 := Lib.hid (show Below w.heap.size w ((w33.alloc (.cells (celV (lsC z0)) 55)).setRow w33.heap.size (celV (lsC (told [])))) from below_setRow (chain1 HB40.out _) HB40.out.size _)
                have HR45 := Lib.hid (show Rows encZ 1 ((w33.alloc (.cells (celV (lsC z0)) 55)).setRow w33.heap.size (celV (lsC (told [])))) (.slice A n c) n l from HR37.out.below (below_setRow (chain1 (Below.refl _ _) _) (Nat.le_refl _) _))
                have HR46 := Lib.hid (show Rows encZ 1 ((w33.alloc (.cells (celV (lsC z0)) 55)).setRow w33.heap.size (celV (lsC (told [])))) (.slice Ao 0 co) 0 [] from HR38.out.below (below_setRow (chain1 (Below.refl _ _) _) (Nat.le_refl _) _))
                have HR47 := Lib.hid (show Rows encZ 1 ((w33.alloc (.cells (celV (lsC z0)) 55)).setRow w33.heap.size (celV (lsC (told [])))) (.slice Ap 0 cp) 0 [] from HR39.out.below (below_setRow (chain1 (Below.refl _ _) _) (Nat.le_refl _) _))))
        go_ret
        exact ⟨by first | rfl | (simp; done), HB44.out⟩
  · have hn1 : (100 : Int) < (n : Int) := by omega
    clear hcap hmx hl hs hn
    go_enter Try.func11, Try.ntmps11
    go_wp2_with fail
    refine (awake15 _).mono ?_
    rintro e w1 ⟨rfl, hb1⟩
    go_wp2_with fail
    go_ret
    exact ⟨rfl, chain2 (Below.refl _ _) hb1⟩
end Go.Proofs.Try
