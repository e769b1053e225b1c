/- ListTouch (stage 15). -/
import Derived.Test.YtgkiijpheigpjaaL15d
namespace Go.Proofs.Try
open Go.RowKit
set_option linter.unusedVariables false
set_option linter.unusedSimpArgs false
theorem woN_app (a b : List Nat) (z : Nat) : woN (a ++ b) z = woN a z ++ woN b z := by unfold woN; rw [List.filter_append]
theorem woN_none {l : List Nat} {z : Nat} (h : z ∉ l) : woN l z = l := by
  unfold woN
  exact List.filter_eq_self.2 (fun y hy => by
    have : y ≠ z := fun e => h (e ▸ hy)
    simp [this])
theorem woN_self (l : List Nat) (z : Nat) : woN (z :: woN l z) z = woN l z := by
  have h : z ∉ woN l z := fun hm => (woN_mem.1 hm).2 rfl
  rw [show z :: woN l z = [z] ++ woN l z from rfl, woN_app, woN_none h]
  unfold woN
  simp
theorem woN_eq {l : List Nat} {i z : Nat} (hi : i < l.length) (h : atN l i = z) : woN (l.take (i + 1)) z = woN (l.take i) z := by
  rw [takeN_one hi, woN_app, h]
  unfold woN
  simp
theorem woN_ne {l : List Nat} {i z : Nat} (hi : i < l.length) (h : atN l i ≠ z) : woN (l.take (i + 1)) z = woN (l.take i) z ++ [atN l i] := by
  rw [takeN_one hi, woN_app]
  congr 1
  unfold woN
  simp [h]
theorem woN_at {l : List Nat} {i z : Nat} (hi : i < l.length) (h : atN l i ≠ z) : (woN (l.take i) z).length < (woN l z).length ∧ atN (woN l z) (woN (l.take i) z).length = atN l i := by
  have e : woN l z = woN (l.take i) z ++ (atN l i :: woN (l.drop (i + 1)) z) := by
    have h1 := woN_app (l.take (i + 1)) (l.drop (i + 1)) z
    rw [List.take_append_drop, woN_ne hi h, List.append_assoc] at h1
    exact h1
  rw [e]
  refine ⟨by rw [List.length_append]; simp, ?_⟩
  unfold atN
  simp [List.getD_eq_getElem?_getD]
theorem touch_bad {x : Ls} {id : Int} (h : isTB x = true) (hr : ¬(0 ≤ id ∧ id < 64)) (W : World) : Calls Try.prog 37 #[.agg (celV (lsC x)), .int .i64 id] W fun e w' => e = .returned (.tuple #[.agg (celV (lsC x)), .int .i64 110]) ∧ Below W.heap.size W w' := by
  have := touch_c x id W
  rw [show touchR x id = x from if_neg (fun h => hr h.2), show touchE x id = 110 by unfold touchE; rw [if_pos h, if_neg hr]] at this
  exact this
theorem touch_not {x : Ls} {id : Int} (h : isTB x = false) (W : World) : Calls Try.prog 37 #[.agg (celV (lsC x)), .int .i64 id] W fun e w' => e = .returned (.tuple #[.agg (celV (lsC x)), .int .i64 120]) ∧ Below W.heap.size W w' := by
  have := touch_c x id W
  rw [show touchR x id = x from if_neg (fun h1 => by rw [h] at h1; exact absurd h1.1 (by simp)), show touchE x id = 120 by unfold touchE; rw [if_neg (by rw [h]; simp)]] at this
  exact this
theorem touch_ok {x : Ls} {l : List Nat} {z : Nat} (h : isTB x = true) (hl : ordL x = l) (hz : z < 64) (W : World) : Calls Try.prog 37 #[.agg (celV (lsC x)), .int .i64 (z : Int)] W fun e w' => e = .returned (.tuple #[.agg (celV (lsC (told (z :: woN l z)))), .int .i64 0]) ∧ Below W.heap.size W w' := by
  have := touch_c x (z : Int) W
  rw [show touchR x (z : Int) = told (z :: woN l z) by unfold touchR; rw [if_pos ⟨h, by omega, by omega⟩, hl, Int.toNat_natCast], show touchE x (z : Int) = 0 by unfold touchE; rw [if_pos h, if_pos ⟨by omega, by omega⟩]] at this
  exact this
theorem order_l {x : Ls} {l : List Nat} (h : isTB x = true) (hl : ordL x = l) (W : World) : Calls Try.prog 35 #[.agg (celV (lsC x))] W fun e w' => ∃ A c, e = .returned (.tuple #[.slice A l.length c, .bool true]) ∧ Rows encZ 1 w' (.slice A l.length c) l.length (zs l) ∧ Below W.heap.size W w' := by
  subst hl
  exact order_tz h W
theorem Rows.cells {w : World} {A : Option Addr} {n c : Nat} {l : List Nat} (h : Rows encZ 1 w (.slice A n c) n (zs l)) (hn : n ≠ 0) : ∃ b off, A = Option.some ⟨b, off, none⟩ ∧ b < w.heap.size ∧ (∀ j, j < n → w.cell? ⟨b, off + j, none⟩ = Option.some (.int .i64 (atN l j : Int))) ∧ n ≤ c := by
  obtain ⟨A', c', he, hc, _, hl, hs⟩ := h
  simp only [Value.slice.injEq] at he
  obtain ⟨rfl, _, rfl⟩ := he
  obtain ⟨b, off, rfl, hb⟩ := Rows.some hs hn
  rw [zs_len] at hl
  refine ⟨b, off, rfl, hb, fun j hj => ?_, hc.2⟩
  have := hs.elZ (j := j) (by rw [zs_len]; omega)
  rwa [atZ_zs (by omega)] at this
theorem rows_tail {w : World} {b off n c z : Nat} {M : List Nat} (h : Rows encZ 1 w (.slice (some ⟨b, off, none⟩) n c) n (zs (z :: M))) : Rows encZ 1 w (.slice (some ⟨b, off + 1, none⟩) M.length (c - 1)) M.length (zs M) := by
  have hn : n = M.length + 1 := by have := h.len; rw [zs_len] at this; simpa using this.symm
  have h6 : n ≤ 100000 := by obtain ⟨_, _, _, _, h6, _⟩ := h; exact h6
  obtain ⟨b', off', he, hb, hc, hcap⟩ := h.cells (by omega)
  injection he with he
  injection he with e1 e2
  subst e1 e2
  refine ⟨_, _, rfl, cap_some (by omega), by omega, zs_len M, by rw [flat_len encZ_len, zs_len], .inr ⟨b, off + 1, rfl, hb, fun j hj => ?_⟩⟩
  rw [flat_len encZ_len, zs_len, Nat.mul_one] at hj
  have h1 := hc (j + 1) (by omega)
  rw [show off + (j + 1) = off + 1 + j by omega] at h1
  have ha := atZ_zs hj
  unfold atZ at ha
  rw [List.getD_eq_getElem?_getD, List.getElem?_eq_getElem (by rw [zs_len]; exact hj)] at ha
  simp only [Option.getD_some] at ha
  rw [h1, flat_encZ, List.getElem?_map, List.getElem?_eq_getElem (by rw [zs_len]; exact hj), Option.map_some, ha]
  rfl
theorem rows_tail0 {w : World} {A : Option Addr} {M : List Nat} (ad : Addr) (hA : A = some ad) (h : M.length ≤ 0) : Rows encZ 1 w (.slice A M.length 0) M.length (zs M) := by
  subst hA
  have h0 : M = [] := List.eq_nil_of_length_eq_zero (by omega)
  subst h0
  exact ⟨_, 0, rfl, cap_some (Nat.le_refl _), by simp, rfl, Sees.empty _ _ _⟩
set_option maxRecDepth 100000 in
set_option maxHeartbeats 8000000 in
theorem walk_ListTouch (x : Ls) (id : Int) (w2 : (Lit.int .i64 id).wf = true) (w : World) : Calls Try.prog 13 #[.agg (celV (lsC x)), .int .i64 id] w fun e w' => e = .returned (.bool true) ∧ Below w.heap.size w w' := by
  have hzc := zero_cells
  clear w2
  have hEx := fun W => eqS_same x W
  cases ht : isTB x with
  | false =>
    have HTX := Lib.hid ht
    clear ht
    have HF1 := Lib.hid (show vbk (w.alloc (.cells (celV (lsC x)) 55)) (w.heap.size) 55 (lsC x) from vbk.new w _ _)
    have HB2 := Lib.hid (show Below w.heap.size w (w.alloc (.cells (celV (lsC x)) 55)) from (Below.refl _ _).alloc (Nat.le_refl _) _)
    go_enter Try.func13, Try.ntmps13
    go_wp2_with (first
         | (refine wpList_load_vbk rfl 55 (.tmp 2) rfl (w.heap.size) 55 (lsC x) (by first | rfl | (simp [Act.eval]; done)) HF1.out _ Try.underlying55 rfl (lsC_info _) ?_))
    refine (awake15 (w.alloc (.cells (celV (lsC x)) 55))).mono ?_
    rintro e w3 ⟨rfl, hb4⟩
    have HF5 := Lib.hid (HF1.out.below hb4)
    have HB6 := Lib.hid (chain HB2.out hb4)
    go_wp2_with (first
         | (refine wpList_load_vbk rfl 55 (.tmp 2) rfl (w.heap.size) 55 (lsC x) (by first | rfl | (simp [Act.eval]; done)) HF5.out _ Try.underlying55 rfl (lsC_info _) ?_))
    refine (order_nz HTX.out w3).mono ?_
    rintro e w7 ⟨Ap, cp, rfl, hrp, hb8⟩
    have HF9 := Lib.hid (HF5.out.below hb8)
    have HB10 := Lib.hid (chain HB6.out hb8)
    clear hrp
    go_wp2_with (first
         | (refine wpList_load_vbk rfl 55 (.tmp 2) rfl (w.heap.size) 55 (lsC x) (by first | rfl | (simp [Act.eval]; done)) HF9.out _ Try.underlying55 rfl (lsC_info _) ?_))
    refine (touch_not HTX.out w7).mono ?_
    rintro e w11 ⟨rfl, hb12⟩
    have HF13 := Lib.hid (HF9.out.below hb12)
    have HB14 := Lib.hid (chain HB10.out hb12)
    go_wp2_with (first
         | (refine wpList_store_vbk rfl 55 (.tmp 8) (.tmp 30) rfl w11.heap.size 55 (lsC z0) (lsC x) (by first | rfl | (simp [Act.eval]; done)) (by first | rfl | (simp [Act.eval]; done)) (by first | exact vbk.new' (by simp) | (rw [hzc]; exact vbk.new' (by simp))) (by simp only [lsC_len]) (lsC_one _) (lsC_info _) ?_
            have HF15 := Lib.hid (show vbk ((w11.alloc (.cells (celV (lsC z0)) 55)).setRow w11.heap.size (celV (lsC x))) (w.heap.size) 55 (lsC x) from (HF13.out.alloc _).otherRow (Nat.ne_of_lt HF13.out.lt) _)
            have HF16 := Lib.hid (show vbk ((w11.alloc (.cells (celV (lsC z0)) 55)).setRow w11.heap.size (celV (lsC x))) w11.heap.size 55 (lsC x) from (vbk.new' rfl).setRow _)
            have HB17 := Lib.hid (show Below w.heap.size w ((w11.alloc (.cells (celV (lsC z0)) 55)).setRow w11.heap.size (celV (lsC x))) from below_setRow (chain1 HB14.out _) HB14.out.size _))
         | (refine wpList_load_vbk rfl 55 (.tmp 2) rfl (w.heap.size) 55 (lsC x) (by first | rfl | (simp [Act.eval]; done)) HF15.out _ Try.underlying55 rfl (lsC_info _) ?_)
         | (refine wpList_load_vbk rfl 55 (.tmp 8) rfl (w11.heap.size) 55 (lsC x) (by first | rfl | (simp [Act.eval]; done)) HF16.out _ Try.underlying55 rfl (lsC_info _) ?_))
    refine (touch_not HTX.out ((w11.alloc (.cells (celV (lsC z0)) 55)).setRow w11.heap.size (celV (lsC x)))).mono ?_
    rintro e w18 ⟨rfl, hb19⟩
    have HF20 := Lib.hid (HF15.out.below hb19)
    have HF21 := Lib.hid (HF16.out.below hb19)
    have HB22 := Lib.hid (chain HB17.out hb19)
    go_wp2_with (first
         | (refine wpList_store_vbk rfl 55 (.tmp 10) (.tmp 36) rfl w18.heap.size 55 (lsC z0) (lsC x) (by first | rfl | (simp [Act.eval]; done)) (by first | rfl | (simp [Act.eval]; done)) (by first | exact vbk.new' (by simp) | (rw [hzc]; exact vbk.new' (by simp))) (by simp only [lsC_len]) (lsC_one _) (lsC_info _) ?_
            have HF23 := Lib.hid (show vbk ((w18.alloc (.cells (celV (lsC z0)) 55)).setRow w18.heap.size (celV (lsC x))) (w.heap.size) 55 (lsC x) from (HF20.out.alloc _).otherRow (Nat.ne_of_lt HF20.out.lt) _)
            have HF24 := Lib.hid (show vbk ((w18.alloc (.cells (celV (lsC z0)) 55)).setRow w18.heap.size (celV (lsC x))) (w11.heap.size) 55 (lsC x) from (HF21.out.alloc _).otherRow (Nat.ne_of_lt HF21.out.lt) _)
            have HF25 := Lib.hid (show vbk ((w18.alloc (.cells (celV (lsC z0)) 55)).setRow w18.heap.size (celV (lsC x))) w18.heap.size 55 (lsC x) from (vbk.new' rfl).setRow _)
            have HB26 := Lib.hid (show Below w.heap.size w ((w18.alloc (.cells (celV (lsC z0)) 55)).setRow w18.heap.size (celV (lsC x))) from below_setRow (chain1 HB22.out _) HB22.out.size _))
         | (refine wpList_load_vbk rfl 55 (.tmp 2) rfl (w.heap.size) 55 (lsC x) (by first | rfl | (simp [Act.eval]; done)) HF23.out _ Try.underlying55 rfl (lsC_info _) ?_)
         | (refine wpList_load_vbk rfl 55 (.tmp 8) rfl (w11.heap.size) 55 (lsC x) (by first | rfl | (simp [Act.eval]; done)) HF24.out _ Try.underlying55 rfl (lsC_info _) ?_)
         | (refine wpList_load_vbk rfl 55 (.tmp 10) rfl (w18.heap.size) 55 (lsC x) (by first | rfl | (simp [Act.eval]; done)) HF25.out _ Try.underlying55 rfl (lsC_info _) ?_))
    refine (order_nz HTX.out ((w18.alloc (.cells (celV (lsC z0)) 55)).setRow w18.heap.size (celV (lsC x)))).mono ?_
    rintro e w27 ⟨Aq, cq, rfl, hrq, hb28⟩
    have HF29 := Lib.hid (HF23.out.below hb28)
    have HF30 := Lib.hid (HF24.out.below hb28)
    have HF31 := Lib.hid (HF25.out.below hb28)
    have HB32 := Lib.hid (chain HB26.out hb28)
    clear hrq
    go_wp2_with (first
         | (refine wpList_load_vbk rfl 55 (.tmp 2) rfl (w.heap.size) 55 (lsC x) (by first | rfl | (simp [Act.eval]; done)) HF29.out _ Try.underlying55 rfl (lsC_info _) ?_)
         | (refine wpList_load_vbkg (by first | rfl | (simp [Region.wanted, yielded]; done)) 55 (.tmp 2) rfl (w.heap.size) 55 (lsC x) (by first | rfl | (simp [Act.eval]; done)) HF29.out _ Try.underlying55 rfl (lsC_info _) ?_)
         | (refine wpList_load_vbk rfl 55 (.tmp 8) rfl (w11.heap.size) 55 (lsC x) (by first | rfl | (simp [Act.eval]; done)) HF30.out _ Try.underlying55 rfl (lsC_info _) ?_)
         | (refine wpList_load_vbkg (by first | rfl | (simp [Region.wanted, yielded]; done)) 55 (.tmp 8) rfl (w11.heap.size) 55 (lsC x) (by first | rfl | (simp [Act.eval]; done)) HF30.out _ Try.underlying55 rfl (lsC_info _) ?_)
         | (refine wpList_load_vbk rfl 55 (.tmp 10) rfl (w18.heap.size) 55 (lsC x) (by first | rfl | (simp [Act.eval]; done)) HF31.out _ Try.underlying55 rfl (lsC_info _) ?_)
         | (refine wpList_load_vbkg (by first | rfl | (simp [Region.wanted, yielded]; done)) 55 (.tmp 10) rfl (w18.heap.size) 55 (lsC x) (by first | rfl | (simp [Act.eval]; done)) HF31.out _ Try.underlying55 rfl (lsC_info _) ?_))
    go_ret
    exact ⟨by first | rfl | (simp; done), HB32.out⟩
  | true =>
    have HTX := Lib.hid ht
    clear ht
    by_cases hr : 0 ≤ id ∧ id < 64
    · obtain ⟨z, rfl⟩ := Int.eq_ofNat_of_zero_le hr.1
      have HZ := Lib.hid (show z < 64 by omega)
      obtain ⟨l, hl⟩ : ∃ l, ordL x = l := ⟨_, rfl⟩
      have HL := Lib.hid hl
      have HML := Lib.hid (show mayL l by rw [← hl]; exact ordL_may x)
      have HMT := Lib.hid (touch_may HML.out HZ.out)
      have HMW := Lib.hid (woN_may HML.out z)
      have hEy := fun W => eqS_same (told (z :: woN l z)) W
      clear hl hr
      have HF1 := Lib.hid (show vbk (w.alloc (.cells (celV (lsC x)) 55)) (w.heap.size) 55 (lsC x) from vbk.new w _ _)
      have HB2 := Lib.hid (show Below w.heap.size w (w.alloc (.cells (celV (lsC x)) 55)) from (Below.refl _ _).alloc (Nat.le_refl _) _)
      go_enter Try.func13, Try.ntmps13
      go_wp2_with (first
           | (refine wpList_load_vbk rfl 55 (.tmp 2) rfl (w.heap.size) 55 (lsC x) (by first | rfl | (simp [Act.eval]; done)) HF1.out _ Try.underlying55 rfl (lsC_info _) ?_))
      refine (awake15 (w.alloc (.cells (celV (lsC x)) 55))).mono ?_
      rintro e w3 ⟨rfl, hb4⟩
      have HF5 := Lib.hid (HF1.out.below hb4)
      have HB6 := Lib.hid (chain HB2.out hb4)
      go_wp2_with (first
           | (refine wpList_load_vbk rfl 55 (.tmp 2) rfl (w.heap.size) 55 (lsC x) (by first | rfl | (simp [Act.eval]; done)) HF5.out _ Try.underlying55 rfl (lsC_info _) ?_))
      refine (order_l HTX.out HL.out w3).mono ?_
      rintro e w7 ⟨Aw, cw, rfl, hrw, hb8⟩
      have HF9 := Lib.hid (HF5.out.below hb8)
      have HB10 := Lib.hid (chain HB6.out hb8)
      have HR11 := Lib.hid hrw
      clear hrw
      go_wp2_with (first
           | (refine wpList_load_vbk rfl 55 (.tmp 2) rfl (w.heap.size) 55 (lsC x) (by first | rfl | (simp [Act.eval]; done)) HF9.out _ Try.underlying55 rfl (lsC_info _) ?_))
      refine (touch_ok HTX.out HL.out HZ.out w7).mono ?_
      rintro e w12 ⟨rfl, hb13⟩
      have HF14 := Lib.hid (HF9.out.below hb13)
      have HR15 := Lib.hid (HR11.out.below hb13)
      have HB16 := Lib.hid (chain HB10.out hb13)
      go_wp2_with (first
           | (refine wpList_store_vbk rfl 55 (.tmp 8) (.tmp 30) rfl w12.heap.size 55 (lsC z0) (lsC (told (z :: woN l z))) (by first | rfl | (simp [Act.eval]; done)) (by first | rfl | (simp [Act.eval]; done)) (by first | exact vbk.new' (by simp) | (rw [hzc]; exact vbk.new' (by simp))) (by simp only [lsC_len]) (lsC_one _) (lsC_info _) ?_
              have HF17 := Lib.hid (show vbk ((w12.alloc (.cells (celV (lsC z0)) 55)).setRow w12.heap.size (celV (lsC (told (z :: woN l z))))) (w.heap.size) 55 (lsC x) from (HF14.out.alloc _).otherRow (Nat.ne_of_lt HF14.out.lt) _)
              have HF18 := Lib.hid (show vbk ((w12.alloc (.cells (celV (lsC z0)) 55)).setRow w12.heap.size (celV (lsC (told (z :: woN l z))))) w12.heap.size 55 (lsC (told (z :: woN l z))) from (vbk.new' rfl).setRow _)
              have HB19 := Lib.hid (show Below w.heap.size w ((w12.alloc (.cells (celV (lsC z0)) 55)).setRow w12.heap.size (celV (lsC (told (z :: woN l z))))) from below_setRow (chain1 HB16.out _) HB16.out.size _)
              have HR20 := Lib.hid (show Rows encZ 1 ((w12.alloc (.cells (celV (lsC z0)) 55)).setRow w12.heap.size (celV (lsC (told (z :: woN l z))))) (.slice Aw l.length cw) l.length (zs l) from HR15.out.below (below_setRow (chain1 (Below.refl _ _) _) (Nat.le_refl _) _)))
           | (refine wpList_load_vbk rfl 55 (.tmp 2) rfl (w.heap.size) 55 (lsC x) (by first | rfl | (simp [Act.eval]; done)) HF17.out _ Try.underlying55 rfl (lsC_info _) ?_)
           | (refine wpList_load_vbk rfl 55 (.tmp 8) rfl (w12.heap.size) 55 (lsC (told (z :: woN l z))) (by first | rfl | (simp [Act.eval]; done)) HF18.out _ Try.underlying55 rfl (lsC_info _) ?_))
      refine (touch_t (z :: woN l z) (z :: woN l z) z (z : Int) HMT.out HZ.out rfl (by rw [woN_self]) ((w12.alloc (.cells (celV (lsC z0)) 55)).setRow w12.heap.size (celV (lsC (told (z :: woN l z)))))).mono ?_
      rintro e w21 ⟨rfl, hb22⟩
      have HF23 := Lib.hid (HF17.out.below hb22)
      have HF24 := Lib.hid (HF18.out.below hb22)
      have HR25 := Lib.hid (HR20.out.below hb22)
      have HB26 := Lib.hid (chain HB19.out hb22)
      go_wp2_with (first
           | (refine wpList_store_vbk rfl 55 (.tmp 10) (.tmp 36) rfl w21.heap.size 55 (lsC z0) (lsC (told (z :: woN l z))) (by first | rfl | (simp [Act.eval]; done)) (by first | rfl | (simp [Act.eval]; done)) (by first | exact vbk.new' (by simp) | (rw [hzc]; exact vbk.new' (by simp))) (by simp only [lsC_len]) (lsC_one _) (lsC_info _) ?_
              have HF27 := Lib.hid (show vbk ((w21.alloc (.cells (celV (lsC z0)) 55)).setRow w21.heap.size (celV (lsC (told (z :: woN l z))))) (w.heap.size) 55 (lsC x) from (HF23.out.alloc _).otherRow (Nat.ne_of_lt HF23.out.lt) _)
              have HF28 := Lib.hid (show vbk ((w21.alloc (.cells (celV (lsC z0)) 55)).setRow w21.heap.size (celV (lsC (told (z :: woN l z))))) (w12.heap.size) 55 (lsC (told (z :: woN l z))) from (HF24.out.alloc _).otherRow (Nat.ne_of_lt HF24.out.lt) _)
              have HF29 := Lib.hid (show vbk ((w21.alloc (.cells (celV (lsC z0)) 55)).setRow w21.heap.size (celV (lsC (told (z :: woN l z))))) w21.heap.size 55 (lsC (told (z :: woN l z))) from (vbk.new' rfl).setRow _)
              have HB30 := Lib.hid (show Below w.heap.size w ((w21.alloc (.cells (celV (lsC z0)) 55)).setRow w21.heap.size (celV (lsC (told (z :: woN l z))))) from below_setRow (chain1 HB26.out _) HB26.out.size _)
              have HR31 := Lib.hid (show Rows encZ 1 ((w21.alloc (.cells (celV (lsC z0)) 55)).setRow w21.heap.size (celV (lsC (told (z :: woN l z))))) (.slice Aw l.length cw) l.length (zs l) from HR25.out.below (below_setRow (chain1 (Below.refl _ _) _) (Nat.le_refl _) _)))
           | (refine wpList_load_vbk rfl 55 (.tmp 2) rfl (w.heap.size) 55 (lsC x) (by first | rfl | (simp [Act.eval]; done)) HF27.out _ Try.underlying55 rfl (lsC_info _) ?_)
           | (refine wpList_load_vbk rfl 55 (.tmp 8) rfl (w12.heap.size) 55 (lsC (told (z :: woN l z))) (by first | rfl | (simp [Act.eval]; done)) HF28.out _ Try.underlying55 rfl (lsC_info _) ?_)
           | (refine wpList_load_vbk rfl 55 (.tmp 10) rfl (w21.heap.size) 55 (lsC (told (z :: woN l z))) (by first | rfl | (simp [Act.eval]; done)) HF29.out _ Try.underlying55 rfl (lsC_info _) ?_))
      refine (order_t (z :: woN l z) HMT.out ((w21.alloc (.cells (celV (lsC z0)) 55)).setRow w21.heap.size (celV (lsC (told (z :: woN l z)))))).mono ?_
      rintro e w32 ⟨An, cn, rfl, hrn, hb33⟩
      have HF34 := Lib.hid (HF27.out.below hb33)
      have HF35 := Lib.hid (HF28.out.below hb33)
      have HF36 := Lib.hid (HF29.out.below hb33)
      have HR37 := Lib.hid (HR31.out.below hb33)
      have HB38 := Lib.hid (chain HB30.out hb33)
      have HR39 := Lib.hid hrn
      clear hrn
      have hln : (((z :: woN l z).length : Nat) : Int) = ((woN l z).length : Int) + 1 := by simp
      have hlz : ((((woN l z).length : Nat) : Int) + 1 == 0) = false := by rw [beq_eq_false_iff_ne]; omega
      go_wp2_with (first
           | (refine wpList_load_vbk rfl 55 (.tmp 2) rfl (w.heap.size) 55 (lsC x) (by first | rfl | (simp [Act.eval]; done)) HF34.out _ Try.underlying55 rfl (lsC_info _) ?_)
           | (refine wpList_load_vbk rfl 55 (.tmp 8) rfl (w12.heap.size) 55 (lsC (told (z :: woN l z))) (by first | rfl | (simp [Act.eval]; done)) HF35.out _ Try.underlying55 rfl (lsC_info _) ?_)
           | (refine wpList_load_vbk rfl 55 (.tmp 10) rfl (w21.heap.size) 55 (lsC (told (z :: woN l z))) (by first | rfl | (simp [Act.eval]; done)) HF36.out _ Try.underlying55 rfl (lsC_info _) ?_))
      refine (drop_t (z :: woN l z) (woN l z) z (z : Int) HMT.out rfl (List.mem_cons_self ..) (woN_self l z) w32).mono ?_
      rintro e w40 ⟨rfl, hb41⟩
      have HF42 := Lib.hid (HF34.out.below hb41)
      have HF43 := Lib.hid (HF35.out.below hb41)
      have HF44 := Lib.hid (HF36.out.below hb41)
      have HR45 := Lib.hid (HR37.out.below hb41)
      have HR46 := Lib.hid (HR39.out.below hb41)
      have HB47 := Lib.hid (chain HB38.out hb41)
      go_wp2_with (first
           | (refine wpList_store_vbk rfl 55 (.tmp 14) (.tmp 81) rfl w40.heap.size 55 (lsC z0) (lsC (told (woN l z))) (by first | rfl | (simp [Act.eval]; done)) (by first | rfl | (simp [Act.eval]; done)) (by first | exact vbk.new' (by simp) | (rw [hzc]; exact vbk.new' (by simp))) (by simp only [lsC_len]) (lsC_one _) (lsC_info _) ?_
              have HF48 := Lib.hid (show vbk ((w40.alloc (.cells (celV (lsC z0)) 55)).setRow w40.heap.size (celV (lsC (told (woN l z))))) (w.heap.size) 55 (lsC x) from (HF42.out.alloc _).otherRow (Nat.ne_of_lt HF42.out.lt) _)
              have HF49 := Lib.hid (show vbk ((w40.alloc (.cells (celV (lsC z0)) 55)).setRow w40.heap.size (celV (lsC (told (woN l z))))) (w12.heap.size) 55 (lsC (told (z :: woN l z))) from (HF43.out.alloc _).otherRow (Nat.ne_of_lt HF43.out.lt) _)
              have HF50 := Lib.hid (show vbk ((w40.alloc (.cells (celV (lsC z0)) 55)).setRow w40.heap.size (celV (lsC (told (woN l z))))) (w21.heap.size) 55 (lsC (told (z :: woN l z))) from (HF44.out.alloc _).otherRow (Nat.ne_of_lt HF44.out.lt) _)
              have HF51 := Lib.hid (show vbk ((w40.alloc (.cells (celV (lsC z0)) 55)).setRow w40.heap.size (celV (lsC (told (woN l z))))) w40.heap.size 55 (lsC (told (woN l z))) from (vbk.new' rfl).setRow _)
              have HB52 := Lib.hid (show Below w.heap.size w ((w40.alloc (.cells (celV (lsC z0)) 55)).setRow w40.heap.size (celV (lsC (told (woN l z))))) from below_setRow (chain1 HB47.out _) HB47.out.size _)
              have HR53 := Lib.hid (show Rows encZ 1 ((w40.alloc (.cells (celV (lsC z0)) 55)).setRow w40.heap.size (celV (lsC (told (woN l z))))) (.slice Aw l.length cw) l.length (zs l) from HR45.out.below (below_setRow (chain1 (Below.refl _ _) _) (Nat.le_refl _) _))
              have HR54 := Lib.hid (show Rows encZ 1 ((w40.alloc (.cells (celV (lsC z0)) 55)).setRow w40.heap.size (celV (lsC (told (woN l z))))) (.slice An (z :: woN l z).length cn) (z :: woN l z).length (zs (z :: woN l z)) from HR46.out.below (below_setRow (chain1 (Below.refl _ _) _) (Nat.le_refl _) _)))
           | (refine wpList_load_vbk rfl 55 (.tmp 2) rfl (w.heap.size) 55 (lsC x) (by first | rfl | (simp [Act.eval]; done)) HF48.out _ Try.underlying55 rfl (lsC_info _) ?_)
           | (refine wpList_load_vbk rfl 55 (.tmp 8) rfl (w12.heap.size) 55 (lsC (told (z :: woN l z))) (by first | rfl | (simp [Act.eval]; done)) HF49.out _ Try.underlying55 rfl (lsC_info _) ?_)
           | (refine wpList_load_vbk rfl 55 (.tmp 10) rfl (w21.heap.size) 55 (lsC (told (z :: woN l z))) (by first | rfl | (simp [Act.eval]; done)) HF50.out _ Try.underlying55 rfl (lsC_info _) ?_)
           | (refine wpList_load_vbk rfl 55 (.tmp 14) rfl (w40.heap.size) 55 (lsC (told (woN l z))) (by first | rfl | (simp [Act.eval]; done)) HF51.out _ Try.underlying55 rfl (lsC_info _) ?_))
      refine (order_t (woN l z) HMW.out ((w40.alloc (.cells (celV (lsC z0)) 55)).setRow w40.heap.size (celV (lsC (told (woN l z)))))).mono ?_
      rintro e w55 ⟨Al, cl, rfl, hrl, hb56⟩
      have HF57 := Lib.hid (HF48.out.below hb56)
      have HF58 := Lib.hid (HF49.out.below hb56)
      have HF59 := Lib.hid (HF50.out.below hb56)
      have HF60 := Lib.hid (HF51.out.below hb56)
      have HR61 := Lib.hid (HR53.out.below hb56)
      have HR62 := Lib.hid (HR54.out.below hb56)
      have HB63 := Lib.hid (chain HB52.out hb56)
      have HR64 := Lib.hid hrl
      clear hrl
      go_wp2_with fail
      go_loopw [18, 19] (fun k i wr => ∃ (i' m : Nat), i' ≤ l.length ∧ k = .int .i64 (((woN (l.take i') z).length : Nat) : Int) ∧ i = .int .i64 (i' : Int) ∧ wr = w55.drewN m) (fun _ i _ => l.length - (intOf i).toNat)
      case atStart => exact ⟨0, 0, by omega, by simp [woN], rfl, rfl⟩
      case round =>
        obtain ⟨i, m, hi, rfl, rfl, rfl⟩ := hrel
        by_cases hlt : i < l.length
        · obtain ⟨bw, offw, rfl, hbw, hcw, _⟩ := Rows.cells HR61.out (by omega)
          have ce := hcw i hlt
          have hle := may_len HML.out
          have hli : (i : Int) < ((l.length : Nat) : Int) := by omega
          have hqle : (woN (l.take i) z).length ≤ 64 := by have := woN_at (l := l) (i := i) (z := z) hlt; have h1 := (may_len (woN_may (may_take HML.out i) z)); exact h1
          obtain ⟨q, hq⟩ : ∃ q, (woN (l.take i) z).length = q := ⟨_, rfl⟩
          have HQ := Lib.hid hq
          obtain ⟨y, hy⟩ : ∃ y, atN l i = y := ⟨_, rfl⟩
          rw [hy] at ce
          rw [hq] at hqle ⊢
          clear hcw hbw hq
          by_cases he : y = z
          · have he' : ((y : Int) == (z : Int)) = true := by rw [he]; simp
            have HN := Lib.hid (show (woN (l.take (i + 1)) z).length = q by rw [woN_eq hlt (by rw [hy, he]), HQ.out])
            clear he hy
            go_wp2_with fail
            go_roundw
            case rel => exact ⟨i + 1, _, by omega, by rw [HN.out], by go_num, by first | rfl | (simp; rfl)⟩
            case measure => first | (simp [intOf]; done) | (simp [intOf]; omega)
          · have he' : ((y : Int) == (z : Int)) = false := by rw [beq_eq_false_iff_ne]; omega
            have hne : ((y : Int) != (y : Int)) = false := by simp
            obtain ⟨hqm, hqa⟩ := woN_at hlt (show atN l i ≠ z by rw [hy]; exact he)
            rw [HQ.out] at hqm hqa
            have HN := Lib.hid (show (woN (l.take (i + 1)) z).length = q + 1 by rw [woN_ne hlt (by rw [hy]; exact he), List.length_append, HQ.out]; rfl)
            obtain ⟨bl, offl, rfl, hbl, hcl, _⟩ := Rows.cells HR64.out (by omega)
            have cq := hcl q hqm
            rw [hqa, hy] at cq
            have hqi : ((q : Nat) : Int) < (((woN l z).length : Nat) : Int) := by omega
            have hqn : ¬((woN l z).length ≤ q) := by omega
            have hqd : decide ((woN l z).length ≤ q) = false := decide_eq_false hqn
            have hqd2 : decide ((((woN l z).length : Nat) : Int) ≤ (q : Int)) = false := by rw [decide_eq_false_iff_not]; omega
            have HQM := Lib.hid hqm
            clear he hy hcl hbl hqa hqm
            go_wp2_with fail
            go_quiet (fail)
            go_wp2_with fail
            go_roundw
            case rel => exact ⟨i + 1, _, by omega, by rw [HN.out]; go_num, by go_num, by first | rfl | (simp; rfl)⟩
            case measure => first | (simp [intOf]; done) | (simp [intOf]; omega)
        · obtain rfl : i = l.length := by omega
          have HTK := Lib.hid (show (woN (l.take l.length) z).length = (woN l z).length by rw [List.take_length])
          rw [HTK.out]
          obtain ⟨bn, offn, rfl, hbn, hcn, hcap⟩ := Rows.cells HR62.out (by simp)
          have c0 := hcn 0 (by simp)
          rw [show atN (z :: woN l z) 0 = z from rfl, Nat.add_zero] at c0
          clear hcn
          have HFq1 := Lib.hid (HF57.out.drewN m)
          have HFq2 := Lib.hid (HF58.out.drewN m)
          have HFq3 := Lib.hid (HF59.out.drewN m)
          have HFq4 := Lib.hid (HF60.out.drewN m)
          have HRq5 := Lib.hid (HR61.out.below (Below_drewN (Below.refl _ _) m))
          have HRq6 := Lib.hid (HR62.out.below (Below_drewN (Below.refl _ _) m))
          have HRq7 := Lib.hid (HR64.out.below (Below_drewN (Below.refl _ _) m))
          have HBq := Lib.hid (Below_drewN HB63.out m)
          by_cases hc1 : cn = 1
          · have hM := Lib.hid (show (woN l z).length ≤ 0 by simp at hcap; omega)
            subst hc1
            clear hcap
            go_wp2_with (first
                 | (refine wpList_load_vbk rfl 55 (.tmp 2) rfl (w.heap.size) 55 (lsC x) (by first | rfl | (simp [Act.eval]; done)) HFq1.out _ Try.underlying55 rfl (lsC_info _) ?_)
                 | (refine wpList_load_vbkg (by first | rfl | (simp [Region.wanted, yielded]; done)) 55 (.tmp 2) rfl (w.heap.size) 55 (lsC x) (by first | rfl | (simp [Act.eval]; done)) HFq1.out _ Try.underlying55 rfl (lsC_info _) ?_)
                 | (refine wpList_load_vbk rfl 55 (.tmp 8) rfl (w12.heap.size) 55 (lsC (told (z :: woN l z))) (by first | rfl | (simp [Act.eval]; done)) HFq2.out _ Try.underlying55 rfl (lsC_info _) ?_)
                 | (refine wpList_load_vbkg (by first | rfl | (simp [Region.wanted, yielded]; done)) 55 (.tmp 8) rfl (w12.heap.size) 55 (lsC (told (z :: woN l z))) (by first | rfl | (simp [Act.eval]; done)) HFq2.out _ Try.underlying55 rfl (lsC_info _) ?_)
                 | (refine wpList_load_vbk rfl 55 (.tmp 10) rfl (w21.heap.size) 55 (lsC (told (z :: woN l z))) (by first | rfl | (simp [Act.eval]; done)) HFq3.out _ Try.underlying55 rfl (lsC_info _) ?_)
                 | (refine wpList_load_vbkg (by first | rfl | (simp [Region.wanted, yielded]; done)) 55 (.tmp 10) rfl (w21.heap.size) 55 (lsC (told (z :: woN l z))) (by first | rfl | (simp [Act.eval]; done)) HFq3.out _ Try.underlying55 rfl (lsC_info _) ?_)
                 | (refine wpList_load_vbk rfl 55 (.tmp 14) rfl (w40.heap.size) 55 (lsC (told (woN l z))) (by first | rfl | (simp [Act.eval]; done)) HFq4.out _ Try.underlying55 rfl (lsC_info _) ?_)
                 | (refine wpList_load_vbkg (by first | rfl | (simp [Region.wanted, yielded]; done)) 55 (.tmp 14) rfl (w40.heap.size) 55 (lsC (told (woN l z))) (by first | rfl | (simp [Act.eval]; done)) HFq4.out _ Try.underlying55 rfl (lsC_info _) ?_))
            refine (same_rr _ _ _ _ (zs (woN l z)) (w55.drewN m) (rows_tail0 _ rfl hM.out) HRq7.out).mono ?_
            rintro e wr01 ⟨rfl, hbr02⟩
            have HFr03 := Lib.hid (HFq1.out.below hbr02)
            have HFr04 := Lib.hid (HFq2.out.below hbr02)
            have HFr05 := Lib.hid (HFq3.out.below hbr02)
            have HFr06 := Lib.hid (HFq4.out.below hbr02)
            have HRr07 := Lib.hid (HRq5.out.below hbr02)
            have HRr08 := Lib.hid (HRq6.out.below hbr02)
            have HRr09 := Lib.hid (HRq7.out.below hbr02)
            have HBr010 := Lib.hid (chain HBq.out hbr02)
            go_wp2_with fail
            go_ret
            exact ⟨by first | rfl | (simp; done), HBr010.out⟩
          · have hc2 : 1 < cn := by simp at hcap; omega
            clear hcap
            go_wp2_with (first
                 | (refine wpList_load_vbk rfl 55 (.tmp 2) rfl (w.heap.size) 55 (lsC x) (by first | rfl | (simp [Act.eval]; done)) HFq1.out _ Try.underlying55 rfl (lsC_info _) ?_)
                 | (refine wpList_load_vbkg (by first | rfl | (simp [Region.wanted, yielded]; done)) 55 (.tmp 2) rfl (w.heap.size) 55 (lsC x) (by first | rfl | (simp [Act.eval]; done)) HFq1.out _ Try.underlying55 rfl (lsC_info _) ?_)
                 | (refine wpList_load_vbk rfl 55 (.tmp 8) rfl (w12.heap.size) 55 (lsC (told (z :: woN l z))) (by first | rfl | (simp [Act.eval]; done)) HFq2.out _ Try.underlying55 rfl (lsC_info _) ?_)
                 | (refine wpList_load_vbkg (by first | rfl | (simp [Region.wanted, yielded]; done)) 55 (.tmp 8) rfl (w12.heap.size) 55 (lsC (told (z :: woN l z))) (by first | rfl | (simp [Act.eval]; done)) HFq2.out _ Try.underlying55 rfl (lsC_info _) ?_)
                 | (refine wpList_load_vbk rfl 55 (.tmp 10) rfl (w21.heap.size) 55 (lsC (told (z :: woN l z))) (by first | rfl | (simp [Act.eval]; done)) HFq3.out _ Try.underlying55 rfl (lsC_info _) ?_)
                 | (refine wpList_load_vbkg (by first | rfl | (simp [Region.wanted, yielded]; done)) 55 (.tmp 10) rfl (w21.heap.size) 55 (lsC (told (z :: woN l z))) (by first | rfl | (simp [Act.eval]; done)) HFq3.out _ Try.underlying55 rfl (lsC_info _) ?_)
                 | (refine wpList_load_vbk rfl 55 (.tmp 14) rfl (w40.heap.size) 55 (lsC (told (woN l z))) (by first | rfl | (simp [Act.eval]; done)) HFq4.out _ Try.underlying55 rfl (lsC_info _) ?_)
                 | (refine wpList_load_vbkg (by first | rfl | (simp [Region.wanted, yielded]; done)) 55 (.tmp 14) rfl (w40.heap.size) 55 (lsC (told (woN l z))) (by first | rfl | (simp [Act.eval]; done)) HFq4.out _ Try.underlying55 rfl (lsC_info _) ?_))
            refine (same_rr _ _ _ _ (zs (woN l z)) (w55.drewN m) (rows_tail HRq6.out) HRq7.out).mono ?_
            rintro e wr11 ⟨rfl, hbr12⟩
            have HFr13 := Lib.hid (HFq1.out.below hbr12)
            have HFr14 := Lib.hid (HFq2.out.below hbr12)
            have HFr15 := Lib.hid (HFq3.out.below hbr12)
            have HFr16 := Lib.hid (HFq4.out.below hbr12)
            have HRr17 := Lib.hid (HRq5.out.below hbr12)
            have HRr18 := Lib.hid (HRq6.out.below hbr12)
            have HRr19 := Lib.hid (HRq7.out.below hbr12)
            have HBr110 := Lib.hid (chain HBq.out hbr12)
            go_wp2_with fail
            go_ret
            exact ⟨by first | rfl | (simp; done), HBr110.out⟩
    · have hrr : id < 0 ∨ (¬(id < 0) ∧ 63 < id) := by omega
      have HRR := Lib.hid hr
      clear hr
      rcases hrr with h1 | ⟨h1, h2⟩
      all_goals
        have HF1 := Lib.hid (show vbk (w.alloc (.cells (celV (lsC x)) 55)) (w.heap.size) 55 (lsC x) from vbk.new w _ _)
        have HB2 := Lib.hid (show Below w.heap.size w (w.alloc (.cells (celV (lsC x)) 55)) from (Below.refl _ _).alloc (Nat.le_refl _) _)
        go_enter Try.func13, Try.ntmps13
        go_wp2_with (first
             | (refine wpList_load_vbk rfl 55 (.tmp 2) rfl (w.heap.size) 55 (lsC x) (by first | rfl | (simp [Act.eval]; done)) HF1.out _ Try.underlying55 rfl (lsC_info _) ?_))
        refine (awake15 (w.alloc (.cells (celV (lsC x)) 55))).mono ?_
        rintro e w3 ⟨rfl, hb4⟩
        have HF5 := Lib.hid (HF1.out.below hb4)
        have HB6 := Lib.hid (chain HB2.out hb4)
        go_wp2_with (first
             | (refine wpList_load_vbk rfl 55 (.tmp 2) rfl (w.heap.size) 55 (lsC x) (by first | rfl | (simp [Act.eval]; done)) HF5.out _ Try.underlying55 rfl (lsC_info _) ?_))
        refine (order_tz HTX.out w3).mono ?_
        rintro e w7 ⟨Ap, cp, rfl, hrp, hb8⟩
        have HF9 := Lib.hid (HF5.out.below hb8)
        have HB10 := Lib.hid (chain HB6.out hb8)
        clear hrp
        go_wp2_with (first
             | (refine wpList_load_vbk rfl 55 (.tmp 2) rfl (w.heap.size) 55 (lsC x) (by first | rfl | (simp [Act.eval]; done)) HF9.out _ Try.underlying55 rfl (lsC_info _) ?_))
        refine (touch_bad HTX.out HRR.out w7).mono ?_
        rintro e w11 ⟨rfl, hb12⟩
        have HF13 := Lib.hid (HF9.out.below hb12)
        have HB14 := Lib.hid (chain HB10.out hb12)
        go_wp2_with (first
             | (refine wpList_store_vbk rfl 55 (.tmp 8) (.tmp 30) rfl w11.heap.size 55 (lsC z0) (lsC x) (by first | rfl | (simp [Act.eval]; done)) (by first | rfl | (simp [Act.eval]; done)) (by first | exact vbk.new' (by simp) | (rw [hzc]; exact vbk.new' (by simp))) (by simp only [lsC_len]) (lsC_one _) (lsC_info _) ?_
                have HF15 := Lib.hid (show vbk ((w11.alloc (.cells (celV (lsC z0)) 55)).setRow w11.heap.size (celV (lsC x))) (w.heap.size) 55 (lsC x) from (HF13.out.alloc _).otherRow (Nat.ne_of_lt HF13.out.lt) _)
                have HF16 := Lib.hid (show vbk ((w11.alloc (.cells (celV (lsC z0)) 55)).setRow w11.heap.size (celV (lsC x))) w11.heap.size 55 (lsC x) from (vbk.new' rfl).setRow _)
                have HB17 := Lib.hid (show Below w.heap.size w ((w11.alloc (.cells (celV (lsC z0)) 55)).setRow w11.heap.size (celV (lsC x))) from below_setRow (chain1 HB14.out _) HB14.out.size _))
             | (refine wpList_load_vbk rfl 55 (.tmp 2) rfl (w.heap.size) 55 (lsC x) (by first | rfl | (simp [Act.eval]; done)) HF15.out _ Try.underlying55 rfl (lsC_info _) ?_)
             | (refine wpList_load_vbk rfl 55 (.tmp 8) rfl (w11.heap.size) 55 (lsC x) (by first | rfl | (simp [Act.eval]; done)) HF16.out _ Try.underlying55 rfl (lsC_info _) ?_))
        refine (touch_bad HTX.out HRR.out ((w11.alloc (.cells (celV (lsC z0)) 55)).setRow w11.heap.size (celV (lsC x)))).mono ?_
        rintro e w18 ⟨rfl, hb19⟩
        have HF20 := Lib.hid (HF15.out.below hb19)
        have HF21 := Lib.hid (HF16.out.below hb19)
        have HB22 := Lib.hid (chain HB17.out hb19)
        go_wp2_with (first
             | (refine wpList_store_vbk rfl 55 (.tmp 10) (.tmp 36) rfl w18.heap.size 55 (lsC z0) (lsC x) (by first | rfl | (simp [Act.eval]; done)) (by first | rfl | (simp [Act.eval]; done)) (by first | exact vbk.new' (by simp) | (rw [hzc]; exact vbk.new' (by simp))) (by simp only [lsC_len]) (lsC_one _) (lsC_info _) ?_
                have HF23 := Lib.hid (show vbk ((w18.alloc (.cells (celV (lsC z0)) 55)).setRow w18.heap.size (celV (lsC x))) (w.heap.size) 55 (lsC x) from (HF20.out.alloc _).otherRow (Nat.ne_of_lt HF20.out.lt) _)
                have HF24 := Lib.hid (show vbk ((w18.alloc (.cells (celV (lsC z0)) 55)).setRow w18.heap.size (celV (lsC x))) (w11.heap.size) 55 (lsC x) from (HF21.out.alloc _).otherRow (Nat.ne_of_lt HF21.out.lt) _)
                have HF25 := Lib.hid (show vbk ((w18.alloc (.cells (celV (lsC z0)) 55)).setRow w18.heap.size (celV (lsC x))) w18.heap.size 55 (lsC x) from (vbk.new' rfl).setRow _)
                have HB26 := Lib.hid (show Below w.heap.size w ((w18.alloc (.cells (celV (lsC z0)) 55)).setRow w18.heap.size (celV (lsC x))) from below_setRow (chain1 HB22.out _) HB22.out.size _))
             | (refine wpList_load_vbk rfl 55 (.tmp 2) rfl (w.heap.size) 55 (lsC x) (by first | rfl | (simp [Act.eval]; done)) HF23.out _ Try.underlying55 rfl (lsC_info _) ?_)
             | (refine wpList_load_vbk rfl 55 (.tmp 8) rfl (w11.heap.size) 55 (lsC x) (by first | rfl | (simp [Act.eval]; done)) HF24.out _ Try.underlying55 rfl (lsC_info _) ?_)
             | (refine wpList_load_vbk rfl 55 (.tmp 10) rfl (w18.heap.size) 55 (lsC x) (by first | rfl | (simp [Act.eval]; done)) HF25.out _ Try.underlying55 rfl (lsC_info _) ?_))
        refine (order_tz HTX.out ((w18.alloc (.cells (celV (lsC z0)) 55)).setRow w18.heap.size (celV (lsC x)))).mono ?_
        rintro e w27 ⟨Aq, cq, rfl, hrq, hb28⟩
        have HF29 := Lib.hid (HF23.out.below hb28)
        have HF30 := Lib.hid (HF24.out.below hb28)
        have HF31 := Lib.hid (HF25.out.below hb28)
        have HB32 := Lib.hid (chain HB26.out hb28)
        clear hrq
        go_wp2_with (first
             | (refine wpList_load_vbk rfl 55 (.tmp 2) rfl (w.heap.size) 55 (lsC x) (by first | rfl | (simp [Act.eval]; done)) HF29.out _ Try.underlying55 rfl (lsC_info _) ?_)
             | (refine wpList_load_vbkg (by first | rfl | (simp [Region.wanted, yielded]; done)) 55 (.tmp 2) rfl (w.heap.size) 55 (lsC x) (by first | rfl | (simp [Act.eval]; done)) HF29.out _ Try.underlying55 rfl (lsC_info _) ?_)
             | (refine wpList_load_vbk rfl 55 (.tmp 8) rfl (w11.heap.size) 55 (lsC x) (by first | rfl | (simp [Act.eval]; done)) HF30.out _ Try.underlying55 rfl (lsC_info _) ?_)
             | (refine wpList_load_vbkg (by first | rfl | (simp [Region.wanted, yielded]; done)) 55 (.tmp 8) rfl (w11.heap.size) 55 (lsC x) (by first | rfl | (simp [Act.eval]; done)) HF30.out _ Try.underlying55 rfl (lsC_info _) ?_)
             | (refine wpList_load_vbk rfl 55 (.tmp 10) rfl (w18.heap.size) 55 (lsC x) (by first | rfl | (simp [Act.eval]; done)) HF31.out _ Try.underlying55 rfl (lsC_info _) ?_)
             | (refine wpList_load_vbkg (by first | rfl | (simp [Region.wanted, yielded]; done)) 55 (.tmp 10) rfl (w18.heap.size) 55 (lsC x) (by first | rfl | (simp [Act.eval]; done)) HF31.out _ Try.underlying55 rfl (lsC_info _) ?_))
        go_ret
        exact ⟨by first | rfl | (simp; done), HB32.out⟩
end Go.Proofs.Try
