/- ListTurns (stage 15). -/
import Derived.Test.YtgkiijpheigpjaaL15c
namespace Go.Proofs.Try
open Go.RowKit
set_option linter.unusedVariables false
set_option linter.unusedSimpArgs false
theorem own_setRowNe {w : World} {base : Nat} {e : TypeId} {size n c g : Nat} {xs : List Value} (h : w.ownsRow base e size (.slice (some ⟨g, 0, none⟩) n c) n xs) {b : Nat} (hg : g ≠ b) (cs : Array Value) : (w.setRow b cs).ownsRow base e size (.slice (some ⟨g, 0, none⟩) n c) n xs := by
  refine ⟨h.1, h.2.imp id ?_⟩
  rintro ⟨g', cap, cur, he, h1, h2, h3⟩
  simp only [Value.slice.injEq, Option.some.injEq, Addr.mk.injEq, and_true, true_and] at he
  obtain ⟨rfl, rfl⟩ := he
  exact ⟨g, c, cur, rfl, h1, (setRow_other w b g cs hg).trans h2, h3⟩
theorem wrap_nat (j n : Nat) (h : j < n) (hn : n ≤ 64) : wrap64 (j : Int) = (j : Int) := wrap_id _ (by omega) (by omega)
/-- The list, turned so many times. -/
def rotL (l : List Nat) (i : Nat) : List Nat := l.drop (l.length - i) ++ l.take (l.length - i)
theorem rot_zero (l : List Nat) : rotL l 0 = l := by unfold rotL; simp
theorem rot_all (l : List Nat) : rotL l l.length = l := by unfold rotL; simp
theorem rot_may {l : List Nat} (h : mayL l) (i : Nat) : mayL (rotL l i) := by
  have hp : (rotL l i).Perm l := by
    unfold rotL
    exact List.perm_append_comm.trans (by rw [List.take_append_drop])
  exact ⟨hp.nodup_iff.2 h.1, fun x hx => h.2 x (hp.mem_iff.1 hx)⟩
/-- What stands ahead of the last one. -/
def rotX (l : List Nat) (i : Nat) : List Nat := l.drop (l.length - i) ++ l.take (l.length - 1 - i)
theorem rot_last {l : List Nat} {i : Nat} (hi : i < l.length) : rotL l i = rotX l i ++ [atN l (l.length - 1 - i)] := by
  unfold rotL rotX
  have := takeN_one (l := l) (k := l.length - 1 - i) (by omega)
  rw [show l.length - 1 - i + 1 = l.length - i by omega] at this
  rw [this, List.append_assoc]
theorem rot_next {l : List Nat} {i : Nat} (hi : i < l.length) : rotL l (i + 1) = atN l (l.length - 1 - i) :: rotX l i := by
  unfold rotL rotX
  have h1 : l.length - (i + 1) = l.length - 1 - i := by omega
  rw [h1, List.drop_eq_getElem_cons (show l.length - 1 - i < l.length by omega), show l.length - 1 - i + 1 = l.length - i by omega]
  simp [atN, List.getD_eq_getElem?_getD, List.getElem?_eq_getElem (show l.length - 1 - i < l.length by omega)]
theorem last_g {x : Ls} {X : List Nat} {z : Nat} (h : ordL x = X ++ [z]) (W : World) : Calls Try.prog 41 #[.agg (celV (lsC x))] W fun e w' => e = .returned (.tuple #[.int .i64 (z : Int), .bool true]) ∧ Below W.heap.size W w' := by
  have hne : ordL x ≠ [] := by rw [h]; simp
  have := last_c x W
  rw [lastV_yes hne, lastB_yes hne, h, tl_snoc] at this
  exact this
theorem touch_g {x : Ls} {X : List Nat} {z : Nat} (ht : isTB x = true) (h : ordL x = X ++ [z]) (W : World) : Calls Try.prog 37 #[.agg (celV (lsC x)), .int .i64 (z : Int)] W fun e w' => e = .returned (.tuple #[.agg (celV (lsC (told (z :: X)))), .int .i64 0]) ∧ Below W.heap.size W w' := by
  have hm := ordL_may x
  rw [h, may_snoc] at hm
  have := touch_c x (z : Int) W
  rw [show touchR x (z : Int) = told (z :: X) by unfold touchR; rw [if_pos ⟨ht, by omega, by omega⟩, h, Int.toNat_natCast, wo_last hm.2.1], show touchE x (z : Int) = 0 by unfold touchE; rw [if_pos ht, if_pos ⟨by omega, by omega⟩]] at this
  exact this
theorem eqS_two {x y : Ls} (hx : isTB x = true) (hy : isTB y = true) (h : ordL y = ordL x) (W : World) : (binOp .eql 55 (.agg (celV (lsC y))) (.agg (celV (lsC x)))).run Try.prog W = .ok (.bool true) W := by
  have h1 := (isTB_iff.1 hx).2
  have h2 := (isTB_iff.1 hy).2
  rw [h] at h2
  have h3 : lsC y = lsC x := ((lsC_eq _ _).2 h2).trans ((lsC_eq _ _).2 h1).symm
  rw [h3]
  exact eqS_same x W
set_option maxRecDepth 100000 in
set_option maxHeartbeats 8000000 in
theorem walk_ListTurns (x : Ls) (w : World) : Calls Try.prog 14 #[.agg (celV (lsC x))] w fun e w' => e = .returned (.bool true) ∧ Below w.heap.size w w' := by
  have hzc := zero_cells
  cases ht : isTB x with
  | false =>
    have HTX := Lib.hid ht
    clear ht
    have HF1 := Lib.hid (show vbk (w.alloc (.cells (celV (lsC x)) 55)) (w.heap.size) 55 (lsC x) from vbk.new w _ _)
    have HB2 := Lib.hid (show Below w.heap.size w (w.alloc (.cells (celV (lsC x)) 55)) from (Below.refl _ _).alloc (Nat.le_refl _) _)
    go_enter Try.func14, Try.ntmps14
    go_wp2_with (first
         | (refine wpList_load_vbk rfl 55 (.tmp 1) rfl (w.heap.size) 55 (lsC x) (by first | rfl | (simp [Act.eval]; done)) HF1.out _ Try.underlying55 rfl (lsC_info _) ?_))
    refine (awake15 (w.alloc (.cells (celV (lsC x)) 55))).mono ?_
    rintro e w3 ⟨rfl, hb4⟩
    have HF5 := Lib.hid (HF1.out.below hb4)
    have HB6 := Lib.hid (chain HB2.out hb4)
    go_wp2_with (first
         | (refine wpList_load_vbk rfl 55 (.tmp 1) rfl (w.heap.size) 55 (lsC x) (by first | rfl | (simp [Act.eval]; done)) HF5.out _ Try.underlying55 rfl (lsC_info _) ?_))
    refine (order_nz HTX.out w3).mono ?_
    rintro e w7 ⟨Ap, cp, rfl, hrp, hb8⟩
    have HF9 := Lib.hid (HF5.out.below hb8)
    have HB10 := Lib.hid (chain HB6.out hb8)
    clear hrp
    go_wp2_with fail
    go_ret
    exact ⟨by first | rfl | (simp; done), HB10.out⟩
  | true =>
    have HTX := Lib.hid ht
    clear ht
    have HF1 := Lib.hid (show vbk (w.alloc (.cells (celV (lsC x)) 55)) (w.heap.size) 55 (lsC x) from vbk.new w _ _)
    have HB2 := Lib.hid (show Below w.heap.size w (w.alloc (.cells (celV (lsC x)) 55)) from (Below.refl _ _).alloc (Nat.le_refl _) _)
    go_enter Try.func14, Try.ntmps14
    go_wp2_with (first
         | (refine wpList_load_vbk rfl 55 (.tmp 1) rfl (w.heap.size) 55 (lsC x) (by first | rfl | (simp [Act.eval]; done)) HF1.out _ Try.underlying55 rfl (lsC_info _) ?_))
    refine (awake15 (w.alloc (.cells (celV (lsC x)) 55))).mono ?_
    rintro e w3 ⟨rfl, hb4⟩
    have HF5 := Lib.hid (HF1.out.below hb4)
    have HB6 := Lib.hid (chain HB2.out hb4)
    go_wp2_with (first
         | (refine wpList_load_vbk rfl 55 (.tmp 1) rfl (w.heap.size) 55 (lsC x) (by first | rfl | (simp [Act.eval]; done)) HF5.out _ Try.underlying55 rfl (lsC_info _) ?_))
    refine (order_o HTX.out (w.heap.size + 1) w3 (by have := HF5.out.lt; omega)).mono ?_
    rintro e w7 ⟨Ao, co, rfl, hro, hb8⟩
    have HF9 := Lib.hid (HF5.out.below hb8)
    have HB10 := Lib.hid (chain HB6.out hb8)
    have HO11 := Lib.hid hro
    have HMY := Lib.hid (ordL_may x)
    have HLE := Lib.hid (show (ordL x).length ≤ 64 from may_len (ordL_may x))
    clear hro
    obtain ⟨n, hn⟩ : ∃ n, (ordL x).length = n := ⟨_, rfl⟩
    have HN := Lib.hid hn
    rw [hn] at HO11 HLE ⊢
    clear hn
    have HGB0 := Lib.hid (show ∀ g, Ao = some ⟨g, 0, none⟩ → n ≠ 0 → g < w7.heap.size from fun g hg hn0 => by
      obtain ⟨g', he, _, hl⟩ := own_some HO11.out hn0
      rw [hg] at he
      simp only [Option.some.injEq, Addr.mk.injEq, and_true] at he
      omega)
    have hB60 := HF9.out.lt
    go_wp2_with (first
         | (refine wpList_load_vbk rfl 55 (.tmp 1) rfl (w.heap.size) 55 (lsC x) (by first | rfl | (simp [Act.eval]; done)) HF9.out _ Try.underlying55 rfl (lsC_info _) ?_)
         | (refine wpList_store_vbk rfl 55 (.tmp 6) (.tmp 21) rfl w7.heap.size 55 (lsC z0) (lsC x) (by first | rfl | (simp [Act.eval]; done)) (by first | rfl | (simp [Act.eval]; done)) (by first | exact vbk.new' (by simp) | (rw [hzc]; exact vbk.new' (by simp))) (by simp only [lsC_len]) (lsC_one _) (lsC_info _) ?_
            have HF12 := Lib.hid (show vbk ((w7.alloc (.cells (celV (lsC z0)) 55)).setRow w7.heap.size (celV (lsC x))) (w.heap.size) 55 (lsC x) from (HF9.out.alloc _).otherRow (Nat.ne_of_lt HF9.out.lt) _)
            have HF13 := Lib.hid (show vbk ((w7.alloc (.cells (celV (lsC z0)) 55)).setRow w7.heap.size (celV (lsC x))) w7.heap.size 55 (lsC x) from (vbk.new' rfl).setRow _)
            have HB14 := Lib.hid (show Below w.heap.size w ((w7.alloc (.cells (celV (lsC z0)) 55)).setRow w7.heap.size (celV (lsC x))) from below_setRow (chain1 HB10.out _) HB10.out.size _)
            have HO15 := Lib.hid (show ((w7.alloc (.cells (celV (lsC z0)) 55)).setRow w7.heap.size (celV (lsC x))).ownsRow (w.heap.size + 1) 3 1 (.slice Ao n co) n (flat encZ (zs (ordL x))) from own_below' HO11.out (below_setRow (chain1 (Below.refl _ _) _) (Nat.le_refl _) _))))
    obtain ⟨B6, hB6⟩ : ∃ b, b = w7.heap.size := ⟨_, rfl⟩
    rw [← hB6] at HF12 HF13 HO15 HB14 HGB0 hB60 ⊢
    clear hB6
    go_loopw [7] (fun i wr => ∃ (k : Nat) (Y : Ls), k ≤ n ∧ i = .int .i64 (k : Int) ∧ Hid (isTB Y = true) ∧ Hid (ordL Y = rotL (ordL x) k) ∧ Hid (vbk wr w.heap.size 55 (lsC x)) ∧ Hid (vbk wr B6 55 (lsC Y)) ∧ Hid (wr.ownsRow (w.heap.size + 1) 3 1 (.slice Ao n co) n (flat encZ (zs (ordL x)))) ∧ Hid (Below w.heap.size w wr)) (fun i _ => n - (intOf i).toNat)
    case atStart => exact ⟨0, x, by omega, rfl, HTX, Lib.hid (by rw [rot_zero]), HF12, HF13, HO15, HB14⟩
    case round =>
      obtain ⟨k, Y, hk, rfl, HT, HY, HV, HV6, HO, HB⟩ := hrel
      by_cases h0 : k < n
      · have hkn : (k : Int) < (n : Int) := by omega
        obtain ⟨gb, rfl, hgb, hgl⟩ := own_some HO.out (by omega)
        have hgb6 : gb < B6 := HGB0.out gb rfl (by omega)
        have hne6 : gb ≠ B6 := by omega
        have hkl : k < (ordL x).length := by rw [HN.out]; exact h0
        have HR1 := Lib.hid (rot_last hkl)
        have HR2 := Lib.hid (rot_next hkl)
        obtain ⟨z, hz⟩ : ∃ z, atN (ordL x) ((ordL x).length - 1 - k) = z := ⟨_, rfl⟩
        rw [hz, ← HY.out] at HR1
        rw [hz] at HR2
        rw [HN.out] at hz
        have HAZ := Lib.hid (show atZ (zs (ordL x)) (n - 1 - k) = (z : Int) by rw [atZ_zs (by rw [HN.out]; omega), hz])
        have HKK := Lib.hid (show n - 1 - k < n by omega)
        have hle := HLE.out
        obtain ⟨m, hm⟩ : ∃ m, m + 1 = n := ⟨n - 1, by omega⟩
        obtain ⟨j, hj⟩ : ∃ j, k + j = m := ⟨m - k, by omega⟩
        have hjn : j < n := by omega
        have hn1 : (n : Int) - 1 = (m : Int) := by omega
        have hn2 : (m : Int) - (k : Int) = (j : Int) := by omega
        have hn3 : (j : Int) < (n : Int) := by omega
        have hn4 : (m : Int) < (n : Int) := by omega
        have hj1 : n - 1 - k = j := by omega
        have hn5 := wrap_nat m n (Nat.lt_of_lt_of_le (Nat.lt_succ_self m) (Nat.le_of_eq hm)) hle
        have hn6 := wrap_nat j n hjn hle
        rw [hj1] at HAZ HKK
        clear hj1 hj hm
        have HMX := Lib.hid (show mayL (z :: rotX (ordL x) k) by rw [← HR2.out]; exact rot_may HMY.out _)
        clear hz hkl
        go_wp2_with (first
             | (refine wpList_load_vbk rfl 55 (.tmp 1) rfl (w.heap.size) 55 (lsC x) (by first | rfl | (simp [Act.eval]; done)) HV.out _ Try.underlying55 rfl (lsC_info _) ?_)
             | (refine wpList_load_vbk rfl 55 (.tmp 6) rfl (B6) 55 (lsC Y) (by first | rfl | (simp [Act.eval]; done)) HV6.out _ Try.underlying55 rfl (lsC_info _) ?_))
        refine (last_g HR1.out wr).mono ?_
        rintro e wq1 ⟨rfl, hbq2⟩
        have HFq3 := Lib.hid (HV.out.below hbq2)
        have HFq4 := Lib.hid (HV6.out.below hbq2)
        have HOq5 := Lib.hid (own_below' HO.out hbq2)
        have HBq6 := Lib.hid (chain HB.out hbq2)
        go_wp2_with (first
             | (refine wpList_load_vbk rfl 55 (.tmp 1) rfl (w.heap.size) 55 (lsC x) (by first | rfl | (simp [Act.eval]; done)) HFq3.out _ Try.underlying55 rfl (lsC_info _) ?_)
             | (refine wpList_load_vbk rfl 55 (.tmp 6) rfl (B6) 55 (lsC Y) (by first | rfl | (simp [Act.eval]; done)) HFq4.out _ Try.underlying55 rfl (lsC_info _) ?_))
        refine (touch_g HT.out HR1.out wq1).mono ?_
        rintro e wq7 ⟨rfl, hbq8⟩
        have HFq9 := Lib.hid (HFq3.out.below hbq8)
        have HFq10 := Lib.hid (HFq4.out.below hbq8)
        have HOq11 := Lib.hid (own_below' HOq5.out hbq8)
        have HBq12 := Lib.hid (chain HBq6.out hbq8)
        go_wp2_with (first
             | (refine wpList_store_vbk rfl 55 (.tmp 10) (.tmp 37) rfl wq7.heap.size 55 (lsC z0) (lsC (told (z :: rotX (ordL x) k))) (by first | rfl | (simp [Act.eval]; done)) (by first | rfl | (simp [Act.eval]; done)) (by first | exact vbk.new' (by simp) | (rw [hzc]; exact vbk.new' (by simp))) (by simp only [lsC_len]) (lsC_one _) (lsC_info _) ?_
                have HFq13 := Lib.hid (show vbk ((wq7.alloc (.cells (celV (lsC z0)) 55)).setRow wq7.heap.size (celV (lsC (told (z :: rotX (ordL x) k))))) (w.heap.size) 55 (lsC x) from (HFq9.out.alloc _).otherRow (Nat.ne_of_lt HFq9.out.lt) _)
                have HFq14 := Lib.hid (show vbk ((wq7.alloc (.cells (celV (lsC z0)) 55)).setRow wq7.heap.size (celV (lsC (told (z :: rotX (ordL x) k))))) (B6) 55 (lsC Y) from (HFq10.out.alloc _).otherRow (Nat.ne_of_lt HFq10.out.lt) _)
                have HFq15 := Lib.hid (show vbk ((wq7.alloc (.cells (celV (lsC z0)) 55)).setRow wq7.heap.size (celV (lsC (told (z :: rotX (ordL x) k))))) wq7.heap.size 55 (lsC (told (z :: rotX (ordL x) k))) from (vbk.new' rfl).setRow _)
                have HBq16 := Lib.hid (show Below w.heap.size w ((wq7.alloc (.cells (celV (lsC z0)) 55)).setRow wq7.heap.size (celV (lsC (told (z :: rotX (ordL x) k))))) from below_setRow (chain1 HBq12.out _) HBq12.out.size _)
                have HOq17 := Lib.hid (show ((wq7.alloc (.cells (celV (lsC z0)) 55)).setRow wq7.heap.size (celV (lsC (told (z :: rotX (ordL x) k))))).ownsRow (w.heap.size + 1) 3 1 (.slice (some ⟨gb, 0, none⟩) n co) n (flat encZ (zs (ordL x))) from own_below' HOq11.out (below_setRow (chain1 (Below.refl _ _) _) (Nat.le_refl _) _))
                have ce := own_at HOq17.out HKK.out
                rw [HAZ.out] at ce)
             | (refine wpList_load_vbk rfl 55 (.tmp 1) rfl (w.heap.size) 55 (lsC x) (by first | rfl | (simp [Act.eval]; done)) HFq13.out _ Try.underlying55 rfl (lsC_info _) ?_)
             | (refine wpList_load_vbk rfl 55 (.tmp 6) rfl (B6) 55 (lsC Y) (by first | rfl | (simp [Act.eval]; done)) HFq14.out _ Try.underlying55 rfl (lsC_info _) ?_)
             | (refine wpList_load_vbk rfl 55 (.tmp 10) rfl (wq7.heap.size) 55 (lsC (told (z :: rotX (ordL x) k))) (by first | rfl | (simp [Act.eval]; done)) HFq15.out _ Try.underlying55 rfl (lsC_info _) ?_)
             | (refine wpList_store_vbk rfl 55 (.tmp 6) (.tmp 57) rfl (B6) 55 (lsC Y) (lsC (told (z :: rotX (ordL x) k))) (by first | rfl | (simp [Act.eval]; done)) (by first | rfl | (simp [Act.eval]; done)) HFq14.out (by simp only [lsC_len]) (lsC_one _) (lsC_info _) ?_
                have HFq18 := Lib.hid (show vbk (((wq7.alloc (.cells (celV (lsC z0)) 55)).setRow wq7.heap.size (celV (lsC (told (z :: rotX (ordL x) k))))).setRow (B6) (celV (lsC (told (z :: rotX (ordL x) k))))) (w.heap.size) 55 (lsC x) from HFq13.out.otherRow (by omega) _)
                have HFq19 := Lib.hid (show vbk (((wq7.alloc (.cells (celV (lsC z0)) 55)).setRow wq7.heap.size (celV (lsC (told (z :: rotX (ordL x) k))))).setRow (B6) (celV (lsC (told (z :: rotX (ordL x) k))))) (B6) 55 (lsC (told (z :: rotX (ordL x) k))) from HFq14.out.setRow _)
                have HFq20 := Lib.hid (show vbk (((wq7.alloc (.cells (celV (lsC z0)) 55)).setRow wq7.heap.size (celV (lsC (told (z :: rotX (ordL x) k))))).setRow (B6) (celV (lsC (told (z :: rotX (ordL x) k))))) (wq7.heap.size) 55 (lsC (told (z :: rotX (ordL x) k))) from HFq15.out.otherRow (Nat.ne_of_gt HFq10.out.lt) _)
                have HBq21 := Lib.hid (show Below w.heap.size w (((wq7.alloc (.cells (celV (lsC z0)) 55)).setRow wq7.heap.size (celV (lsC (told (z :: rotX (ordL x) k))))).setRow (B6) (celV (lsC (told (z :: rotX (ordL x) k))))) from below_setRow HBq16.out (by omega) _)
                have HOq22 := Lib.hid (show (((wq7.alloc (.cells (celV (lsC z0)) 55)).setRow wq7.heap.size (celV (lsC (told (z :: rotX (ordL x) k))))).setRow (B6) (celV (lsC (told (z :: rotX (ordL x) k))))).ownsRow (w.heap.size + 1) 3 1 (.slice (some ⟨gb, 0, none⟩) n co) n (flat encZ (zs (ordL x))) from own_setRowNe HOq17.out (hne6) _)))
        go_roundw
        case rel => exact ⟨k + 1, told (z :: rotX (ordL x) k), by omega, by go_num, Lib.hid (isTB_told HMX.out), Lib.hid (by rw [ordL_told HMX.out, HR2.out]), HFq18, HFq19, HOq22, HBq21⟩
        case measure => first | (simp [intOf]; done) | (simp [intOf]; omega)
      · obtain rfl : k = n := by omega
        have HYX := Lib.hid (show ordL Y = ordL x by rw [HY.out, ← HN.out, rot_all])
        have hE := fun W => eqS_two HTX.out HT.out HYX.out W
        go_wp2_with (first
             | (refine wpList_load_vbk rfl 55 (.tmp 1) rfl (w.heap.size) 55 (lsC x) (by first | rfl | (simp [Act.eval]; done)) HV.out _ Try.underlying55 rfl (lsC_info _) ?_)
             | (refine wpList_load_vbkg (by first | rfl | (simp [Region.wanted, yielded]; done)) 55 (.tmp 1) rfl (w.heap.size) 55 (lsC x) (by first | rfl | (simp [Act.eval]; done)) HV.out _ Try.underlying55 rfl (lsC_info _) ?_)
             | (refine wpList_load_vbk rfl 55 (.tmp 6) rfl (B6) 55 (lsC Y) (by first | rfl | (simp [Act.eval]; done)) HV6.out _ Try.underlying55 rfl (lsC_info _) ?_)
             | (refine wpList_load_vbkg (by first | rfl | (simp [Region.wanted, yielded]; done)) 55 (.tmp 6) rfl (B6) 55 (lsC Y) (by first | rfl | (simp [Act.eval]; done)) HV6.out _ Try.underlying55 rfl (lsC_info _) ?_))
        go_ret
        exact ⟨by first | rfl | (simp; done), HB.out⟩
end Go.Proofs.Try
