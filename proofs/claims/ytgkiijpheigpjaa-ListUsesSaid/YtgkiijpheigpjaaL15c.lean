/- ListDrains (stage 15). -/
import Derived.Test.YtgkiijpheigpjaaL15b
import Derived.Test.YtgkiijpheigpjaaVtb
namespace Go.Proofs.Try
open Go.RowKit
set_option linter.unusedVariables false
set_option linter.unusedSimpArgs false
theorem wrap_id (x : Int) (h0 : -1 ≤ x) (h1 : x ≤ 100) : wrap64 x = x := by unfold wrap64; omega
theorem own_setRowLt {w : World} {base : Nat} {e : TypeId} {size n : Nat} {v : Value} {xs : List Value} (h : w.ownsRow base e size v n xs) {g : Nat} (hg : g < base) (cs : Array Value) : (w.setRow g cs).ownsRow base e size v n xs := by
  refine ⟨h.1, h.2.imp id ?_⟩
  rintro ⟨g', cap, cur, rfl, h1, h2, h3⟩
  exact ⟨g', cap, cur, rfl, h1, (setRow_other w g g' cs (by omega)).trans h2, h3⟩
theorem own_some {w : World} {base : Nat} {e : TypeId} {n c : Nat} {A : Option Addr} {xs : List Value} (h : w.ownsRow base e 1 (.slice A n c) n xs) (hn : n ≠ 0) : ∃ g, A = some ⟨g, 0, none⟩ ∧ base ≤ g ∧ g < w.heap.size := by
  rcases cap_own h with ⟨_, h0⟩ | ⟨g, c', he, _, hb, hg⟩
  · exact absurd h0 hn
  · simp only [Value.slice.injEq] at he
    exact ⟨g, he.1, hb, hg⟩
theorem own_at {w : World} {base : Nat} {e : TypeId} {n c g : Nat} {l : List Int} (h : w.ownsRow base e 1 (.slice (some ⟨g, 0, none⟩) n c) n (flat encZ l)) {j : Nat} (hj : j < n) : w.cell? ⟨g, j, none⟩ = some (.int .i64 (atZ l j)) := by
  have hl := own_lenZ h
  obtain ⟨A, c', he, _, hs⟩ := Sees.of_own h
  simp only [Value.slice.injEq] at he
  obtain ⟨rfl, _⟩ := he
  have := hs.elZ (j := j) (by omega)
  rwa [Nat.zero_add] at this
theorem order_o {x : Ls} (h : isTB x = true) (base : Nat) (W : World) (hb : base ≤ W.heap.size) : Calls Try.prog 35 #[.agg (celV (lsC x))] W fun e w' => ∃ A c, e = .returned (.tuple #[.slice A (ordL x).length c, .bool true]) ∧ w'.ownsRow base 3 1 (.slice A (ordL x).length c) (ordL x).length (flat encZ (zs (ordL x))) ∧ Below W.heap.size W w' := by
  refine (order_b x base W hb).mono ?_
  rintro e w' ⟨v', rfl, h2, h3⟩
  obtain ⟨A, c, rfl, _⟩ := Sees.of_own h2
  exact ⟨A, c, by rw [h], h2, h3⟩
theorem last_n {x : Ls} (h : ordL x = []) (W : World) : Calls Try.prog 41 #[.agg (celV (lsC x))] W fun e w' => e = .returned (.tuple #[.int .i64 0, .bool false]) ∧ Below W.heap.size W w' := by
  have := last_c x W
  rwa [lastV_no h, lastB_no h] at this
theorem last_k {x : Ls} {l : List Nat} {k z : Nat} (h : ordL x = l.take k) (h0 : 0 < k) (hk : k ≤ l.length) (hz : atN l (k - 1) = z) (W : World) : Calls Try.prog 41 #[.agg (celV (lsC x))] W fun e w' => e = .returned (.tuple #[.int .i64 (z : Int), .bool true]) ∧ Below W.heap.size W w' := by
  have hne : ordL x ≠ [] := by
    rw [h]
    intro e
    have := congrArg List.length e
    rw [List.length_take] at this
    simp only [List.length_nil] at this
    omega
  have := last_c x W
  have ht := takeN_one (l := l) (k := k - 1) (by omega)
  rw [show k - 1 + 1 = k by omega] at ht
  rw [lastV_yes hne, lastB_yes hne, h, ht, tl_snoc, hz] at this
  exact this
theorem wo_last {l : List Nat} {z : Nat} (h : z ∉ l) : woN (l ++ [z]) z = l := by
  unfold woN
  rw [List.filter_append]
  have h1 : l.filter (fun y => !(y == z)) = l := List.filter_eq_self.2 (fun y hy => by
    have : y ≠ z := fun e => h (e ▸ hy)
    simp [this])
  rw [h1]
  simp
theorem drop_k {x : Ls} {l : List Nat} {k z : Nat} (hm : mayL l) (ht : isTB x = true) (h : ordL x = l.take k) (h0 : 0 < k) (hk : k ≤ l.length) (hz : atN l (k - 1) = z) (W : World) : Calls Try.prog 39 #[.agg (celV (lsC x)), .int .i64 (z : Int)] W fun e w' => e = .returned (.tuple #[.agg (celV (lsC (told (l.take (k - 1))))), .int .i64 0]) ∧ Below W.heap.size W w' := by
  have := drop_c x (z : Int) W
  have ht1 := takeN_one (l := l) (k := k - 1) (by omega)
  rw [show k - 1 + 1 = k by omega, hz] at ht1
  have hn := (at_may hm (k := k - 1) (by omega)).2.1
  rw [hz] at hn
  have hc : isTB x = true ∧ (z : Int) ∈ zs (ordL x) := ⟨ht, by rw [h, ht1]; exact List.mem_map.2 ⟨z, by simp, rfl⟩⟩
  rw [show dropR x (z : Int) = told (l.take (k - 1)) by unfold dropR; rw [if_pos hc, h, ht1, Int.toNat_natCast, wo_last hn], show dropE x (z : Int) = 0 from if_pos hc] at this
  exact this
theorem eqS_nil {x : Ls} (h : isTB x = true) (ho : ordL x = []) (W : World) : (binOp .eql 55 (.agg (celV (lsC x))) (.agg (celV (lsC (told []))))).run Try.prog W = .ok (.bool true) W := by
  have h2 := (isTB_iff.1 h).2
  rw [ho] at h2
  rw [eqS_eql, sameB_iff.2 h2]
set_option maxRecDepth 100000 in
set_option maxHeartbeats 8000000 in
theorem walk_ListDrains (x : Ls) (w : World) : Calls Try.prog 12 #[.agg (celV (lsC x))] w fun e w' => e = .returned (.bool true) ∧ Below w.heap.size w w' := by
  have hzc := zero_cells
  cases ht : isTB x with
  | false =>
    have HTX := Lib.hid ht
    have HON := Lib.hid (ordL_no ht)
    clear ht
    have HF1 := Lib.hid (show vbk (w.alloc (.cells (celV (lsC x)) 55)) (w.heap.size) 55 (lsC x) from vbk.new w _ _)
    have HB2 := Lib.hid (show Below w.heap.size w (w.alloc (.cells (celV (lsC x)) 55)) from (Below.refl _ _).alloc (Nat.le_refl _) _)
    go_enter Try.func12, Try.ntmps12
    go_wp2_with (first
         | (refine wpList_load_vbk rfl 55 (.tmp 1) rfl (w.heap.size) 55 (lsC x) (by first | rfl | (simp [Act.eval]; done)) HF1.out _ Try.underlying55 rfl (lsC_info _) ?_))
    refine (awake15 (w.alloc (.cells (celV (lsC x)) 55))).mono ?_
    rintro e w3 ⟨rfl, hb4⟩
    have HF5 := Lib.hid (HF1.out.below hb4)
    have HB6 := Lib.hid (chain HB2.out hb4)
    go_wp2_with (first
         | (refine wpList_load_vbk rfl 55 (.tmp 1) rfl (w.heap.size) 55 (lsC x) (by first | rfl | (simp [Act.eval]; done)) HF5.out _ Try.underlying55 rfl (lsC_info _) ?_))
    refine (order_nz HTX.out w3).mono ?_
    rintro e w7 ⟨Ap, cp, rfl, hrp, hb8⟩
    have HF9 := Lib.hid (HF5.out.below hb8)
    have HB10 := Lib.hid (chain HB6.out hb8)
    clear hrp
    go_wp2_with (first
         | (refine wpList_load_vbk rfl 55 (.tmp 1) rfl (w.heap.size) 55 (lsC x) (by first | rfl | (simp [Act.eval]; done)) HF9.out _ Try.underlying55 rfl (lsC_info _) ?_))
    refine (last_n HON.out w7).mono ?_
    rintro e w11 ⟨rfl, hb12⟩
    have HF13 := Lib.hid (HF9.out.below hb12)
    have HB14 := Lib.hid (chain HB10.out hb12)
    go_wp2_with fail
    go_ret
    exact ⟨by first | rfl | (simp; done), HB14.out⟩
  | true =>
    have HTX := Lib.hid ht
    clear ht
    have HF1 := Lib.hid (show vbk (w.alloc (.cells (celV (lsC x)) 55)) (w.heap.size) 55 (lsC x) from vbk.new w _ _)
    have HB2 := Lib.hid (show Below w.heap.size w (w.alloc (.cells (celV (lsC x)) 55)) from (Below.refl _ _).alloc (Nat.le_refl _) _)
    go_enter Try.func12, Try.ntmps12
    go_wp2_with (first
         | (refine wpList_load_vbk rfl 55 (.tmp 1) rfl (w.heap.size) 55 (lsC x) (by first | rfl | (simp [Act.eval]; done)) HF1.out _ Try.underlying55 rfl (lsC_info _) ?_))
    refine (awake15 (w.alloc (.cells (celV (lsC x)) 55))).mono ?_
    rintro e w3 ⟨rfl, hb4⟩
    have HF5 := Lib.hid (HF1.out.below hb4)
    have HB6 := Lib.hid (chain HB2.out hb4)
    go_wp2_with (first
         | (refine wpList_load_vbk rfl 55 (.tmp 1) rfl (w.heap.size) 55 (lsC x) (by first | rfl | (simp [Act.eval]; done)) HF5.out _ Try.underlying55 rfl (lsC_info _) ?_))
    refine (order_o HTX.out (w.heap.size + 1) w3 (by have := HF5.out.lt; omega)).mono ?_
    rintro e w7 ⟨Ao, co, rfl, hro, hb8⟩
    have HF9 := Lib.hid (HF5.out.below hb8)
    have HB10 := Lib.hid (chain HB6.out hb8)
    have HO11 := Lib.hid hro
    have HMY := Lib.hid (ordL_may x)
    have HLE := Lib.hid (show (ordL x).length ≤ 64 from may_len (ordL_may x))
    clear hro
    obtain ⟨n, hn⟩ : ∃ n, (ordL x).length = n := ⟨_, rfl⟩
    have HN := Lib.hid hn
    rw [hn] at HO11 HLE ⊢
    clear hn
    go_wp2_with fail
    go_loopw [8] (fun i wr => ∃ (k : Nat) (X : Ls), k ≤ n ∧ i = .int .i64 ((k : Int) - 1) ∧ Hid (isTB X = true) ∧ Hid (ordL X = (ordL x).take k) ∧ Hid (vbk wr w.heap.size 55 (lsC X)) ∧ Hid (wr.ownsRow (w.heap.size + 1) 3 1 (.slice Ao n co) n (flat encZ (zs (ordL x)))) ∧ Hid (Below w.heap.size w wr)) (fun i _ => (intOf i + 1).toNat)
    case atStart =>
      have hle := HLE.out
      exact ⟨n, x, by omega, by rw [wrap_id ((n : Int) - 1) (by omega) (by omega)], HTX, Lib.hid (by rw [← HN.out, List.take_length]), HF9, HO11, HB10⟩
    case round =>
      obtain ⟨k, X, hk, rfl, HT, HX, HV, HO, HB⟩ := hrel
      have hvl := HV.out.lt
      by_cases h0 : 0 < k
      · have hk1 : (k : Int) - 1 = ((k - 1 : Nat) : Int) := by omega
        have hkn : ((k - 1 : Nat) : Int) < (n : Int) := by omega
        have hk0 : (0 : Int) ≤ ((k - 1 : Nat) : Int) := by omega
        have hle := HLE.out
        have hww := wrap_id (((k - 1 : Nat) : Int) - 1) (by omega) (by omega)
        clear hle
        obtain ⟨gb, rfl, hgb, hgl⟩ := own_some HO.out (by omega)
        obtain ⟨z, hz⟩ : ∃ z, atN (ordL x) (k - 1) = z := ⟨_, rfl⟩
        have HZ := Lib.hid hz
        have HL := Lib.hid (show (k : Nat) ≤ (ordL x).length by rw [HN.out]; exact hk)
        have HAZ := Lib.hid (show atZ (zs (ordL x)) (k - 1) = (z : Int) by rw [atZ_zs (by rw [HN.out]; omega), hz])
        have HH0 := Lib.hid h0
        have HKK := Lib.hid (show k - 1 < n by omega)
        clear hz h0
        go_wp2_with (first
             | (refine wpList_load_vbk rfl 55 (.tmp 1) rfl (w.heap.size) 55 (lsC X) (by first | rfl | (simp [Act.eval]; done)) HV.out _ Try.underlying55 rfl (lsC_info _) ?_))
        refine (last_k HX.out HH0.out HL.out HZ.out wr).mono ?_
        rintro e wq1 ⟨rfl, hbq2⟩
        have HFq3 := Lib.hid (HV.out.below hbq2)
        have HOq4 := Lib.hid (own_below' HO.out hbq2)
        have HBq5 := Lib.hid (chain HB.out hbq2)
        go_wp2_with (first
             | (refine wpList_load_vbk rfl 55 (.tmp 1) rfl (w.heap.size) 55 (lsC X) (by first | rfl | (simp [Act.eval]; done)) HFq3.out _ Try.underlying55 rfl (lsC_info _) ?_))
        refine (drop_k HMY.out HT.out HX.out HH0.out HL.out HZ.out wq1).mono ?_
        rintro e wq6 ⟨rfl, hbq7⟩
        have HFq8 := Lib.hid (HFq3.out.below hbq7)
        have HOq9 := Lib.hid (own_below' HOq4.out hbq7)
        have HBq10 := Lib.hid (chain HBq5.out hbq7)
        have HBz := Lib.hid (Below.refl w.heap.size w)
        go_wp2_with (first
             | (refine wpList_store_vbk rfl 55 (.tmp 11) (.tmp 49) rfl wq6.heap.size 55 (lsC z0) (lsC (told ((ordL x).take (k - 1)))) (by first | rfl | (simp [Act.eval]; done)) (by first | rfl | (simp [Act.eval]; done)) (by first | exact vbk.new' (by simp) | (rw [hzc]; exact vbk.new' (by simp))) (by simp only [lsC_len]) (lsC_one _) (lsC_info _) ?_
                have HFq11 := Lib.hid (show vbk ((wq6.alloc (.cells (celV (lsC z0)) 55)).setRow wq6.heap.size (celV (lsC (told ((ordL x).take (k - 1)))))) (w.heap.size) 55 (lsC X) from (HFq8.out.alloc _).otherRow (Nat.ne_of_lt HFq8.out.lt) _)
                have HFq12 := Lib.hid (show vbk ((wq6.alloc (.cells (celV (lsC z0)) 55)).setRow wq6.heap.size (celV (lsC (told ((ordL x).take (k - 1)))))) wq6.heap.size 55 (lsC (told ((ordL x).take (k - 1)))) from (vbk.new' rfl).setRow _)
                have HBq13 := Lib.hid (show Below w.heap.size w ((wq6.alloc (.cells (celV (lsC z0)) 55)).setRow wq6.heap.size (celV (lsC (told ((ordL x).take (k - 1)))))) from below_setRow (chain1 HBq10.out _) HBq10.out.size _)
                have HOq14 := Lib.hid (show ((wq6.alloc (.cells (celV (lsC z0)) 55)).setRow wq6.heap.size (celV (lsC (told ((ordL x).take (k - 1)))))).ownsRow (w.heap.size + 1) 3 1 (.slice (some ⟨gb, 0, none⟩) n co) n (flat encZ (zs (ordL x))) from own_below' HOq9.out (below_setRow (chain1 (Below.refl _ _) _) (Nat.le_refl _) _))
                have ce := own_at HOq14.out HKK.out
                rw [HAZ.out] at ce)
             | (refine wpList_load_vbk rfl 55 (.tmp 1) rfl (w.heap.size) 55 (lsC X) (by first | rfl | (simp [Act.eval]; done)) HFq11.out _ Try.underlying55 rfl (lsC_info _) ?_)
             | (refine wpList_load_vbk rfl 55 (.tmp 11) rfl (wq6.heap.size) 55 (lsC (told ((ordL x).take (k - 1)))) (by first | rfl | (simp [Act.eval]; done)) HFq12.out _ Try.underlying55 rfl (lsC_info _) ?_)
             | (refine wpList_store_vbk rfl 55 (.tmp 1) (.tmp 65) rfl (w.heap.size) 55 (lsC X) (lsC (told ((ordL x).take (k - 1)))) (by first | rfl | (simp [Act.eval]; done)) (by first | rfl | (simp [Act.eval]; done)) HFq11.out (by simp only [lsC_len]) (lsC_one _) (lsC_info _) ?_
                have HFq15 := Lib.hid (show vbk (((wq6.alloc (.cells (celV (lsC z0)) 55)).setRow wq6.heap.size (celV (lsC (told ((ordL x).take (k - 1)))))).setRow (w.heap.size) (celV (lsC (told ((ordL x).take (k - 1)))))) (w.heap.size) 55 (lsC (told ((ordL x).take (k - 1)))) from HFq11.out.setRow _)
                have HFq16 := Lib.hid (show vbk (((wq6.alloc (.cells (celV (lsC z0)) 55)).setRow wq6.heap.size (celV (lsC (told ((ordL x).take (k - 1)))))).setRow (w.heap.size) (celV (lsC (told ((ordL x).take (k - 1)))))) (wq6.heap.size) 55 (lsC (told ((ordL x).take (k - 1)))) from HFq12.out.otherRow (Nat.ne_of_gt HFq8.out.lt) _)
                have HBq17 := Lib.hid (show Below w.heap.size w (((wq6.alloc (.cells (celV (lsC z0)) 55)).setRow wq6.heap.size (celV (lsC (told ((ordL x).take (k - 1)))))).setRow (w.heap.size) (celV (lsC (told ((ordL x).take (k - 1)))))) from below_setRow HBq13.out (HBz.out.size) _)
                have HOq18 := Lib.hid (show (((wq6.alloc (.cells (celV (lsC z0)) 55)).setRow wq6.heap.size (celV (lsC (told ((ordL x).take (k - 1)))))).setRow (w.heap.size) (celV (lsC (told ((ordL x).take (k - 1)))))).ownsRow (w.heap.size + 1) 3 1 (.slice (some ⟨gb, 0, none⟩) n co) n (flat encZ (zs (ordL x))) from own_setRowLt HOq14.out (by omega) _)))
        go_roundw
        case rel => exact ⟨k - 1, told ((ordL x).take (k - 1)), by omega, by go_num, Lib.hid (isTB_told (may_take HMY.out _)), Lib.hid (ordL_told (may_take HMY.out _)), HFq15, HOq18, HBq17⟩
        case measure => first | (simp [intOf]; done) | (simp [intOf]; omega)
      · obtain rfl : k = 0 := by omega
        have HXN := Lib.hid (show ordL X = [] by rw [HX.out, List.take_zero])
        have hE := fun W => eqS_nil HT.out HXN.out W
        have hk1 : ¬((0 : Int) ≤ ((0 : Nat) : Int) - 1) := by omega
        go_wp2_with (first
             | (refine wpList_load_vbk rfl 55 (.tmp 1) rfl (w.heap.size) 55 (lsC X) (by first | rfl | (simp [Act.eval]; done)) HV.out _ Try.underlying55 rfl (lsC_info _) ?_))
        refine (last_n HXN.out wr).mono ?_
        rintro e wr1 ⟨rfl, hbr2⟩
        have HFr3 := Lib.hid (HV.out.below hbr2)
        have HBr4 := Lib.hid (chain HB.out hbr2)
        go_wp2_with fail
        have HVV := HFr3
        refine region_later (by kernel_rfl) (by kernel_rfl) ?_
        intro hlat
        go_big_quiet_step (fail)
        go_big_quiet_step (fail)
        go_big_quiet_step (fail)
        go_big_quiet_step (fail)
        go_big_quiet_step (fail)
        go_big_quiet_step (fail)
        refine wpQuiet_load_vbkg 55 (.tmp 1) rfl w.heap.size 55 (lsC X) (by rfl) (by rfl) (later_vbk HVV.out) _ Try.underlying55 rfl (lsC_info _) ?_
        simp only [Act.put, List.setIfInBounds_toArray, List.set_cons_zero, List.set_cons_succ]
        go_big_quiet_step ((go_at_call 44; with_reducible exact later_call (new_c _)))
        repeat (go_big_quiet_step (fail))
        refine wpQuiet_nil ?_
        intro W3 hb3
        clear hlat
        go_wp2_with fail
        go_ret
        exact ⟨by first | rfl | (simp; done), chain HBr4.out hb3⟩
end Go.Proofs.Try
