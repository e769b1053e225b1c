/- list.Order (stage 15). -/
import Derived.Test.YtgkiijpheigpjaaLo
namespace Go.Proofs.Try
open Go.RowKit
set_option linter.unusedVariables false
set_option linter.unusedSimpArgs false
theorem sees_blk (w : World) (cs : Array Value) (t : TypeId) (k n : Nat) (h : cs.size = n * k) : Sees (w.alloc (.cells cs t)) k (some ⟨w.heap.size, 0, none⟩) n cs.toList := by
  refine ⟨by simpa using h, .inr ⟨_, _, rfl, by simp, fun j hj => ?_⟩⟩
  rw [Nat.zero_add, cell_of_row _ _ j cs t (0, 0) (heap_alloc_new w _)]
  simp
theorem zs_len (l : List Nat) : (zs l).length = l.length := by unfold zs; simp
theorem zs_snoc (l : List Nat) (z : Nat) : zs (l ++ [z]) = zs l ++ [(z : Int)] := by unfold zs; simp
theorem flat_snocZ (l : List Int) (z : Int) : flat encZ (l ++ [z]) = flat encZ l ++ [.int .i64 z] := by rw [flat_encZ, flat_encZ]; simp
theorem fresh_yes {S : Nat → Bool} {id : Int} (h : freshB S id = true) : ∃ z : Nat, id = (z : Int) ∧ z < 64 ∧ S z = false := by
  unfold freshB at h
  simp only [Bool.and_eq_true, decide_eq_true_eq, Bool.not_eq_true'] at h
  exact ⟨id.toNat, by omega, by omega, h.2⟩
theorem marks_snoc (o : List Nat) (z : Nat) : mkC (fun j => if j = z then true else decide (j ∈ o)) = mkC (fun j => decide (j ∈ o ++ [z])) := mkC_congr (fun j _ => by
  by_cases h : j = z
  · subst h; simp
  · simp [h])
theorem rangeAt_part {W : World} {b : Nat} {T : TypeId} {l : List Value} (h : vbk W b T l) (o n : Nat) : W.rangeAt b o ((l.drop o).take n) := fun j v hv => by
  have hj : j < n := by
    have := (List.getElem?_eq_some_iff.1 hv).1
    rw [List.length_take] at this
    omega
  rw [List.getElem?_take_of_lt hj, List.getElem?_drop] at hv
  have hl : o + j < l.length := (List.getElem?_eq_some_iff.1 hv).1
  rw [h.cell hl, List.getD_eq_getElem?_getD, hv]
  rfl
theorem celV_arr (l : List Value) : l.toArray = celV l := by unfold celV; rfl
/-- A range is loaded. -/
theorem wpList_load_range {P : Program} {ops : Array Oper} {rest : List Oper} {op : Oper} {a : Act} {w : World} {Q : Exit → Act → World → Prop} (hgd : op.guard = none) (ty : TypeId) (x : Operand) (ho : op.op = .load ty x)
    (b o : Nat) (l : List Value) (hx : a.eval x = .pointer (some ⟨b, o, none⟩)) (hc : w.rangeAt b o l) (d : TypeDesc)
    (hu : P.underlying ty = some d) (hd : d.isRow = true) (hi : (P.info? ty).map (·.size) = some l.length)
    (h : wpList P ops Q rest (a.put op.dst (.agg (celV l))) w) : wpList P ops Q (op :: rest) a w := by
  rw [← celV_arr] at h
  exact wpList_load_mid hgd ty x ho b o hx l d hc hu hd hi h
theorem wpList_unguard {P : Program} {ops : Array Oper} {rest : List Oper} {o : Oper} {a : Act} {w : World} {Q : Exit → Act → World → Prop} (hw : Region.wanted o (yielded ops a.tmps) = true)
    (h : wpList P ops Q ({ o with guard := none } :: rest) a w) : wpList P ops Q (o :: rest) a w := by
  unfold wpList at h ⊢
  rw [if_pos hw]
  rw [if_pos (by simp [Region.wanted])] at h
  exact h
/-- The whole block is loaded, under a guard that says yes. -/
theorem wpList_load_vbkg {P : Program} {ops : Array Oper} {rest : List Oper} {op : Oper} {a : Act} {w : World} {Q : Exit → Act → World → Prop} (hw : Region.wanted op (yielded ops a.tmps) = true) (ty : TypeId) (x : Operand) (ho : op.op = .load ty x)
    (b : Nat) (T : TypeId) (l : List Value) (hx : a.eval x = .pointer (some ⟨b, 0, none⟩)) (hc : vbk w b T l) (d : TypeDesc)
    (hu : P.underlying ty = some d) (hd : d.isRow = true) (hi : (P.info? ty).map (·.size) = some l.length)
    (h : wpList P ops Q rest (a.put op.dst (.agg (celV l))) w) : wpList P ops Q (op :: rest) a w :=
  wpList_unguard hw (wpList_load_vbk (op := { op with guard := none }) rfl ty x ho b T l hx hc d hu hd hi h)
theorem own_mono0 {w : World} {base base' : Nat} {e : TypeId} {size n : Nat} {v : Value} {xs : List Value} (h : w.ownsRow base e size v n xs) (hb : base' ≤ base) : w.ownsRow base' e size v n xs := own_mono' h hb
theorem own_setCell {w : World} {base : Nat} {e : TypeId} {size n : Nat} {v : Value} {xs : List Value} (h : w.ownsRow base e size v n xs) {a : Addr} (ha : a.block < base) (u : Value) : (w.setCell a u).ownsRow base e size v n xs := by
  refine ⟨h.1, h.2.imp id ?_⟩
  rintro ⟨g, cap, cur, rfl, h1, h2, h3⟩
  exact ⟨g, cap, cur, rfl, h1, by rw [Below.heap_setCell _ _ _ _ (fun e => by omega)]; exact h2, h3⟩
theorem vbk.belowB {W W' : World} {b B : Nat} {T : TypeId} {l : List Value} (h : vbk W b T l) (hb : Below B W W') (hlt : b < B) : vbk W' b T l := (hb.block b hlt).trans h
theorem lit_marks : (#[.bool false, .bool false, .bool false, .bool false, .bool false, .bool false, .bool false, .bool false, .bool false, .bool false, .bool false, .bool false, .bool false, .bool false, .bool false, .bool false, .bool false, .bool false, .bool false, .bool false, .bool false, .bool false, .bool false, .bool false, .bool false, .bool false, .bool false, .bool false, .bool false, .bool false, .bool false, .bool false, .bool false, .bool false, .bool false, .bool false, .bool false, .bool false, .bool false, .bool false, .bool false, .bool false, .bool false, .bool false, .bool false, .bool false, .bool false, .bool false, .bool false, .bool false, .bool false, .bool false, .bool false, .bool false, .bool false, .bool false, .bool false, .bool false, .bool false, .bool false, .bool false, .bool false, .bool false, .bool false] : Array Value) = celV (mkC fun _ => false) := by rw [mkC_none]; rfl
theorem celV_hd (x : Ls) : (celV (lsC x))[192]? = some (.int .i64 x.hd) := by rw [celV_at _ _ (by rw [lsC_len]; omega), lsC_hd]
set_option maxRecDepth 100000 in
set_option maxHeartbeats 8000000 in
theorem order_c (x : Ls) (w : World) : Calls Try.prog 35 #[.agg (celV (lsC x))] w fun e w' => ∃ v', e = .returned (.tuple #[v', .bool (isTB x)]) ∧ w'.ownsRow w.heap.size 3 1 v' (ordL x).length (flat encZ (zs (ordL x))) ∧ Below w.heap.size w w' := by
  have hmf : ∀ (fn : Fn) (first cap : Array Value) (w : World), (Instr.makeFunc fn first cap).run Try.prog w = .ok (.func fn first cap) w := fun _ _ _ _ => rfl
  obtain ⟨i0, hi, hq0, hq1, hq2⟩ := info_parts int_info
  have hzc := zero_cells
  have hzm := lit_marks
  have hhd := celV_hd x
  go_enter Try.func35, Try.ntmps35
  go_wp2_with fail
  have HM0 := Lib.hid (show vbk ((w.alloc (.cells (celV (lsC x)) 55)).alloc (.cells (celV (mkC (fun _ => false))) 53)) (w.heap.size + 1) 53 (mkC (fun j => decide (j ∈ ([] : List Nat)))) from by rw [show (fun j => decide (j ∈ ([] : List Nat))) = (fun _ => false) by funext j; simp]; exact vbk.new' (by simp))
  have HX0 := Lib.hid (show vbk ((w.alloc (.cells (celV (lsC x)) 55)).alloc (.cells (celV (mkC (fun _ => false))) 53)) w.heap.size 55 (lsC x) from (vbk.new w _ _).alloc _)
  have HB0 := Lib.hid (show Below w.heap.size w ((w.alloc (.cells (celV (lsC x)) 55)).alloc (.cells (celV (mkC (fun _ => false))) 53)) from ((Below.refl _ _).alloc (Nat.le_refl _) _).alloc (by simp) _)
  clear hzm hhd hmf
  go_loopw [6, 7] (fun v i wr => ∃ (o : List Nat) (id : Int), i = .int .i64 id ∧ Hid (mayL o) ∧ Hid (Gone x o id) ∧ Hid (wr.ownsRow (w.heap.size + 2) 3 1 v o.length (flat encZ (zs o))) ∧ Hid (vbk wr (w.heap.size + 1) 53 (mkC (fun j => decide (j ∈ o)))) ∧ Hid (vbk wr w.heap.size 55 (lsC x)) ∧ Hid (Below w.heap.size w wr)) (fun v i _ => 64 - slN v)
  case atStart => exact ⟨[], x.hd, rfl, Lib.hid may_nil, Lib.hid (gone_start x), Lib.hid (World.ownsRow_nil _ _ _ _), HM0, HX0, HB0⟩
  case round =>
    clear HM0 HX0 HB0
    obtain ⟨o, id, rfl, HMY, HG, HO, HK, HX, HB⟩ := hrel
    have FC := Lib.hid (fresh_c id (w.heap.size + 1) (fun j => decide (j ∈ o)) wr HK.out)
    have hk1 := HK.out.lt
    have hx1 := HX.out.lt
    have ho64 := may_len HMY.out
    cases hfr : freshB (fun j => decide (j ∈ o)) id with
    | true =>
      rw [hfr] at FC
      obtain ⟨z, rfl, hz, hS⟩ := fresh_yes hfr
      have hzo : z ∉ o := by simpa using hS
      have HMN := Lib.hid (may_snoc.2 ⟨HMY.out, hzo, hz⟩)
      have HGN := Lib.hid (gone_step HG.out)
      have hsl := own_slN HO.out
      have hlen64 := may_len HMN.out
      have HLN := Lib.hid (show o.length + 1 ≤ 64 by simpa using hlen64)
      have cm := (HK.out.cell (k := z) (by rw [mkC_len]; exact hz)).trans (by rw [mkC_at _ hz])
      have fm := HK.out.frozen z
      have hz0 : (0 : Int) ≤ (z : Int) := by omega
      have hzl : (z : Int) < 64 := by omega
      have HK1 := Lib.hid (show vbk (wr.setCell ⟨w.heap.size + 1, z, none⟩ (.bool true)) (w.heap.size + 1) 53 (mkC (fun j => decide (j ∈ o ++ [z]))) by rw [← marks_snoc, ← mkC_set]; exact HK.out.set z (.bool true))
      have HX1 := Lib.hid (HX.out.other (a := ⟨w.heap.size + 1, z, none⟩) (by simp) (.bool true))
      have HO1 := Lib.hid (own_setCell HO.out (a := ⟨w.heap.size + 1, z, none⟩) (by simp) (.bool true))
      have HB1 := Lib.hid (show Below w.heap.size w (wr.setCell ⟨w.heap.size + 1, z, none⟩ (.bool true)) from HB.out.setCell (by simp) _)
      have HHZ := Lib.hid hz
      clear hfr hS hzo hlen64 hz ho64
      go_wp2_with fail
      refine FC.out.mono ?_
      rintro e w2 ⟨rfl, rfl⟩
      go_wp2_with (at_builtin
                   go_loud (refine wpList_app rfl (.tmp 22) (.tmp 24) _ rfl (w.heap.size + 2) 3 i0 _ 1 8 Try.underlying51 hi hq0 hq1 hq2 rfl (by omega) _ o.length (flat encZ (zs o)) rfl (HO1.out.alloc _) (some ⟨wr.heap.size, 0, none⟩) 1 1 [.int .i64 (z : Int)] (by first | rfl | (simp [Act.eval]; done)) (cap_some (by omega)) (by have := sees_blk (wr.setCell ⟨w.heap.size + 1, z, none⟩ (.bool true)) #[.int .i64 (z : Int)] 3 1 1 rfl; simpa using this) (by simp [Value.oneCell']) (by have := HLN.out; unfold maxLen; omega) (by have := HLN.out; omega) (by simp; omega) ?_
                            intro v4 w4 hown4 hb4
                            have HX4 := Lib.hid ((HX1.out.alloc _).belowB hb4 (by omega))
                            have HK4 := Lib.hid ((HK1.out.alloc _).belowB hb4 (by omega))
                            have HO4 := Lib.hid hown4
                            have HB4 := Lib.hid ((HB1.out.alloc (by simp; omega) _).trans (hb4.mono (by omega)))
                            have c4 := HX4.out.nx HHZ.out
                            clear hown4 hb4))
      go_roundw
      case rel => exact ⟨o ++ [z], x.nx z, rfl, HMN, HGN, Lib.hid (by rw [zs_snoc, flat_snocZ, List.length_append]; exact HO4.out), HK4, HX4, HB4⟩
      case measure =>
        have h1 := own_slN HO4.out
        have h2 := HLN.out
        rw [h1, hsl]
        omega
    | false =>
      rw [hfr] at FC
      have HGS := Lib.hid (gone_same HG.out hfr HMY.out)
      have HMZ := Lib.hid (isL_zs.2 HMY.out)
      clear hfr
      have hR := rangeAt_part HX.out 128 64
      rw [lsC_p2] at hR
      have HRR := Lib.hid hR
      clear hR
      by_cases hs : sameM (fun j => decide (j ∈ o)) x.inn = true
      · have hQ : ∀ W, (binOp .neq 53 (.agg (celV (mkC (fun j => decide (j ∈ o))))) (.agg (celV (mkC x.inn)))).run Try.prog W = .ok (.bool false) W := fun W => by rw [eqM_neq, hs]; rfl
        have LC := Lib.hid (laid_c u6 o.length (zs o) wr (Rows.of_own HO.out (zs_len o) (by omega)))
        rw [laidF_yes HMZ.out, nat_zs, decide_eq_true HMZ.out] at LC
        clear hs
        go_wp2_with fail
        refine FC.out.mono ?_
        rintro e w2 ⟨rfl, rfl⟩
        by_cases hst : sameB (told o) x = true
        · have hQ2 : ∀ W, (binOp .neq 55 (.agg (celV (lsC (told o)))) (.agg (celV (lsC x)))).run Try.prog W = .ok (.bool false) W := fun W => by rw [eqS_neq, hst]; rfl
          obtain ⟨ht, ho⟩ := HGS.out.1 (sameB_iff.1 hst).symm
          have HT := Lib.hid ht
          have HOO := Lib.hid ho
          clear hst ht ho
          go_wp2_with (first
            | (refine wpList_load_vbk rfl 53 (.tmp 4) rfl (w.heap.size + 1) 53 (mkC (fun j => decide (j ∈ o))) (by first | rfl | (simp [Act.eval]; done)) HK.out _ Try.underlying53 rfl (by rw [mkC_len]; kernel_rfl) ?_)
            | (refine wpList_load_range rfl 53 (.tmp 27) rfl w.heap.size 128 (mkC x.inn) (by first | rfl | (simp [Act.eval]; done)) HRR.out _ Try.underlying53 rfl (by rw [mkC_len]; kernel_rfl) ?_)
            | (go_at_call 54; refine LC.out.mono ?_; rintro e w5 ⟨rfl, hb5⟩)
            | (refine wpList_store_vbk rfl 55 (.tmp 8) (.tmp 33) rfl w5.heap.size 55 (lsC z0) (lsC (told o)) (by first | rfl | (simp [Act.eval]; done)) (by first | rfl | (simp [Act.eval]; done)) (by first | exact vbk.new' (by simp) | (rw [hzc]; exact vbk.new' (by simp))) (by rw [lsC_len, lsC_len]) (lsC_one _) (lsC_info _) ?_
               have H8 := Lib.hid (show vbk ((w5.alloc (.cells (celV (lsC z0)) 55)).setRow w5.heap.size (celV (lsC (told o)))) w5.heap.size 55 (lsC (told o)) from (vbk.new' rfl).setRow _)
               have H9 := Lib.hid (show vbk ((w5.alloc (.cells (celV (lsC z0)) 55)).setRow w5.heap.size (celV (lsC (told o)))) w.heap.size 55 (lsC x) from ((HX.out.below hb5).alloc _).otherRow (by have := hb5.size; omega) _))
            | (refine wpList_load_vbkg (by first | rfl | (simp [Region.wanted, yielded]; done)) 55 (.tmp 8) rfl w5.heap.size 55 (lsC (told o)) (by first | rfl | (simp [Act.eval]; done)) H8.out _ Try.underlying55 rfl (lsC_info _) ?_)
            | (refine wpList_load_vbkg (by first | rfl | (simp [Region.wanted, yielded]; done)) 55 (.tmp 1) rfl w.heap.size 55 (lsC x) (by first | rfl | (simp [Act.eval]; done)) H9.out _ Try.underlying55 rfl (lsC_info _) ?_))
          go_ret2
          refine ⟨u6, by rw [HT.out]; first | rfl | (simp; done), by rw [HOO.out]; exact own_mono0 (own_below' HO.out (below_setRow (chain1 hb5 _) hb5.size _)) (by omega), ?_⟩
          exact below_setRow (chain1 (chain HB.out hb5) _) (by have := hb5.size; omega) _
        · have hQ2 : ∀ W, (binOp .neq 55 (.agg (celV (lsC (told o)))) (.agg (celV (lsC x)))).run Try.prog W = .ok (.bool true) W := fun W => by rw [eqS_neq, show sameB (told o) x = false by simpa using hst]; rfl
          obtain ⟨ht, ho⟩ := HGS.out.2 (fun h => hst (sameB_iff.2 h.symm))
          have HT := Lib.hid ht
          have HOO := Lib.hid ho
          clear hst ht ho
          go_wp2_with (first
            | (refine wpList_load_vbk rfl 53 (.tmp 4) rfl (w.heap.size + 1) 53 (mkC (fun j => decide (j ∈ o))) (by first | rfl | (simp [Act.eval]; done)) HK.out _ Try.underlying53 rfl (by rw [mkC_len]; kernel_rfl) ?_)
            | (refine wpList_load_range rfl 53 (.tmp 27) rfl w.heap.size 128 (mkC x.inn) (by first | rfl | (simp [Act.eval]; done)) HRR.out _ Try.underlying53 rfl (by rw [mkC_len]; kernel_rfl) ?_)
            | (go_at_call 54; refine LC.out.mono ?_; rintro e w5 ⟨rfl, hb5⟩)
            | (refine wpList_store_vbk rfl 55 (.tmp 8) (.tmp 33) rfl w5.heap.size 55 (lsC z0) (lsC (told o)) (by first | rfl | (simp [Act.eval]; done)) (by first | rfl | (simp [Act.eval]; done)) (by first | exact vbk.new' (by simp) | (rw [hzc]; exact vbk.new' (by simp))) (by rw [lsC_len, lsC_len]) (lsC_one _) (lsC_info _) ?_
               have H8 := Lib.hid (show vbk ((w5.alloc (.cells (celV (lsC z0)) 55)).setRow w5.heap.size (celV (lsC (told o)))) w5.heap.size 55 (lsC (told o)) from (vbk.new' rfl).setRow _)
               have H9 := Lib.hid (show vbk ((w5.alloc (.cells (celV (lsC z0)) 55)).setRow w5.heap.size (celV (lsC (told o)))) w.heap.size 55 (lsC x) from ((HX.out.below hb5).alloc _).otherRow (by have := hb5.size; omega) _))
            | (refine wpList_load_vbkg (by first | rfl | (simp [Region.wanted, yielded]; done)) 55 (.tmp 8) rfl w5.heap.size 55 (lsC (told o)) (by first | rfl | (simp [Act.eval]; done)) H8.out _ Try.underlying55 rfl (lsC_info _) ?_)
            | (refine wpList_load_vbkg (by first | rfl | (simp [Region.wanted, yielded]; done)) 55 (.tmp 1) rfl w.heap.size 55 (lsC x) (by first | rfl | (simp [Act.eval]; done)) H9.out _ Try.underlying55 rfl (lsC_info _) ?_))
          go_ret2
          refine ⟨_, by rw [HT.out]; first | rfl | (simp; done), by rw [HOO.out]; exact World.ownsRow_nil _ _ _ _, ?_⟩
          exact below_setRow (chain1 (chain HB.out hb5) _) (by have := hb5.size; omega) _
      · have hQ : ∀ W, (binOp .neq 53 (.agg (celV (mkC (fun j => decide (j ∈ o))))) (.agg (celV (mkC x.inn)))).run Try.prog W = .ok (.bool true) W := fun W => by rw [eqM_neq, show sameM (fun j => decide (j ∈ o)) x.inn = false by simpa using hs]; rfl
        obtain ⟨ht, ho⟩ := HGS.out.2 (fun h => hs (sameM_iff.2 (fun j hj => ((h.1 j hj).2.2).symm)))
        have HT := Lib.hid ht
        have HOO := Lib.hid ho
        clear hs ht ho
        go_wp2_with fail
        refine FC.out.mono ?_
        rintro e w2 ⟨rfl, rfl⟩
        go_wp2_with (first
          | (refine wpList_load_vbk rfl 53 (.tmp 4) rfl (w.heap.size + 1) 53 (mkC (fun j => decide (j ∈ o))) (by first | rfl | (simp [Act.eval]; done)) HK.out _ Try.underlying53 rfl (by rw [mkC_len]; kernel_rfl) ?_)
          | (refine wpList_load_range rfl 53 (.tmp 27) rfl w.heap.size 128 (mkC x.inn) (by first | rfl | (simp [Act.eval]; done)) HRR.out _ Try.underlying53 rfl (by rw [mkC_len]; kernel_rfl) ?_))
        go_ret2
        exact ⟨_, by rw [HT.out]; first | rfl | (simp; done), by rw [HOO.out]; exact World.ownsRow_nil _ _ _ _, HB.out⟩
end Go.Proofs.Try
