/- ListUses (stage 15). -/
import Derived.Test.YtgkiijpheigpjaaLua
import Derived.Deep.RegionHeld
namespace Go.Proofs.Try
open Go.RowKit
set_option linter.unusedVariables false
set_option linter.unusedSimpArgs false
theorem wp_store_vbk {P : Program} {op : Oper} {a : Act} {w : World} {K : Act → World → Prop} {Q : Exit → Act → World → Prop} (ty : TypeId) (x y : Operand) (ho : op.op = .store ty x y)
    (b : Nat) (T : TypeId) (l l' : List Value) (hx : a.eval x = .pointer (some ⟨b, 0, none⟩)) (hy : a.eval y = .agg (celV l')) (hc : vbk w b T l) (hl : l.length = l'.length) (h1 : ∀ v ∈ l', v.oneCell' = true)
    (hi : (P.info? ty).map (·.size) = some l'.length) (h : K (a.put op.dst undef) (w.setRow b (celV l'))) : op.wp P a w K Q :=
  wp_store_row ty x y ho b (celV l') hx hy T (celV l) hc (by rw [hi, celV_size]) (by rw [celV_size, celV_size, hl]) (celV_one h1) h
theorem yieldsIf_vbk {P : Program} {ops : Array Oper} {S : World → Prop} {op : Oper} {a : Act} (hw : Region.wanted op (yielded ops a.tmps) = true) (ty : TypeId) (x : Operand) (ho : op.op = .load ty x)
    (b : Nat) (T : TypeId) (l : List Value) (hx : a.eval x = .pointer (some ⟨b, 0, none⟩)) (hS : ∀ w, S w → vbk w b T l) (d : TypeDesc)
    (hu : P.underlying ty = some d) (hd : d.isRow = true) (hi : (P.info? ty).map (·.size) = some l.length) : YieldsIf P ops S op (.agg (celV l)) a :=
  .inl ⟨hw, fun w hw' => by
    have e := run_loadVar_vbk (P := P) w b ty T l d (hS w hw') hu hd hi
    unfold execOp
    simp only [ho, hx, Instr.loadAt, Instr.sureAddr, Sem.run_bind, Sem.run_pure, Result.andThen_ok, e]⟩
/-- What the region leaves as it is. -/
def keepS (wr : World) (B4 : Nat) (T : TypeId) (m : List Nat) (b o : Nat) (d : Bool) (id : Int) (W : World) : Prop := vbk W B4 T (lsC (told m)) ∧ W.cell? ⟨b, o, none⟩ = some (.bool d) ∧ W.cell? ⟨b, o + 1, none⟩ = some (.int .i64 id) ∧ b < W.heap.size ∧ Below wr.heap.size wr W
theorem keepS.below {wr W W' : World} {B4 b o : Nat} {T : TypeId} {m : List Nat} {d : Bool} {id : Int} (h : keepS wr B4 T m b o d id W) (hb : Below W.heap.size W W') : keepS wr B4 T m b o d id W' :=
  ⟨h.1.below hb, (hb.cell (p := ⟨b, o, none⟩) h.2.2.2.1).trans h.2.1, (hb.cell (p := ⟨b, o + 1, none⟩) h.2.2.2.1).trans h.2.2.1, Nat.lt_of_lt_of_le h.2.2.2.1 hb.size, chain h.2.2.2.2 hb⟩
theorem keepS.range {wr W : World} {B4 b o : Nat} {T : TypeId} {m : List Nat} {d : Bool} {id : Int} (h : keepS wr B4 T m b o d id W) : W.rangeAt b o [.bool d, .int .i64 id] := fun j v hv => by
  match j, hv with
  | 0, hv => simp at hv; subst hv; rw [Nat.add_zero]; exact h.2.1
  | 1, hv => simp at hv; subst hv; exact h.2.2.1
theorem keepS.row {wr W : World} {B4 b o : Nat} {T : TypeId} {m : List Nat} {d : Bool} {id : Int} (h : keepS wr B4 T m b o d id W) {g : Nat} (h4 : g ≠ B4) (hb : g ≠ b) (hw : wr.heap.size ≤ g) (cs : Array Value) : keepS wr B4 T m b o d id (W.setRow g cs) :=
  ⟨h.1.otherRow (Ne.symm h4) cs, (World.cell?_of_block (setRow_other W g b cs (Ne.symm hb))).trans h.2.1, (World.cell?_of_block (setRow_other W g b cs (Ne.symm hb))).trans h.2.2.1, Nat.lt_of_lt_of_le h.2.2.2.1 (below_setRow (B := 0) (Below.refl 0 W) (Nat.zero_le _) cs).size, below_setRow h.2.2.2.2 hw cs⟩
theorem act_cells {w : World} {n b off : Nat} {l : List Ac} (h : Sees w 2 (some ⟨b, off, none⟩) n (flat encA l)) {j : Nat} (hj : j < l.length) : w.cell? ⟨b, off + j * 2, none⟩ = some (.bool (atA l j).1) ∧ w.cell? ⟨b, off + j * 2 + 1, none⟩ = some (.int .i64 (atA l j).2) := by
  have hx : l[j]? = some (atA l j) := by simp [atA, List.getD_eq_getElem?_getD, List.getElem?_eq_getElem hj]
  exact ⟨h.el encA_len hx (i := 0) rfl, h.el encA_len hx (i := 1) rfl⟩
theorem wrap_pred (k : Nat) (h : k ≤ 100) : wrap64 ((k : Int) - 1) = (k : Int) - 1 := by unfold wrap64; omega
theorem wrap_succ (k : Nat) (h : k ≤ 100) : wrap64 ((k : Int) + 1) = (k : Int) + 1 := by unfold wrap64; omega
theorem hasA_one {l : List Ac} {j t : Nat} (h : j + 1 + t < l.length) (id : Int) : hasA ((l.drop (j + 1)).take (t + 1)) id = (hasA ((l.drop (j + 1)).take t) id || ((atA l (j + 1 + t)).2 == id)) := by
  have hk : t < (l.drop (j + 1)).length := by rw [List.length_drop]; omega
  rw [takeA_one hk]
  unfold hasA
  rw [List.any_append]
  have : atA (l.drop (j + 1)) t = atA l (j + 1 + t) := by
    unfold atA
    rw [List.getD_eq_getElem?_getD, List.getD_eq_getElem?_getD, List.getElem?_drop]
  simp [this]
theorem want_one {l : List Ac} {j : Nat} (h : j < l.length) : wantF (l.drop j) = wantF (l.drop (j + 1)) ++ (if ((atA l j).1 = false ∧ 0 ≤ (atA l j).2 ∧ (atA l j).2 < 64) ∧ hasA (l.drop (j + 1)) (atA l j).2 = false then [(atA l j).2.toNat] else []) := by
  rw [dropA_one h]
  rfl
theorem want_may (l : List Ac) : mayL (wantF l) := by rw [← run_all]; exact run_may l may_nil
set_option maxRecDepth 100000 in
set_option maxHeartbeats 8000000 in
theorem walk_ListUses (v0 : Value) (w : World) (o0 : RowIn encA 2 (fun _ => True) w v0) :
    Calls Try.prog 10 #[v0] w fun e w' => e = .returned (.bool true) ∧ Below w.heap.size w w' := by
  obtain ⟨A, n, c, l, rfl, hcap, hmx, hl, _, hs⟩ := o0
  have hzc := zero_cells
  by_cases hn : n ≤ 100
  · have hn1 : ¬((100 : Int) < (n : Int)) := by omega
    have HL := Lib.hid hl
    have HS := Lib.hid hs
    have HN := Lib.hid hn
    clear hcap hmx hl hs hn
    have HB0 := Lib.hid (Below.refl w.heap.size w)
    go_enter Try.func10, Try.ntmps10
    go_wp2_with fail
    refine (awake15 w).mono ?_
    rintro e w1 ⟨rfl, hb2⟩
    have HB3 := Lib.hid (chain HB0.out hb2)
    go_wp2_with fail
    refine (new_c w1).mono ?_
    rintro e w4 ⟨rfl, hb5⟩
    have HB6 := Lib.hid (chain HB3.out hb5)
    go_wp2_with (first
         | (refine wpList_store_vbk rfl 55 (.tmp 4) (.tmp 19) rfl w4.heap.size 55 (lsC z0) (lsC (told [])) (by first | rfl | (simp [Act.eval]; done)) (by first | rfl | (simp [Act.eval]; done)) (by first | exact vbk.new' (by simp) | (rw [hzc]; exact vbk.new' (by simp))) (by simp only [lsC_len]) (lsC_one _) (lsC_info _) ?_
            have HF7 := Lib.hid (show vbk ((w4.alloc (.cells (celV (lsC z0)) 55)).setRow w4.heap.size (celV (lsC (told [])))) w4.heap.size 55 (lsC (told [])) from (vbk.new' rfl).setRow _)
            have HB8 := Lib.hid (show Below w.heap.size w ((w4.alloc (.cells (celV (lsC z0)) 55)).setRow w4.heap.size (celV (lsC (told [])))) from below_setRow (chain1 HB6.out _) HB6.out.size _))
         | (refine wpList_load_vbk rfl 55 (.tmp 4) rfl (w4.heap.size) 55 (lsC (told [])) (by first | rfl | (simp [Act.eval]; done)) HF7.out _ Try.underlying55 rfl (lsC_info _) ?_))
    have hB4 : w.heap.size ≤ w4.heap.size := HB6.out.size
    obtain ⟨B4, hB⟩ : ∃ b, b = w4.heap.size := ⟨_, rfl⟩
    rw [← hB] at HF7 HB8 hB4 ⊢
    clear hB
    go_loopw [5] (fun i wr => ∃ k : Nat, k ≤ n ∧ i = .int .i64 (k : Int) ∧ Hid (vbk wr B4 55 (lsC (told (runA (l.take k) [])))) ∧ Hid (Below w.heap.size w wr)) (fun i _ => n - (intOf i).toNat)
    case atStart => exact ⟨0, by omega, rfl, HF7, HB8⟩
    case round =>
      obtain ⟨k, hk, rfl, HV, HB⟩ := hrel
      by_cases h0 : k < n
      · have hkn : (k : Int) < (n : Int) := by omega
        obtain ⟨b, off, rfl, hbl⟩ := Rows.some HS.out (by omega)
        have hkl : k < l.length := by rw [HL.out]; exact h0
        obtain ⟨c0, c1⟩ := act_cells (HS.out.below HB.out) hkl
        have HMM := Lib.hid (run_one hkl)
        have HMY := Lib.hid (show mayL (runA (l.take k) []) from run_may _ may_nil)
        have hbw : b < wr.heap.size := Nat.lt_of_lt_of_le hbl HB.out.size
        have hle := HN.out
        obtain ⟨⟨d, id⟩, ha⟩ : ∃ a, atA l k = a := ⟨_, rfl⟩
        rw [ha] at c0 c1 HMM
        dsimp only at c0 c1
        obtain ⟨M, hM⟩ : ∃ m, runA (l.take k) [] = m := ⟨_, rfl⟩
        rw [hM] at HV HMM HMY
        clear ha hM hkl
        have DC := fun W => do_c M HMY.out (d, id) W
        dsimp only at DC
        obtain ⟨M2, hM2⟩ : ∃ m, stepA M (d, id) = m := ⟨_, rfl⟩
        rw [hM2] at DC HMM
        clear hM2
        have hS0 : keepS wr B4 55 M b (off + k * 2) d id wr.drew := ⟨HV.out.below (Below.refl _ _).drew, c0, c1, hbw, (Below.refl _ _).drew⟩
        clear c0 c1
        go_wp2_with fail
        refine wp_region_held_drew (S := keepS wr B4 55 M b (off + k * 2) d id) (by kernel_rfl) hS0 ?_
        intro hS
        refine wpAnyH_take (i := 1) (v := .slice (some ⟨b, off, none⟩) n c) (fuel := 11) rfl (by kernel_rfl) (by kernel_rfl) (by kernel_rfl) (fun _ _ _ h => h) (Or.inl ⟨by rfl, fun W hW => by first | rfl | (go_simp; done) | (go_simp; rfl)⟩) hS ?_
        simp only [Act.put, List.setIfInBounds_toArray, List.set_cons_zero, List.set_cons_succ]
        refine wpAnyH_take (i := 2) (v := .int .i64 (k : Int)) (fuel := 10) rfl (by kernel_rfl) (by kernel_rfl) (by kernel_rfl) (fun _ _ _ h => h) (Or.inl ⟨by rfl, fun W hW => by first | rfl | (go_simp; done) | (go_simp; rfl)⟩) hS ?_
        simp only [Act.put, List.setIfInBounds_toArray, List.set_cons_zero, List.set_cons_succ]
        refine wpAnyH_take (i := 3) (v := .pointer (some ⟨b, off + k * 2, none⟩)) (fuel := 9) rfl (by kernel_rfl) (by kernel_rfl) (by kernel_rfl) (fun _ _ _ h => h) (Or.inl ⟨by rfl, fun W hW => by first | rfl | (go_simp; done) | (go_simp; rfl)⟩) hS ?_
        simp only [Act.put, List.setIfInBounds_toArray, List.set_cons_zero, List.set_cons_succ]
        refine wpAnyH_take (i := 0) (v := .agg (celV (lsC (told M)))) (fuel := 8) rfl (by kernel_rfl) (by kernel_rfl) (by kernel_rfl) (fun _ _ _ h => h) (yieldsIf_vbk (by rfl) 55 (.tmp 4) rfl B4 55 (lsC (told M)) (by rfl) (fun W hW => hW.1) _ Try.underlying55 rfl (lsC_info _)) hS ?_
        simp only [Act.put, List.setIfInBounds_toArray, List.set_cons_zero, List.set_cons_succ]
        refine wpAnyH_take (i := 4) (v := .agg #[.bool d, .int .i64 id]) (fuel := 7) rfl (by kernel_rfl) (by kernel_rfl) (by kernel_rfl) (fun _ _ _ h => h) (yieldsIf_load_mid (by rfl) 70 (.tmp 30) rfl b (off + k * 2) (by rfl) [.bool d, .int .i64 id] _ (fun W hW => hW.range) Try.underlying70 rfl (by kernel_rfl)) hS ?_
        simp only [Act.put, List.setIfInBounds_toArray, List.set_cons_zero, List.set_cons_succ]
        refine wpAnyH_ready (rs := [5, 9]) (fuel := 6) (by kernel_rfl) (by simp) (AllReadyH.cons rfl (fun K hK => ?_) (AllReadyH.cons rfl (fun K hK => ?_) AllReadyH.nil))
        · have hbr := True.intro
          go_simp
          go_wp2_with (go_at_call 46; refine (DC _).mono ?_; rintro e w5 ⟨E, rfl, hb5⟩)
          refine hK.out _ _ (hS.below hb5) ?_
          intro hS5
          clear hK K
          refine wpAnyH_take (i := 6) (v := .tuple #[.agg (celV (lsC (told M2))), .int .i64 E]) (fuel := 5) rfl (by kernel_rfl) (by kernel_rfl) (by kernel_rfl) (fun _ _ _ h => h) (Or.inl ⟨by rfl, fun W hW => by first | rfl | (go_simp; done) | (go_simp; rfl)⟩) hS5 ?_
          simp only [Act.put, List.setIfInBounds_toArray, List.set_cons_zero, List.set_cons_succ]
          refine wpAnyH_take (i := 7) (v := .agg (celV (lsC (told M2)))) (fuel := 4) rfl (by kernel_rfl) (by kernel_rfl) (by kernel_rfl) (fun _ _ _ h => h) (Or.inl ⟨by rfl, fun W hW => by first | rfl | (go_simp; done) | (go_simp; rfl)⟩) hS5 ?_
          simp only [Act.put, List.setIfInBounds_toArray, List.set_cons_zero, List.set_cons_succ]
          refine wpAnyH_take (i := 8) (v := .int .i64 E) (fuel := 3) rfl (by kernel_rfl) (by kernel_rfl) (by kernel_rfl) (fun _ _ _ h => h) (Or.inl ⟨by rfl, fun W hW => by first | rfl | (go_simp; done) | (go_simp; rfl)⟩) hS5 ?_
          simp only [Act.put, List.setIfInBounds_toArray, List.set_cons_zero, List.set_cons_succ]
          refine wpAnyH_ready (rs := [9]) (fuel := 2) (by kernel_rfl) (by simp) (AllReadyH.cons rfl (fun K hK => ?_) AllReadyH.nil)
          go_simp
          refine hK.out _ _ (hS5.below ((Below.refl _ _).alloc (Nat.le_refl _) _)) ?_
          intro hS6
          clear hK K
          try simp only [Act.put, List.setIfInBounds_toArray, List.set_cons_zero, List.set_cons_succ]
          have Hnew : vbk (w5.alloc (.cells (celV (lsC z0)) 55)) w5.heap.size 55 (lsC z0) := vbk.new' rfl
          have hnb : w5.heap.size ≠ B4 := Nat.ne_of_gt hS5.1.lt
          have HBL := Lib.hid (chain HB.out hS6.2.2.2.2)
          have HVL := Lib.hid hS6.1
          refine wpAnyH_ready (rs := [10]) (fuel := 1) (by kernel_rfl) (by simp) (AllReadyH.cons rfl (fun K hK => ?_) AllReadyH.nil)
          rw [if_pos (by rfl)]
          refine wp_store_vbk 55 (.tmp 6) (.tmp 33) rfl (w5.heap.size) 55 (lsC z0) (lsC (told M2)) (by rfl) (by rfl) Hnew (by simp only [lsC_len]) (lsC_one _) (lsC_info _) ?_
          have hS7 := hS6.row hnb (Nat.ne_of_gt hS5.2.2.2.1) (hS5.2.2.2.2.size) (celV (lsC (told M2)))
          refine hK.out _ _ hS7 ?_
          clear hK K
          intro hS8
          try simp only [Act.put, List.setIfInBounds_toArray, List.set_cons_zero, List.set_cons_succ]
          refine wpAnyH_take (i := 11) (v := .int .i64 E) (fuel := 0) rfl (by kernel_rfl) (by kernel_rfl) (by kernel_rfl) (fun _ _ _ h => h) (Or.inl ⟨by rfl, fun W hW => by first | rfl | (go_simp; done) | (go_simp; rfl)⟩) hS7 ?_
          simp only [Act.put, List.setIfInBounds_toArray, List.set_cons_zero, List.set_cons_succ]
          refine wpAnyH_done (by kernel_rfl) ?_ _
          have HF6 := Lib.hid (show vbk ((w5.alloc (.cells (celV (lsC z0)) 55)).setRow (w5.heap.size) (celV (lsC (told M2)))) (w5.heap.size) 55 (lsC (told M2)) from Hnew.setRow _)
          have HF4 := Lib.hid (show vbk ((w5.alloc (.cells (celV (lsC z0)) 55)).setRow (w5.heap.size) (celV (lsC (told M2)))) B4 55 (lsC (told M)) from hS7.1)
          have HB7 := Lib.hid (show Below w.heap.size w ((w5.alloc (.cells (celV (lsC z0)) 55)).setRow (w5.heap.size) (celV (lsC (told M2)))) from chain HB.out hS7.2.2.2.2)
          clear hS7 hS8 hS5 hS6 hS0 hS Hnew hb5
          go_wp2_with (first
               | (refine wpList_load_vbk rfl 55 (.tmp 6) rfl (w5.heap.size) 55 (lsC (told M2)) (by first | rfl | (simp [Act.eval]; done)) HF6.out _ Try.underlying55 rfl (lsC_info _) ?_)
               | (refine wpList_load_vbk rfl 55 (.tmp 4) rfl (B4) 55 (lsC (told M)) (by first | rfl | (simp [Act.eval]; done)) HF4.out _ Try.underlying55 rfl (lsC_info _) ?_)
               | (refine wpList_store_vbk rfl 55 (.tmp 4) (.tmp 35) rfl (B4) 55 (lsC (told M)) (lsC (told M2)) (by first | rfl | (simp [Act.eval]; done)) (by first | rfl | (simp [Act.eval]; done)) HF4.out (by simp only [lsC_len]) (lsC_one _) (lsC_info _) ?_
                  have HFz01 := Lib.hid (show vbk (((w5.alloc (.cells (celV (lsC z0)) 55)).setRow (w5.heap.size) (celV (lsC (told M2)))).setRow (B4) (celV (lsC (told M2)))) (w5.heap.size) 55 (lsC (told M2)) from HF6.out.otherRow (by omega) _)
                  have HFz02 := Lib.hid (show vbk (((w5.alloc (.cells (celV (lsC z0)) 55)).setRow (w5.heap.size) (celV (lsC (told M2)))).setRow (B4) (celV (lsC (told M2)))) (B4) 55 (lsC (told M2)) from HF4.out.setRow _)
                  have HBz03 := Lib.hid (show Below w.heap.size w (((w5.alloc (.cells (celV (lsC z0)) 55)).setRow (w5.heap.size) (celV (lsC (told M2)))).setRow (B4) (celV (lsC (told M2)))) from below_setRow HB7.out (by omega) _)))
          go_roundw
          case rel => exact ⟨k + 1, by omega, by go_num, Lib.hid (by rw [HMM.out]; exact HFz02.out), HBz03⟩
          case measure => first | (simp [intOf]; done) | (simp [intOf]; omega)
        · have hbr := True.intro
          go_simp
          refine hK.out _ _ (hS.below ((Below.refl _ _).alloc (Nat.le_refl _) _)) ?_
          intro hS6
          clear hK K
          try simp only [Act.put, List.setIfInBounds_toArray, List.set_cons_zero, List.set_cons_succ]
          refine wpAnyH_ready (rs := [5]) (fuel := 5) (by kernel_rfl) (by simp) (AllReadyH.cons rfl (fun K hK => ?_) AllReadyH.nil)
          go_simp
          go_wp2_with (go_at_call 46; refine (DC _).mono ?_; rintro e w5 ⟨E, rfl, hb5⟩)
          refine hK.out _ _ (hS6.below hb5) ?_
          intro hS5
          clear hK K
          refine wpAnyH_take (i := 6) (v := .tuple #[.agg (celV (lsC (told M2))), .int .i64 E]) (fuel := 4) rfl (by kernel_rfl) (by kernel_rfl) (by kernel_rfl) (fun _ _ _ h => h) (Or.inl ⟨by rfl, fun W hW => by first | rfl | (go_simp; done) | (go_simp; rfl)⟩) hS5 ?_
          simp only [Act.put, List.setIfInBounds_toArray, List.set_cons_zero, List.set_cons_succ]
          refine wpAnyH_take (i := 7) (v := .agg (celV (lsC (told M2)))) (fuel := 3) rfl (by kernel_rfl) (by kernel_rfl) (by kernel_rfl) (fun _ _ _ h => h) (Or.inl ⟨by rfl, fun W hW => by first | rfl | (go_simp; done) | (go_simp; rfl)⟩) hS5 ?_
          simp only [Act.put, List.setIfInBounds_toArray, List.set_cons_zero, List.set_cons_succ]
          refine wpAnyH_take (i := 8) (v := .int .i64 E) (fuel := 2) rfl (by kernel_rfl) (by kernel_rfl) (by kernel_rfl) (fun _ _ _ h => h) (Or.inl ⟨by rfl, fun W hW => by first | rfl | (go_simp; done) | (go_simp; rfl)⟩) hS5 ?_
          simp only [Act.put, List.setIfInBounds_toArray, List.set_cons_zero, List.set_cons_succ]
          have Hnew : vbk w5 wr.heap.size 55 (lsC z0) := (show vbk (wr.drew.alloc (.cells (celV (lsC z0)) 55)) wr.heap.size 55 (lsC z0) from vbk.new' rfl).below hb5
          have hnb : wr.heap.size ≠ B4 := Nat.ne_of_gt HV.out.lt
          have HBL := Lib.hid (chain HB.out hS5.2.2.2.2)
          have HVL := Lib.hid hS5.1
          refine wpAnyH_ready (rs := [10]) (fuel := 1) (by kernel_rfl) (by simp) (AllReadyH.cons rfl (fun K hK => ?_) AllReadyH.nil)
          rw [if_pos (by rfl)]
          refine wp_store_vbk 55 (.tmp 6) (.tmp 33) rfl (wr.heap.size) 55 (lsC z0) (lsC (told M2)) (by rfl) (by rfl) Hnew (by simp only [lsC_len]) (lsC_one _) (lsC_info _) ?_
          have hS7 := hS5.row hnb (Nat.ne_of_gt hbw) (Nat.le_refl _) (celV (lsC (told M2)))
          refine hK.out _ _ hS7 ?_
          clear hK K
          intro hS8
          try simp only [Act.put, List.setIfInBounds_toArray, List.set_cons_zero, List.set_cons_succ]
          refine wpAnyH_take (i := 11) (v := .int .i64 E) (fuel := 0) rfl (by kernel_rfl) (by kernel_rfl) (by kernel_rfl) (fun _ _ _ h => h) (Or.inl ⟨by rfl, fun W hW => by first | rfl | (go_simp; done) | (go_simp; rfl)⟩) hS7 ?_
          simp only [Act.put, List.setIfInBounds_toArray, List.set_cons_zero, List.set_cons_succ]
          refine wpAnyH_done (by kernel_rfl) ?_ _
          have HF6 := Lib.hid (show vbk (w5.setRow (wr.heap.size) (celV (lsC (told M2)))) (wr.heap.size) 55 (lsC (told M2)) from Hnew.setRow _)
          have HF4 := Lib.hid (show vbk (w5.setRow (wr.heap.size) (celV (lsC (told M2)))) B4 55 (lsC (told M)) from hS7.1)
          have HB7 := Lib.hid (show Below w.heap.size w (w5.setRow (wr.heap.size) (celV (lsC (told M2)))) from chain HB.out hS7.2.2.2.2)
          clear hS7 hS8 hS5 hS6 hS0 hS Hnew hb5
          go_wp2_with (first
               | (refine wpList_load_vbk rfl 55 (.tmp 6) rfl (wr.heap.size) 55 (lsC (told M2)) (by first | rfl | (simp [Act.eval]; done)) HF6.out _ Try.underlying55 rfl (lsC_info _) ?_)
               | (refine wpList_load_vbk rfl 55 (.tmp 4) rfl (B4) 55 (lsC (told M)) (by first | rfl | (simp [Act.eval]; done)) HF4.out _ Try.underlying55 rfl (lsC_info _) ?_)
               | (refine wpList_store_vbk rfl 55 (.tmp 4) (.tmp 35) rfl (B4) 55 (lsC (told M)) (lsC (told M2)) (by first | rfl | (simp [Act.eval]; done)) (by first | rfl | (simp [Act.eval]; done)) HF4.out (by simp only [lsC_len]) (lsC_one _) (lsC_info _) ?_
                  have HFz11 := Lib.hid (show vbk ((w5.setRow (wr.heap.size) (celV (lsC (told M2)))).setRow (B4) (celV (lsC (told M2)))) (wr.heap.size) 55 (lsC (told M2)) from HF6.out.otherRow (by omega) _)
                  have HFz12 := Lib.hid (show vbk ((w5.setRow (wr.heap.size) (celV (lsC (told M2)))).setRow (B4) (celV (lsC (told M2)))) (B4) 55 (lsC (told M2)) from HF4.out.setRow _)
                  have HBz13 := Lib.hid (show Below w.heap.size w ((w5.setRow (wr.heap.size) (celV (lsC (told M2)))).setRow (B4) (celV (lsC (told M2)))) from below_setRow HB7.out (by omega) _)))
          go_roundw
          case rel => exact ⟨k + 1, by omega, by go_num, Lib.hid (by rw [HMM.out]; exact HFz12.out), HBz13⟩
          case measure => first | (simp [intOf]; done) | (simp [intOf]; omega)
      · obtain rfl : k = n := by omega
        have hle := HN.out
        have HV2 := Lib.hid (show vbk wr B4 55 (lsC (told (wantF l))) by have := HV.out; rwa [← HL.out, List.take_length, run_all] at this)
        have HDN := Lib.hid (show l.drop k = [] by rw [← HL.out, List.drop_length])
        have HWW0 := Lib.hid (wrap_pred k hle)
        obtain ⟨V, hV⟩ : ∃ V, V = wr := ⟨_, rfl⟩
        subst hV
        have hv4 := HV.out.lt
        obtain ⟨i0, hi, hq0, hq1, hq2⟩ := info_parts int_info
        clear HV
        have hww0 := HWW0.out
        go_wp2_with fail
        clear hww0
        go_loopw [8, 9] (fun v i wr => ∃ k' : Nat, k' ≤ k ∧ i = .int .i64 ((k' : Int) - 1) ∧ Hid (wr.ownsRow V.heap.size 3 1 v (wantF (l.drop k')).length (flat encZ (zs (wantF (l.drop k'))))) ∧ Hid (vbk wr B4 55 (lsC (told (wantF l)))) ∧ Hid (Below w.heap.size w wr) ∧ Hid (Below V.heap.size V wr)) (fun _ i _ => (intOf i + 1).toNat)
        case atStart => exact ⟨k, by omega, rfl, Lib.hid (by rw [HDN.out]; exact World.ownsRow_nil _ _ _ _), HV2, HB, Lib.hid (Below.refl _ _)⟩
        case round =>
          clear HV2 HDN
          obtain ⟨k', hk', rfl, HO, HV4, HBw, HBV⟩ := hrel
          by_cases h0 : 0 < k'
          · obtain ⟨j, rfl⟩ : ∃ j, k' = j + 1 := ⟨k' - 1, by omega⟩
            rw [show (((j + 1 : Nat) : Nat) : Int) - 1 = (j : Int) by omega]
            obtain ⟨b, off, rfl, hbl⟩ := Rows.some HS.out (by omega)
            have hjl : j < l.length := by rw [HL.out]; omega
            obtain ⟨c0, c1⟩ := act_cells (HS.out.below HBw.out) hjl
            have HW1 := Lib.hid (want_one hjl)
            have HLW := Lib.hid (show (wantF (l.drop (j + 1))).length ≤ 64 from may_len (want_may _))
            obtain ⟨⟨d, id⟩, ha⟩ : ∃ a, atA l j = a := ⟨_, rfl⟩
            rw [ha] at c0 c1 HW1
            dsimp only at c0 c1 HW1
            have hj0 : (0 : Int) ≤ (j : Int) := by omega
            have hjn : (j : Int) < (k : Int) := by omega
            have HWW := Lib.hid (wrap_pred j (Nat.le_trans (Nat.le_of_lt (Nat.lt_of_lt_of_le (Nat.lt_succ_self j) hk')) hle))
            have HW2 := Lib.hid (wrap_succ j (Nat.le_trans (Nat.le_of_lt (Nat.lt_of_lt_of_le (Nat.lt_succ_self j) hk')) hle))
            clear ha hbl
            obtain ⟨V2, hV2⟩ : ∃ V2, V2 = wr := ⟨_, rfl⟩
            subst hV2
            have HC : Hid (∀ q, q < k → V2.cell? ⟨b, off + q * 2 + 1, none⟩ = some (.int .i64 (atA l q).2)) := Lib.hid (fun q hq => (act_cells (HS.out.below HBw.out) (by rw [HL.out]; exact hq)).2)
            have hw1 := HW2.out
            go_wp2_with fail
            clear hw1
            go_loopw [10, 11] (fun lt q3 wr => ∃ t m : Nat, j + 1 + t ≤ k ∧ q3 = .int .i64 ((j + 1 + t : Nat) : Int) ∧ lt = .bool (hasA ((l.drop (j + 1)).take t) id) ∧ wr = V2.drewN m) (fun _ q3 _ => k - (intOf q3).toNat)
            case atStart => exact ⟨0, 0, by omega, by go_num, by rw [List.take_zero]; rfl, rfl⟩
            case round =>
              obtain ⟨t, m, ht, rfl, rfl, rfl⟩ := hrel
              by_cases hlt : j + 1 + t < k
              · have HHA := Lib.hid (hasA_one (l := l) (j := j) (t := t) (by rw [HL.out]; exact hlt) id)
                have cq := HC.out (j + 1 + t) hlt
                obtain ⟨y, hy⟩ : ∃ y, (atA l (j + 1 + t)).2 = y := ⟨_, rfl⟩
                rw [hy] at cq HHA
                obtain ⟨q, hq⟩ : ∃ q, j + 1 + t = q := ⟨_, rfl⟩
                have HQ := Lib.hid hq
                have HQN := Lib.hid (show j + 1 + (t + 1) = q + 1 by omega)
                rw [hq] at cq hlt ⊢
                have hqk : (q : Int) < (k : Int) := by omega
                have hq00 : (0 : Int) ≤ (q : Int) := by omega
                clear hy hq ht
                cases hh : hasA ((l.drop (j + 1)).take t) id with
                | true =>
                  rw [hh, Bool.true_or] at HHA
                  clear hh
                  go_wp2_with fail
                  go_quiet (fail)
                  go_wp2_with fail
                  go_roundw
                  case rel => exact ⟨t + 1, _, by have := HQN.out; omega, by rw [HQN.out]; go_num, by rw [HHA.out], by first | rfl | (simp; rfl)⟩
                  case measure => first | (simp [intOf]; done) | (simp [intOf]; omega)
                | false =>
                  rw [hh, Bool.false_or] at HHA
                  clear hh
                  cases hyi : y == id with
                  | true =>
                    rw [hyi] at HHA
                    go_wp2_with fail
                    go_quiet (fail)
                    go_wp2_with fail
                    go_roundw
                    case rel => exact ⟨t + 1, _, by have := HQN.out; omega, by rw [HQN.out]; go_num, by rw [HHA.out], by first | rfl | (simp; rfl)⟩
                    case measure => first | (simp [intOf]; done) | (simp [intOf]; omega)
                  | false =>
                    rw [hyi] at HHA
                    go_wp2_with fail
                    go_quiet (fail)
                    go_wp2_with fail
                    go_roundw
                    case rel => exact ⟨t + 1, _, by have := HQN.out; omega, by rw [HQN.out]; go_num, by rw [HHA.out], by first | rfl | (simp; rfl)⟩
                    case measure => first | (simp [intOf]; done) | (simp [intOf]; omega)
              · have HTT := Lib.hid (show (l.drop (j + 1)).take t = l.drop (j + 1) from List.take_of_length_le (by rw [List.length_drop, HL.out]; omega))
                rw [HTT.out]
                have HO2 := Lib.hid (own_below' HO.out (Below_drewN (Below.refl _ _) m))
                have HV42 := Lib.hid (HV4.out.drewN m)
                have HBw2 := Lib.hid (Below_drewN HBw.out m)
                have HBV2 := Lib.hid (Below_drewN HBV.out m)
                have htq : ¬(((j + 1 + t : Nat) : Int) < (k : Int)) := by omega
                obtain ⟨q, hq⟩ : ∃ q, j + 1 + t = q := ⟨_, rfl⟩
                rw [hq] at htq ⊢
                clear hlt hq ht
                by_cases hgood : (d = false ∧ 0 ≤ id ∧ id < 64) ∧ hasA (l.drop (j + 1)) id = false
                · rw [if_pos hgood] at HW1
                  obtain ⟨⟨rfl, hi1, hi2⟩, hh⟩ := hgood
                  have HTI := Lib.hid (show ((id.toNat : Nat) : Int) = id by omega)
                  rw [hh]
                  clear hh
                  have HSZ := HBV2.out.size
                  have hww := HWW.out
                  go_wp2_with (at_builtin
                               go_loud (refine wpList_app rfl (.tmp 91) (.tmp 97) _ rfl V.heap.size 3 i0 _ 1 8 Try.underlying51 hi hq0 hq1 hq2 rfl (by omega) _ (wantF (l.drop (j + 1))).length (flat encZ (zs (wantF (l.drop (j + 1))))) rfl (HO2.out.alloc _) (some ⟨V2.heap.size, 0, none⟩) 1 1 [.int .i64 id] (by first | rfl | (simp [Act.eval]; done)) (cap_some (by omega)) (by have := sees_blk (V2.drewN m) #[.int .i64 id] 3 1 1 rfl; simpa using this) (by simp [Value.oneCell']) (by have := HLW.out; unfold maxLen; omega) (by have := HLW.out; omega) (by simp at HSZ ⊢; omega) ?_
                                        intro v4 w4 hown4 hb4))
                  have HOF := Lib.hid (show w4.ownsRow V.heap.size 3 1 v4 (wantF (l.drop j)).length (flat encZ (zs (wantF (l.drop j)))) by
                    rw [HW1.out, zs_snoc, HTI.out, flat_snocZ, List.length_append]; exact hown4)
                  have HBw5 := Lib.hid ((HBw2.out.alloc HBw2.out.size (.cells #[.int .i64 id] 3)).trans (hb4.mono HB.out.size))
                  have HBV5 := Lib.hid ((HBV2.out.alloc HBV2.out.size (.cells #[.int .i64 id] 3)).trans hb4)
                  have HV45 := Lib.hid ((HV42.out.alloc (.cells #[.int .i64 id] 3)).belowB hb4 hv4)
                  clear hown4 hb4 hww
                  go_roundw
                  case rel => exact ⟨j, by omega, rfl, HOF, HV45, HBw5, HBV5⟩
                  case measure => first | (simp [intOf]; done) | (simp [intOf]; omega)
                · rw [if_neg hgood, List.append_nil] at HW1
                  have HNG := Lib.hid hgood
                  clear hgood
                  cases hh : hasA (l.drop (j + 1)) id with
                  | true =>
                    clear HNG
                    have hww := HWW.out
                    go_wp2_with fail
                    clear hww
                    go_roundw
                    case rel => exact ⟨j, by omega, rfl, Lib.hid (by rw [HW1.out]; exact HO2.out), HV42, HBw2, HBV2⟩
                    case measure => first | (simp [intOf]; done) | (simp [intOf]; omega)
                  | false =>
                    cases d with
                    | true =>
                      clear HNG
                      have hww := HWW.out
                      go_wp2_with fail
                      clear hww
                      go_roundw
                      case rel => exact ⟨j, by omega, rfl, Lib.hid (by rw [HW1.out]; exact HO2.out), HV42, HBw2, HBV2⟩
                      case measure => first | (simp [intOf]; done) | (simp [intOf]; omega)
                    | false =>
                      have hrr : ¬(0 ≤ id) ∨ (0 ≤ id ∧ ¬(id < 64)) := by
                        have := HNG.out
                        rw [hh] at this
                        simp only [true_and, and_true] at this
                        omega
                      clear HNG hh
                      rcases hrr with h1 | ⟨h1, h2⟩
                      all_goals
                        have hww := HWW.out
                        go_wp2_with fail
                        clear hww
                        go_roundw
                        case rel => exact ⟨j, by omega, rfl, Lib.hid (by rw [HW1.out]; exact HO2.out), HV42, HBw2, HBV2⟩
                        case measure => first | (simp [intOf]; done) | (simp [intOf]; omega)
          · obtain rfl : k' = 0 := by omega
            have hrd := Rows.of_own (enc := encZ) (k := 1) HO.out (zs_len _) (by have := may_len (want_may (l.drop 0)); omega)
            rw [List.drop_zero] at hrd
            have HRy1 := Lib.hid hrd
            clear hrd HO
            go_wp2_with (first
                 | (refine wpList_load_vbk rfl 55 (.tmp 4) rfl (B4) 55 (lsC (told (wantF l))) (by first | rfl | (simp [Act.eval]; done)) HV4.out _ Try.underlying55 rfl (lsC_info _) ?_))
            refine (order_t (wantF l) (want_may l) wr).mono ?_
            rintro e wy2 ⟨Ao, co, rfl, hro, hby3⟩
            have HFy4 := Lib.hid (HV4.out.below hby3)
            have HRy5 := Lib.hid (HRy1.out.below hby3)
            have HBy6 := Lib.hid (chain HBw.out hby3)
            have HRy7 := Lib.hid hro
            clear hro
            go_wp2_with fail
            refine (same_rr _ _ _ _ (zs (wantF l)) wy2 HRy7.out HRy5.out).mono ?_
            rintro e wy8 ⟨rfl, hby9⟩
            have HFy10 := Lib.hid (HFy4.out.below hby9)
            have HRy11 := Lib.hid (HRy5.out.below hby9)
            have HRy12 := Lib.hid (HRy7.out.below hby9)
            have HBy13 := Lib.hid (chain HBy6.out hby9)
            go_wp2_with fail
            go_ret
            exact ⟨by first | rfl | (simp; done), HBy13.out⟩
  · have hn1 : (100 : Int) < (n : Int) := by omega
    clear hcap hmx hl hs hn
    go_enter Try.func10, Try.ntmps10
    go_wp2_with fail
    refine (awake15 _).mono ?_
    rintro e w1 ⟨rfl, hb1⟩
    go_wp2_with fail
    go_ret
    exact ⟨rfl, chain (Below.refl _ _) hb1⟩
end Go.Proofs.Try
