/- The document's answers for lhd: Hit, Out, Fade. -/
import Derived.Test.YtjkjnpcikddoaaaLR1
import Derived.Test.YtjkjnpcikddoaaaTailB
import Derived.Test.YtjkjnpcikddoaaaL19b
namespace Go.Proofs.Try
open Go.RowKit
set_option linter.unusedVariables false
set_option linter.unusedSimpArgs false
theorem wpQuiet_load_part {P : Program} {ops : Array Oper} {C : World → Prop} {Q : Act → Prop} {a : Act} {o : Oper} {rest : List Oper} (hg : o.guard = none) (ty : TypeId) (x : Operand) (ho : o.op = .load ty x)
    (b off n : Nat) (T : TypeId) (l r : List Nat) (hr : (l.drop off).take n = r) (hx : a.eval x = .pointer (some ⟨b, off, none⟩)) (hS : ∀ W, C W → blk W b T l) (hn : off + n ≤ l.length) (d : TypeDesc)
    (hu : P.underlying ty = some d) (hd : d.isRow = true) (hi : (P.info? ty).map (·.size) = some n) (h : wpQuiet P ops C Q rest (a.put o.dst (.agg (u64V r)))) : wpQuiet P ops C Q (o :: rest) a := by
  subst hr
  have hw : Region.wanted o (yielded ops a.tmps) = true := by simp [Region.wanted, hg]
  unfold wpQuiet
  rw [if_pos hw]
  refine ⟨_, fun W hW => ?_, h⟩
  have e := run_loadVar_mid (P := P) W b off ty (u64V ((l.drop off).take n)).toList d ((hS W hW).part off n hn) hu hd (by rw [hi]; simp [u64V_size]; omega)
  have e' : (loadVar ty ⟨b, off, none⟩).run P W = .ok (.agg (u64V ((l.drop off).take n))) W := by simpa using e
  unfold Oper.quietAt execOp
  simp only [ho, hx, Instr.loadAt, Instr.sureAddr, Sem.run_bind, Sem.run_pure, Result.andThen_ok, e', Oper.quietUpon]
  exact ⟨trivial, trivial⟩
def h1L (l : List Nat) : List Nat := (l.drop 0).take 8
def h2L (l : List Nat) : List Nat := (l.drop 8).take 8
theorem h1_len (l : List Nat) (h : l.length = 16) : (h1L l).length = 8 := part_len l 0 8 (by omega)
theorem h2_len (l : List Nat) (h : l.length = 16) : (h2L l).length = 8 := part_len l 8 8 (by omega)
theorem h1_at (l : List Nat) (j : Nat) (hj : j < 8) : (h1L l).getD j 0 = l.getD j 0 := by unfold h1L; rw [part_at _ _ _ _ hj, Nat.zero_add]
theorem h2_at (l : List Nat) (j : Nat) (hj : j < 8) : (h2L l).getD j 0 = l.getD (8 + j) 0 := part_at _ _ _ _ hj
theorem lt_of (l : List Nat) (n : Nat) (hl : l.length = n) (h : ∀ j, j < n → l.getD j 0 < 18446744073709551616) (k : Nat) : l.getD k 0 < 18446744073709551616 := by
  by_cases c : k < n
  · exact h k c
  · rw [List.getD_eq_getElem?_getD, List.getElem?_eq_none (by omega)]; simp
theorem h1_lt (l : List Nat) (h : Rk l) : ∀ k, (h1L l).getD k 0 < 18446744073709551616 := lt_of _ 8 (h1_len l h.1) (fun j hj => by rw [h1_at l j hj]; exact h.2 j)
theorem h2_lt (l : List Nat) (h : Rk l) : ∀ k, (h2L l).getD k 0 < 18446744073709551616 := lt_of _ 8 (h2_len l h.1) (fun j hj => by rw [h2_at l j hj]; exact h.2 (8 + j))
/-- Two eights, laid into sixteen. -/
theorem two_in (x y : List Nat) (hx : x.length = 8) (hy : y.length = 8) : splL (splL z16 0 x 0 8) 8 y 0 8 = x ++ y := by
  unfold splL
  rw [List.drop_zero, List.drop_zero, List.take_of_length_le (show x.length ≤ 8 by omega), List.take_of_length_le (show y.length ≤ 8 by omega), List.take_zero, List.nil_append]
  rw [List.take_append_of_le_length (by omega), List.take_of_length_le (by omega), List.drop_of_length_le (by simp [z16]; omega), List.append_nil]
theorem app_at (x y : List Nat) (hx : x.length = 8) (j : Nat) : (x ++ y).getD j 0 = if j < 8 then x.getD j 0 else y.getD (j - 8) 0 := by
  rw [List.getD_eq_getElem?_getD]
  by_cases h : j < 8
  · rw [if_pos h, List.getElem?_append_left (by omega), List.getD_eq_getElem?_getD]
  · rw [if_neg h, List.getElem?_append_right (by omega), hx, List.getD_eq_getElem?_getD]
theorem hit_two (l : List Nat) (hl : Rk l) (a : Int) : moL (h1L l) a 8 ++ h2L l = hitL l a := by
  refine ext16 _ _ (by rw [List.length_append, mo_len, h1_len l hl.1, h2_len l hl.1]) (by rw [hit_len, hl.1]) (fun j hj => ?_)
  rw [app_at _ _ (by rw [mo_len, h1_len l hl.1]), hit_at l hl.1, mo_at _ (h1_len l hl.1) a 8 j (by omega)]
  by_cases h : j < 8
  · rw [if_pos h, h1_at l j h]
  · rw [if_neg h, if_neg (by omega), h2_at l (j - 8) (by omega), show 8 + (j - 8) = j by omega]
theorem out_two (l : List Nat) (hl : Rk l) (a : Int) : h1L l ++ moL (h2L l) a 8 = outL l a := by
  refine ext16 _ _ (by rw [List.length_append, mo_len, h1_len l hl.1, h2_len l hl.1]) (by rw [out_len, hl.1]) (fun j hj => ?_)
  rw [app_at _ _ (h1_len l hl.1), out_at l hl.1]
  by_cases h : j < 8
  · rw [if_pos h, h1_at l j h, if_neg (by omega)]
  · rw [if_neg h, mo_at _ (h2_len l hl.1) a 8 (j - 8) (by omega), h2_at l (j - 8) (by omega), show 8 + (j - 8) = j by omega]
    by_cases e : ((j - 8 : Nat) : Int) = a ∧ j - 8 < 8
    · rw [if_pos e, if_pos (by omega)]
    · rw [if_neg e, if_neg (by omega)]
theorem fade_two (l : List Nat) (hl : Rk l) : haL (h1L l) 8 ++ haL (h2L l) 8 = fadeL l := by
  refine ext16 _ _ (by rw [List.length_append, ha_len, ha_len]) (fade_len _ _) (fun j hj => ?_)
  unfold fadeL
  rw [app_at _ _ (ha_len _ _), fade_at l 8 j hj, if_pos (show j % 8 < 8 by omega)]
  by_cases h : j < 8
  · rw [if_pos h, ha_at _ _ _ h, if_pos h, h1_at l j h]
  · rw [if_neg h, ha_at _ _ _ (by omega), if_pos (by omega), h2_at l (j - 8) (by omega), show 8 + (j - 8) = j by omega]
set_option maxRecDepth 100000 in
set_option maxHeartbeats 4000000 in
theorem rhit_c (l : List Nat) (hl : Rk l) (a : Int) (w : World) :
    Calls Try.prog 33 #[.agg (u64V l), .int .i64 a] w fun e w' => e = .returned (.agg (u64V (hitL l a))) ∧ Below w.heap.size w w' := by
  have M := fun W => more_c (h1L l) (h1_len l hl.1) (h1_lt l hl) a W
  have HR := Lib.hid hl
  have HRR := Lib.hid (hl.hit a)
  have HI := Lib.hid (rk_info HRR.out)
  have HLn := Lib.hid (show z16.length = (hitL l a).length by rw [HRR.out.1]; rfl)
  have hz16 : (u64V z16).size = 16 := by rw [u64V_size]; rfl
  have hX8 : (moL (h1L l) a 8).length = 8 := by rw [mo_len, h1_len l hl.1]
  have hY8 : (h2L l).length = 8 := h2_len l hl.1
  have hTW := hit_two l hl a
  have ht := two_in (moL (h1L l) a 8) (h2L l) hX8 hY8
  have hF1 := build_part0 (moL (h1L l) a 8) z16 8 hX8.symm (by rw [hX8]; decide)
  rw [hX8] at hF1
  have hS1 : (splL z16 0 (moL (h1L l) a 8) 0 8).length = 16 := by unfold splL z16; simp; omega
  have hF2 := build_part 8 (h2L l) (splL z16 0 (moL (h1L l) a 8) 0 8) 8 hY8.symm (by rw [hY8, hS1]; decide)
  rw [hY8, ht, hTW] at hF2
  have hs1 : (u64V (splL z16 0 (moL (h1L l) a 8) 0 8)).size = 16 := by rw [u64V_size, hS1]
  have hsx : (u64V (moL (h1L l) a 8)).size = 8 := by rw [u64V_size, hX8]
  have hsy : (u64V (h2L l)).size = 8 := by rw [u64V_size, hY8]
  clear hX8 hY8 hTW ht hS1 hl
  generalize hitL l a = RES at *
  generalize splL z16 0 (moL (h1L l) a 8) 0 8 = SP at *
  have B1 := Lib.hid ((blk.new w l 49).alloc (.cells (u64V z16) 49))
  have hsz : ((w.alloc (.cells (u64V l) 49)).alloc (.cells (u64V z16) 49)).heap.size = w.heap.size + 2 := by simp
  have B2 := Lib.hid (blk.new' (W := w.alloc (.cells (u64V l) 49)) (b := w.heap.size + 1) (T := 49) (l := z16) (by simp))
  have HB := Lib.hid (show Below w.heap.size w ((w.alloc (.cells (u64V l) 49)).alloc (.cells (u64V z16) 49)) from ((Below.refl _ _).alloc (Nat.le_refl _) _).alloc (by simp) _)
  have hlit := lit16
  go_enter Try.func33, Try.ntmps33
  go_wp2_with fail
  have hy1 := B1.out.lt
  have hy2 := B2.out.lt
  (refine region_later_tail 7 (by kernel_rfl) (by kernel_rfl) ?_); (intro hlat); (simp only [List.take_succ_cons, List.take_zero, List.drop_succ_cons, List.drop_zero]); (repeat ((first | (refine wpQuiet_load_part rfl 47 (.tmp 5) rfl w.heap.size 0 8 49 l (h1L l) rfl (by rfl) (later_blk B1.out) (by rw [HR.out.1]; omega) _ Try.underlying47 rfl a8_info ?_; (simp only [Act.put, List.setIfInBounds_toArray, List.set_cons_zero, List.set_cons_succ])) | (refine wpQuiet_load_part rfl 47 (.tmp 9) rfl w.heap.size 8 8 49 l (h2L l) rfl (by rfl) (later_blk B1.out) (by rw [HR.out.1]; omega) _ Try.underlying47 rfl a8_info ?_; (simp only [Act.put, List.setIfInBounds_toArray, List.set_cons_zero, List.set_cons_succ])) | go_big_quiet_step ((go_at_call 65; with_reducible exact later_call (M _)))))); (refine wpQuiet_nil ?_); (intro W1 hbW); (clear hlat)
  replace B2 := Lib.hid (B2.out.below hbW)
  replace HB := Lib.hid (chain HB.out hbW)
  clear hbW hlit
  go_wp2_with (refine wpList_store_blk rfl 49 (.tmp 4) (.tmp 11) rfl (w.heap.size + 1) 49 z16 RES (by rfl) (by rfl) B2.out HLn.out HI.out ?_)
  refine bodyPost_ret (results_blk rfl (by rfl) (B2.out.setRow RES) Try.underlying49 rfl HI.out) rfl ⟨rfl, ?_⟩
  exact below_setRow HB.out (by simp) _
set_option maxRecDepth 100000 in
set_option maxHeartbeats 4000000 in
theorem rout_c (l : List Nat) (hl : Rk l) (a : Int) (w : World) :
    Calls Try.prog 35 #[.agg (u64V l), .int .i64 a] w fun e w' => e = .returned (.agg (u64V (outL l a))) ∧ Below w.heap.size w w' := by
  have M := fun W => more_c (h2L l) (h2_len l hl.1) (h2_lt l hl) a W
  have HR := Lib.hid hl
  have HRR := Lib.hid (hl.out a)
  have HI := Lib.hid (rk_info HRR.out)
  have HLn := Lib.hid (show z16.length = (outL l a).length by rw [HRR.out.1]; rfl)
  have hz16 : (u64V z16).size = 16 := by rw [u64V_size]; rfl
  have hX8 : (h1L l).length = 8 := h1_len l hl.1
  have hY8 : (moL (h2L l) a 8).length = 8 := by rw [mo_len, h2_len l hl.1]
  have hTW := out_two l hl a
  have ht := two_in (h1L l) (moL (h2L l) a 8) hX8 hY8
  have hF1 := build_part0 (h1L l) z16 8 hX8.symm (by rw [hX8]; decide)
  rw [hX8] at hF1
  have hS1 : (splL z16 0 (h1L l) 0 8).length = 16 := by unfold splL z16; simp; omega
  have hF2 := build_part 8 (moL (h2L l) a 8) (splL z16 0 (h1L l) 0 8) 8 hY8.symm (by rw [hY8, hS1]; decide)
  rw [hY8, ht, hTW] at hF2
  have hs1 : (u64V (splL z16 0 (h1L l) 0 8)).size = 16 := by rw [u64V_size, hS1]
  have hsx : (u64V (h1L l)).size = 8 := by rw [u64V_size, hX8]
  have hsy : (u64V (moL (h2L l) a 8)).size = 8 := by rw [u64V_size, hY8]
  clear hX8 hY8 hTW ht hS1 hl
  generalize outL l a = RES at *
  generalize splL z16 0 (h1L l) 0 8 = SP at *
  have B1 := Lib.hid ((blk.new w l 49).alloc (.cells (u64V z16) 49))
  have hsz : ((w.alloc (.cells (u64V l) 49)).alloc (.cells (u64V z16) 49)).heap.size = w.heap.size + 2 := by simp
  have B2 := Lib.hid (blk.new' (W := w.alloc (.cells (u64V l) 49)) (b := w.heap.size + 1) (T := 49) (l := z16) (by simp))
  have HB := Lib.hid (show Below w.heap.size w ((w.alloc (.cells (u64V l) 49)).alloc (.cells (u64V z16) 49)) from ((Below.refl _ _).alloc (Nat.le_refl _) _).alloc (by simp) _)
  have hlit := lit16
  go_enter Try.func35, Try.ntmps35
  go_wp2_with fail
  have hy1 := B1.out.lt
  have hy2 := B2.out.lt
  (refine region_later_tail 7 (by kernel_rfl) (by kernel_rfl) ?_); (intro hlat); (simp only [List.take_succ_cons, List.take_zero, List.drop_succ_cons, List.drop_zero]); (repeat ((first | (refine wpQuiet_load_part rfl 47 (.tmp 5) rfl w.heap.size 0 8 49 l (h1L l) rfl (by rfl) (later_blk B1.out) (by rw [HR.out.1]; omega) _ Try.underlying47 rfl a8_info ?_; (simp only [Act.put, List.setIfInBounds_toArray, List.set_cons_zero, List.set_cons_succ])) | (refine wpQuiet_load_part rfl 47 (.tmp 7) rfl w.heap.size 8 8 49 l (h2L l) rfl (by rfl) (later_blk B1.out) (by rw [HR.out.1]; omega) _ Try.underlying47 rfl a8_info ?_; (simp only [Act.put, List.setIfInBounds_toArray, List.set_cons_zero, List.set_cons_succ])) | go_big_quiet_step ((go_at_call 65; with_reducible exact later_call (M _)))))); (refine wpQuiet_nil ?_); (intro W1 hbW); (clear hlat)
  replace B2 := Lib.hid (B2.out.below hbW)
  replace HB := Lib.hid (chain HB.out hbW)
  clear hbW hlit
  go_wp2_with (refine wpList_store_blk rfl 49 (.tmp 4) (.tmp 11) rfl (w.heap.size + 1) 49 z16 RES (by rfl) (by rfl) B2.out HLn.out HI.out ?_)
  refine bodyPost_ret (results_blk rfl (by rfl) (B2.out.setRow RES) Try.underlying49 rfl HI.out) rfl ⟨rfl, ?_⟩
  exact below_setRow HB.out (by simp) _
set_option maxRecDepth 100000 in
set_option maxHeartbeats 4000000 in
theorem rfade_c (l : List Nat) (hl : Rk l) (w : World) :
    Calls Try.prog 37 #[.agg (u64V l)] w fun e w' => e = .returned (.agg (u64V (fadeL l))) ∧ Below w.heap.size w w' := by
  have M := fun W => half_c (h1L l) (h1_len l hl.1) (h1_lt l hl) W
  have M2 := fun W => half_c (h2L l) (h2_len l hl.1) (h2_lt l hl) W
  have HR := Lib.hid hl
  have HRR := Lib.hid (show Rk (fadeL l) from hl.fade 8)
  have HI := Lib.hid (rk_info HRR.out)
  have HLn := Lib.hid (show z16.length = (fadeL l).length by rw [HRR.out.1]; rfl)
  have hz16 : (u64V z16).size = 16 := by rw [u64V_size]; rfl
  have hX8 : (haL (h1L l) 8).length = 8 := ha_len _ _
  have hY8 : (haL (h2L l) 8).length = 8 := ha_len _ _
  have hTW := fade_two l hl
  have ht := two_in (haL (h1L l) 8) (haL (h2L l) 8) hX8 hY8
  have hF1 := build_part0 (haL (h1L l) 8) z16 8 hX8.symm (by rw [hX8]; decide)
  rw [hX8] at hF1
  have hS1 : (splL z16 0 (haL (h1L l) 8) 0 8).length = 16 := by unfold splL z16; simp; omega
  have hF2 := build_part 8 (haL (h2L l) 8) (splL z16 0 (haL (h1L l) 8) 0 8) 8 hY8.symm (by rw [hY8, hS1]; decide)
  rw [hY8, ht, hTW] at hF2
  have hs1 : (u64V (splL z16 0 (haL (h1L l) 8) 0 8)).size = 16 := by rw [u64V_size, hS1]
  have hsx : (u64V (haL (h1L l) 8)).size = 8 := by rw [u64V_size, hX8]
  have hsy : (u64V (haL (h2L l) 8)).size = 8 := by rw [u64V_size, hY8]
  clear hX8 hY8 hTW ht hS1 hl
  generalize fadeL l = RES at *
  generalize splL z16 0 (haL (h1L l) 8) 0 8 = SP at *
  have B1 := Lib.hid ((blk.new w l 49).alloc (.cells (u64V z16) 49))
  have hsz : ((w.alloc (.cells (u64V l) 49)).alloc (.cells (u64V z16) 49)).heap.size = w.heap.size + 2 := by simp
  have B2 := Lib.hid (blk.new' (W := w.alloc (.cells (u64V l) 49)) (b := w.heap.size + 1) (T := 49) (l := z16) (by simp))
  have HB := Lib.hid (show Below w.heap.size w ((w.alloc (.cells (u64V l) 49)).alloc (.cells (u64V z16) 49)) from ((Below.refl _ _).alloc (Nat.le_refl _) _).alloc (by simp) _)
  have hlit := lit16
  go_enter Try.func37, Try.ntmps37
  go_wp2_with fail
  have hy1 := B1.out.lt
  have hy2 := B2.out.lt
  (refine region_later_tail 7 (by kernel_rfl) (by kernel_rfl) ?_); (intro hlat); (simp only [List.take_succ_cons, List.take_zero, List.drop_succ_cons, List.drop_zero]); (repeat ((first | (refine wpQuiet_load_part rfl 47 (.tmp 3) rfl w.heap.size 0 8 49 l (h1L l) rfl (by rfl) (later_blk B1.out) (by rw [HR.out.1]; omega) _ Try.underlying47 rfl a8_info ?_; (simp only [Act.put, List.setIfInBounds_toArray, List.set_cons_zero, List.set_cons_succ])) | (refine wpQuiet_load_part rfl 47 (.tmp 6) rfl w.heap.size 8 8 49 l (h2L l) rfl (by rfl) (later_blk B1.out) (by rw [HR.out.1]; omega) _ Try.underlying47 rfl a8_info ?_; (simp only [Act.put, List.setIfInBounds_toArray, List.set_cons_zero, List.set_cons_succ])) | go_big_quiet_step ((first | (go_at_call 67; with_reducible exact later_call (M _)) | (go_at_call 67; with_reducible exact later_call (M2 _))))))); (refine wpQuiet_nil ?_); (intro W1 hbW); (clear hlat)
  replace B2 := Lib.hid (B2.out.below hbW)
  replace HB := Lib.hid (chain HB.out hbW)
  clear hbW hlit
  go_wp2_with (refine wpList_store_blk rfl 49 (.tmp 2) (.tmp 9) rfl (w.heap.size + 1) 49 z16 RES (by rfl) (by rfl) B2.out HLn.out HI.out ?_)
  refine bodyPost_ret (results_blk rfl (by rfl) (B2.out.setRow RES) Try.underlying49 rfl HI.out) rfl ⟨rfl, ?_⟩
  exact below_setRow HB.out (by simp) _
end Go.Proofs.Try
