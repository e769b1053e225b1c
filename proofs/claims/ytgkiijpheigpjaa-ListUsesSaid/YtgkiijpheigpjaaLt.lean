/- list.Of (stage 15). -/
import Derived.Test.YtgkiijpheigpjaaLr
namespace Go.Proofs.Try
open Go.RowKit
set_option linter.unusedVariables false
set_option linter.unusedSimpArgs false
/-- The error of numbers. -/
def errL (l : List Int) : Int := if isL l then 0 else 110
theorem errL_yes {l : List Int} (h : isL l) : errL l = 0 := if_pos h
theorem errL_no {l : List Int} (h : ¬isL l) : errL l = 110 := if_neg h
set_option maxRecDepth 100000 in
set_option maxHeartbeats 4000000 in
theorem of_c (v : Value) (n : Nat) (l : List Int) (w : World) (h : Rows encZ 1 w v n l) :
    Calls Try.prog 33 #[v] w fun e w' => e = .returned (.tuple #[.agg (celV (lsC (laidF l))), .int .i64 (errL l)]) ∧ Below w.heap.size w w' := by
  have hzc := zero_cells
  have HH := Lib.hid h
  have LC := fun W (hb : Below w.heap.size w W) => laid_c v n l W (HH.out.below hb)
  obtain ⟨A, c, rfl, _⟩ := h
  by_cases hi : isL l
  · rw [decide_eq_true hi] at LC
    have HE := Lib.hid (errL_yes hi)
    clear hi
    go_enter Try.func33, Try.ntmps33
    go_wp2_with (first
      | (go_at_call 54; refine (LC _ (chain1 (Below.refl _ _) _)).mono ?_; rintro e w1 ⟨rfl, hb1⟩)
      | (refine wpList_store_vbk rfl 55 (.tmp 4) (.tmp 9) rfl w1.heap.size 55 (lsC z0) (lsC (laidF l)) (by first | rfl | (simp [Act.eval]; done)) (by first | rfl | (simp [Act.eval]; done)) (by first | exact vbk.new' (by simp) | (rw [hzc]; exact vbk.new' (by simp))) (by rw [lsC_len, lsC_len]) (lsC_one _) (lsC_info _) ?_)
      | (refine wpList_load_vbk rfl 55 (.tmp 4) rfl w1.heap.size 55 (lsC (laidF l)) (by first | rfl | (simp [Act.eval]; done)) ((vbk.new' rfl).setRow _) _ Try.underlying55 rfl (lsC_info _) ?_)
      | (refine wpList_store_vbk rfl 55 (.tmp 2) (.tmp 14) rfl w.heap.size 55 (lsC z0) (lsC (laidF l)) (by first | rfl | (simp [Act.eval]; done)) (by first | rfl | (simp [Act.eval]; done)) ((((vbk.new w _ _).below hb1).alloc _).otherRow (by have := hb1.size; simp at this; omega) _) (by rw [lsC_len, lsC_len]) (lsC_one _) (lsC_info _) ?_))
    refine bodyPost_ret (results_vbk2 rfl (by rfl) (v := .int .i64 0) (by first | rfl | (simp; done)) (((((vbk.new w (lsC z0) 55).below hb1).alloc _).otherRow (by have := hb1.size; simp at this; omega) _).setRow (lsC (laidF l))) Try.underlying55 rfl (lsC_info _)) rfl ⟨by rw [HE.out], ?_⟩
    have hz := hb1.size
    simp at hz
    exact below_setRow (below_setRow (chain1 (chain2 (Below.refl _ _) hb1) _) (by omega) _) (Nat.le_refl _) _
  · rw [decide_eq_false hi] at LC
    have HE := Lib.hid (errL_no hi)
    clear hi
    go_enter Try.func33, Try.ntmps33
    go_wp2_with (first
      | (go_at_call 54; refine (LC _ (chain1 (Below.refl _ _) _)).mono ?_; rintro e w1 ⟨rfl, hb1⟩)
      | (refine wpList_store_vbk rfl 55 (.tmp 4) (.tmp 9) rfl w1.heap.size 55 (lsC z0) (lsC (laidF l)) (by first | rfl | (simp [Act.eval]; done)) (by first | rfl | (simp [Act.eval]; done)) (by first | exact vbk.new' (by simp) | (rw [hzc]; exact vbk.new' (by simp))) (by rw [lsC_len, lsC_len]) (lsC_one _) (lsC_info _) ?_)
      | (refine wpList_load_vbk rfl 55 (.tmp 4) rfl w1.heap.size 55 (lsC (laidF l)) (by first | rfl | (simp [Act.eval]; done)) ((vbk.new' rfl).setRow _) _ Try.underlying55 rfl (lsC_info _) ?_)
      | (refine wpList_store_vbk rfl 55 (.tmp 2) (.tmp 13) rfl w.heap.size 55 (lsC z0) (lsC (laidF l)) (by first | rfl | (simp [Act.eval]; done)) (by first | rfl | (simp [Act.eval]; done)) ((((vbk.new w _ _).below hb1).alloc _).otherRow (by have := hb1.size; simp at this; omega) _) (by rw [lsC_len, lsC_len]) (lsC_one _) (lsC_info _) ?_))
    refine bodyPost_ret (results_vbk2 rfl (by rfl) (v := .int .i64 110) (by first | rfl | (simp; done)) (((((vbk.new w (lsC z0) 55).below hb1).alloc _).otherRow (by have := hb1.size; simp at this; omega) _).setRow (lsC (laidF l))) Try.underlying55 rfl (lsC_info _)) rfl ⟨by rw [HE.out], ?_⟩
    have hz := hb1.size
    simp at hz
    exact below_setRow (below_setRow (chain1 (chain2 (Below.refl _ _) hb1) _) (by omega) _) (Nat.le_refl _) _
end Go.Proofs.Try
