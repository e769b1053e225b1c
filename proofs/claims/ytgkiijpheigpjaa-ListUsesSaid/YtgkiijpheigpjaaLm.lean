/- list.New (stage 15). -/
import Derived.Test.YtgkiijpheigpjaaLn
import Derived.LoopN
namespace Go.Proofs.Try
open Go.RowKit
set_option linter.unusedVariables false
set_option linter.unusedSimpArgs false
/-- The first k are none. -/
def nzL (k : Nat) : Ls := ⟨fun j => if j < k then -1 else 0, fun j => if j < k then -1 else 0, fun _ => false, -1, -1⟩
theorem nzL_zero : { z0 with hd := -1, tl := -1 } = nzL 0 := by unfold z0 nzL; simp
theorem nzL_step (k : Nat) : ((nzL k).setNx k (-1)).setPv k (-1) = nzL (k + 1) := by
  unfold nzL Ls.setNx Ls.setPv
  simp only [Ls.mk.injEq, and_true]
  refine ⟨?_, ?_⟩
  all_goals
    funext j
    by_cases h : j = k
    · subst h; simp
    · rw [if_neg h]
      by_cases h2 : j < k
      · rw [if_pos h2, if_pos (by omega)]
      · rw [if_neg h2, if_neg (by omega)]
theorem nzL_all : lsC (nzL 64) = lsC (told []) := (lsC_eq _ _).2 ⟨fun j hj => ⟨by simp [nzL, told, nxt, hj], by simp [nzL, told, prv, hj], by simp [nzL, told]⟩, rfl, rfl⟩
theorem nz_cells (k : Nat) (hk : k < 64) : ((lsC (nzL k)).set k (.int .i64 (-1))).set (64 + k) (.int .i64 (-1)) = lsC (nzL (k + 1)) := by
  rw [lsC_setNx _ hk, lsC_setPv _ hk, nzL_step]
theorem lsC_info (x : Ls) : (Try.prog.info? 55).map (·.size) = some (lsC x).length := by rw [lsC_len]; exact list_info
set_option maxRecDepth 100000 in
set_option maxHeartbeats 4000000 in
theorem new_c (w : World) : Calls Try.prog 44 #[] w fun e w' => e = .returned (.agg (celV (lsC (told [])))) ∧ Below w.heap.size w w' := by
  have hzc := zero_cells
  have hzn := zero_new
  rw [nzL_zero] at hzn
  have hcs : (celV (lsC z0)).size = 194 := by rw [celV_size, lsC_len]
  go_enter Try.func44, Try.ntmps44
  go_wp2_with (refine wpList_store_vbk rfl 55 (.tmp 1) (.tmp 3) rfl (w.heap.size + 1) 55 (lsC z0) (lsC (nzL 0)) (by first | rfl | (simp [Act.eval]; done)) (by first | rfl | (simp [Act.eval]; done)) (by first | exact vbk.new' (by simp) | (rw [hzc]; exact vbk.new' (by simp))) (by rw [lsC_len, lsC_len]) (lsC_one _) (lsC_info _) ?_)
  have HV := Lib.hid (show vbk (((w.alloc (.cells (celV (lsC z0)) 55)).alloc (.cells (celV (lsC z0)) 55)).setRow (w.heap.size + 1) (celV (lsC (nzL 0)))) (w.heap.size + 1) 55 (lsC (nzL 0)) from (vbk.new' (by simp)).setRow _)
  have HU := Lib.hid (show vbk (((w.alloc (.cells (celV (lsC z0)) 55)).alloc (.cells (celV (lsC z0)) 55)).setRow (w.heap.size + 1) (celV (lsC (nzL 0)))) w.heap.size 55 (lsC z0) from ((vbk.new w _ _).alloc _).otherRow (by omega) _)
  have HB := Lib.hid (show Below w.heap.size w (((w.alloc (.cells (celV (lsC z0)) 55)).alloc (.cells (celV (lsC z0)) 55)).setRow (w.heap.size + 1) (celV (lsC (nzL 0)))) from below_setRow (((Below.refl _ _).alloc (Nat.le_refl _) _).alloc (by simp) _) (by omega) _)
  clear hzc hzn hcs
  go_loopw [4] (fun i wr => ∃ k : Nat, k ≤ 64 ∧ i = .int .i64 k ∧ Hid (vbk wr (w.heap.size + 1) 55 (lsC (nzL k))) ∧ Hid (vbk wr w.heap.size 55 (lsC z0)) ∧ Hid (Below w.heap.size w wr)) (fun i _ => 64 - (intOf i).toNat)
  case atStart => exact ⟨0, by omega, rfl, HV, HU, HB⟩
  case round =>
    clear HV HU HB
    obtain ⟨k, hk, rfl, H1, H2, HB⟩ := hrel
    have hy := H1.out.lt
    have hy2 := H2.out.lt
    by_cases hlt : k < 64
    · have hlt' : (k : Int) < 64 := by omega
      have c0 := H1.out.cell (k := k) (by rw [lsC_len]; omega)
      have f0 := H1.out.frozen k
      have H1a := Lib.hid (H1.out.set k (.int .i64 (-1)))
      have c1 := H1a.out.cell (k := 64 + k) (by rw [List.length_set, lsC_len]; omega)
      have f1 := H1a.out.frozen (64 + k)
      have H1b := Lib.hid (H1a.out.set (64 + k) (.int .i64 (-1)))
      have H2b := Lib.hid ((H2.out.other (a := ⟨w.heap.size + 1, k, none⟩) (by simp) (.int .i64 (-1))).other (a := ⟨w.heap.size + 1, 64 + k, none⟩) (by simp) (.int .i64 (-1)))
      have HM := Lib.hid (nz_cells k hlt)
      have HBB := Lib.hid (show Below w.heap.size w ((wr.setCell ⟨w.heap.size + 1, k, none⟩ (.int .i64 (-1))).setCell ⟨w.heap.size + 1, 64 + k, none⟩ (.int .i64 (-1))) from (HB.out.setCell (by simp) _).setCell (by simp) _)
      go_wp2_with fail
      go_roundw
      case rel => exact ⟨k + 1, by omega, by go_num, Lib.hid (by rw [← HM.out]; exact H1b.out), H2b, HBB⟩
      case measure => first | (simp [intOf]; done) | (simp [intOf]; omega)
    · obtain rfl : k = 64 := by omega
      go_wp2_with (first
        | (refine wpList_load_vbk rfl 55 (.tmp 1) rfl (w.heap.size + 1) 55 (lsC (nzL 64)) (by first | rfl | (simp [Act.eval]; done)) H1.out _ Try.underlying55 rfl (lsC_info _) ?_)
        | (refine wpList_store_vbk rfl 55 (.tmp 0) (.tmp 14) rfl w.heap.size 55 (lsC z0) (lsC (nzL 64)) (by first | rfl | (simp [Act.eval]; done)) (by first | rfl | (simp [Act.eval]; done)) H2.out (by rw [lsC_len, lsC_len]) (lsC_one _) (lsC_info _) ?_))
      refine bodyPost_ret (results_vbk rfl (by rfl) (H2.out.setRow (lsC (nzL 64))) Try.underlying55 rfl (lsC_info _)) rfl ⟨by rw [nzL_all], ?_⟩
      exact below_setRow HB.out (by omega) _
end Go.Proofs.Try
