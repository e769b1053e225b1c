/- lhd.Fade. -/
import Derived.Test.YtjkjnpcikddoaaaLhd
namespace Go.Proofs.Try
open Go.RowKit
set_option linter.unusedVariables false
set_option linter.unusedSimpArgs false
/-- All counts at ages below k are halved. -/
def fadeTo (l : List Nat) (k : Nat) : List Nat := (List.range 16).map fun j => if j % 8 < k then l.getD j 0 / 2 else l.getD j 0
def fadeL (l : List Nat) : List Nat := fadeTo l 8
theorem fade_len (l : List Nat) (k : Nat) : (fadeTo l k).length = 16 := by unfold fadeTo; simp
theorem fade_at (l : List Nat) (k j : Nat) (hj : j < 16) : (fadeTo l k).getD j 0 = if j % 8 < k then l.getD j 0 / 2 else l.getD j 0 := by
  unfold fadeTo
  rw [List.getD_eq_getElem?_getD, List.getElem?_map, List.getElem?_range hj]
  rfl
theorem ext16 (a b : List Nat) (ha : a.length = 16) (hb : b.length = 16) (h : ∀ j, j < 16 → a.getD j 0 = b.getD j 0) : a = b := by
  apply List.ext_getElem (by omega)
  intro i h1 h2
  have := h i (by omega)
  rwa [List.getD_eq_getElem?_getD, List.getD_eq_getElem?_getD, List.getElem?_eq_getElem h1, List.getElem?_eq_getElem h2] at this
theorem fade_zero (l : List Nat) (hl : l.length = 16) : fadeTo l 0 = l := ext16 _ _ (fade_len l 0) hl (fun j hj => by rw [fade_at l 0 j hj, if_neg (by omega)])
theorem fade_more (l : List Nat) (k : Nat) (hk : k < 8) : ((fadeTo l k).set k (l.getD k 0 / 2)).set (8 + k) (l.getD (8 + k) 0 / 2) = fadeTo l (k + 1) := by
  refine ext16 _ _ (by simp [fade_len]) (fade_len _ _) (fun j hj => ?_)
  rw [getD_set' _ _ _ _ (by rw [List.length_set, fade_len]; omega), getD_set' _ _ _ _ (by rw [fade_len]; omega), fade_at l k j hj, fade_at l (k + 1) j hj]
  by_cases h1 : j = 8 + k
  · subst h1; rw [if_pos rfl, if_pos (by omega)]
  · rw [if_neg h1]
    by_cases h2 : j = k
    · subst h2; rw [if_pos rfl, if_pos (by omega)]
    · rw [if_neg h2]
      by_cases h3 : j % 8 < k
      · rw [if_pos h3, if_pos (by omega)]
      · rw [if_neg h3, if_neg (by omega)]
theorem Rk.fade {l : List Nat} (h : Rk l) (k : Nat) : Rk (fadeTo l k) := by
  refine ⟨fade_len l k, fun j => ?_⟩
  by_cases hj : j < 16
  · rw [fade_at l k j hj]
    have := h.2 j
    split <;> omega
  · rw [List.getD_eq_getElem?_getD, List.getElem?_eq_none (by rw [fade_len]; omega)]
    simp
set_option maxRecDepth 100000 in
set_option maxHeartbeats 4000000 in
theorem fade1_c (b j n : Nat) (hn : n < 18446744073709551616) (w : World) (hc : w.cell? ⟨b, j, none⟩ = some (.int .u64 (n : Int))) (hf : w.frozen? ⟨b, j, none⟩ = false) :
    Calls Try.prog 66 #[.pointer (some ⟨b, j, none⟩)] w fun e w' => e = .returned (.tuple #[]) ∧ w.setCell ⟨b, j, none⟩ (.int .u64 ((n / 2 : Nat) : Int)) = w' := by
  have HD := Lib.hid (show ((n / 2 : Nat) : Int) = (n : Int) / 2 by omega)
  have h0 : (0 : Int) ≤ (n : Int) := by omega
  have h1 : (n : Int) < 18446744073709551616 := by omega
  go_enter Try.func66, Try.ntmps66
  go_wp2_with fail
  go_end0
  exact ⟨rfl, by rw [HD.out]⟩
set_option maxRecDepth 100000 in
set_option maxHeartbeats 4000000 in
theorem fade_c (l : List Nat) (hl : Rk l) (w : World) :
    Calls Try.prog 36 #[.agg (u64V l)] w fun e w' => e = .returned (.agg (u64V (fadeL l))) ∧ Below w.heap.size w w' := by
  have HI := Lib.hid (rk_info (hl.fade 8))
  have HLn := Lib.hid (show z16.length = (fadeTo l 8).length by rw [fade_len]; rfl)
  have HZ := Lib.hid (fade_zero l hl.1)
  have HU := Lib.hid hl.2
  clear hl
  have hlit := lit16
  go_enter Try.func36, Try.ntmps36
  go_wp2_with fail
  go_loopw [5] (fun i wr => ∃ k : Nat, k ≤ 8 ∧ i = .int .i64 k ∧ Hid (blk wr w.heap.size 49 (fadeTo l k)) ∧ Hid (blk wr (w.heap.size + 1) 49 z16) ∧ Below w.heap.size w wr) (fun i _ => 8 - (intOf i).toNat)
  case atStart => exact ⟨0, by omega, rfl, Lib.hid (by rw [HZ.out]; exact (blk.new w l _).alloc _), Lib.hid (blk.new' (by simp)), by (repeat' (first | (with_reducible exact Below.refl _ _) | (with_reducible assumption) | (with_reducible refine Below.alloc ?_ ?_ _) | (with_reducible refine Below.drew ?_) | (with_reducible refine Below_drewN ?_ _) | (with_reducible refine Below.setCell ?_ ?_ _) | (refine Below.step (B' := ?_) (b := ?_) ?_ ?_ ?_; rotate_left 2; (with_reducible assumption)) | go_size))⟩
  case round =>
    obtain ⟨k, hk, rfl, H1, H2, hb⟩ := hrel
    have hz := hb.size
    have hy := H1.out.lt
    have hy2 := H2.out.lt
    have HB := Lib.hid hb
    clear hb
    by_cases hlt : k < 8
    · have hlt' : (k : Int) < 8 := by omega
      have c0 := H1.out.cell (k := k) (by rw [fade_len]; omega)
      rw [fade_at l k k (by omega), if_neg (by omega)] at c0
      have f0 := H1.out.frozen k
      have H1a := Lib.hid (H1.out.set k (l.getD k 0 / 2))
      have c1 := H1a.out.cell (k := 8 + k) (by rw [List.length_set, fade_len]; omega)
      rw [getD_set' _ _ _ _ (by rw [fade_len]; omega), if_neg (by omega), fade_at l k (8 + k) (by omega), if_neg (by omega)] at c1
      have f1 := H1a.out.frozen (8 + k)
      have H1b := Lib.hid (H1a.out.set (8 + k) (l.getD (8 + k) 0 / 2))
      have H2b := Lib.hid ((H2.out.other (a := ⟨w.heap.size, k, none⟩) (by simp) (.int .u64 ((l.getD k 0 / 2 : Nat) : Int))).other (a := ⟨w.heap.size, 8 + k, none⟩) (by simp) (.int .u64 ((l.getD (8 + k) 0 / 2 : Nat) : Int)))
      have HM := Lib.hid (fade_more l k hlt)
      have F0 := Lib.hid (fade1_c w.heap.size k (l.getD k 0) (HU.out k) wr c0 f0)
      have F1 := Lib.hid (fade1_c w.heap.size (8 + k) (l.getD (8 + k) 0) (HU.out (8 + k)) _ c1 f1)
      have HBB := Lib.hid (show Below w.heap.size w ((wr.setCell ⟨w.heap.size, k, none⟩ (.int .u64 ((l.getD k 0 / 2 : Nat) : Int))).setCell ⟨w.heap.size, 8 + k, none⟩ (.int .u64 ((l.getD (8 + k) 0 / 2 : Nat) : Int))) from (HB.out.setCell (by simp) _).setCell (by simp) _)
      clear c0 c1 f0 f1
      go_wp2_with fail
      refine F0.out.mono ?_
      rintro e w2 ⟨rfl, rfl⟩
      go_wp2_with fail
      refine F1.out.mono ?_
      rintro e w2 ⟨rfl, rfl⟩
      go_wp2_with fail
      go_roundw
      case rel => exact ⟨k + 1, by omega, by go_num, Lib.hid (by rw [← HM.out]; exact H1b.out), H2b, HBB.out⟩
      case measure => first | (simp [intOf]; done) | (simp [intOf]; omega)
    · obtain rfl : k = 8 := by omega
      go_wp2_with (first
        | (refine wpList_load_blk rfl 49 (.tmp 1) rfl w.heap.size 49 (fadeTo l 8) (by rfl) H1.out _ Try.underlying49 rfl HI.out ?_)
        | (refine wpList_store_blk rfl 49 (.tmp 2) (.tmp 19) rfl (w.heap.size + 1) 49 z16 (fadeTo l 8) (by rfl) (by rfl) H2.out HLn.out HI.out ?_))
      refine bodyPost_ret (results_blk rfl (by rfl) (H2.out.setRow (fadeTo l 8)) Try.underlying49 rfl HI.out) rfl ⟨rfl, ?_⟩
      exact below_setRow HB.out (by simp) _
end Go.Proofs.Try
