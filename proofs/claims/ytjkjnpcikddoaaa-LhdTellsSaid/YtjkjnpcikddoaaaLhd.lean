/- lhd: Age, Hit, Out. -/
import Derived.Test.YtjkjnpcikddoaaaBlk
import Derived.Test.YtjkjnpcikddoaaaFix3
import Derived.Test.YtjkjnpcikddoaaaShelf
namespace Go.Proofs.Try
open Go.RowKit
set_option linter.unusedVariables false
set_option linter.unusedSimpArgs false
/-- Sixteen counts: the hits, then the evictions. -/
def Rk (l : List Nat) : Prop := l.length = 16 ∧ ∀ k, l.getD k 0 < 18446744073709551616
def hAdd (a b : Nat) : Nat := if a + b < 18446744073709551616 then a + b else 18446744073709551615
theorem wAdd_nat (a b : Nat) : wAdd (a : Int) (b : Int) = ((hAdd a b : Nat) : Int) := by unfold wAdd hAdd; split <;> split <;> omega
theorem hAdd_lt (a b : Nat) (ha : a < 18446744073709551616) (hb : b < 18446744073709551616) : hAdd a b < 18446744073709551616 := by unfold hAdd; split <;> omega
/-- One more at a place. -/
def upL (l : List Nat) (k : Nat) : List Nat := l.set k (hAdd (l.getD k 0) 1)
def hitL (l : List Nat) (a : Int) : List Nat := if 0 ≤ a ∧ a < 8 then upL l a.toNat else l
def outL (l : List Nat) (a : Int) : List Nat := if 0 ≤ a ∧ a < 8 then upL l (8 + a.toNat) else l
theorem getD_set' (l : List Nat) (k j v : Nat) (hk : k < l.length) : (l.set k v).getD j 0 = if j = k then v else l.getD j 0 := by
  rw [List.getD_eq_getElem?_getD, List.getD_eq_getElem?_getD, List.getElem?_set]
  by_cases h : k = j
  · subst h; simp [hk]
  · rw [if_neg h, if_neg (fun e => h e.symm)]
theorem Rk.set {l : List Nat} (h : Rk l) (k v : Nat) (hk : k < 16) (hv : v < 18446744073709551616) : Rk (l.set k v) := by
  refine ⟨by rw [List.length_set]; exact h.1, fun j => ?_⟩
  rw [getD_set' _ _ _ _ (by rw [h.1]; exact hk)]
  split
  · exact hv
  · exact h.2 j
theorem Rk.up {l : List Nat} (h : Rk l) (k : Nat) (hk : k < 16) : Rk (upL l k) := h.set k _ hk (hAdd_lt _ _ (h.2 k) (by omega))
theorem Rk.hit {l : List Nat} (h : Rk l) (a : Int) : Rk (hitL l a) := by unfold hitL; split; exact h.up _ (by omega); exact h
theorem Rk.out {l : List Nat} (h : Rk l) (a : Int) : Rk (outL l a) := by unfold outL; split; exact h.up _ (by omega); exact h
def z16 : List Nat := [0, 0, 0, 0, 0, 0, 0, 0, 0, 0, 0, 0, 0, 0, 0, 0]
def z8 : List Nat := [0, 0, 0, 0, 0, 0, 0, 0]
theorem lit16 : (#[.int .u64 0, .int .u64 0, .int .u64 0, .int .u64 0, .int .u64 0, .int .u64 0, .int .u64 0, .int .u64 0, .int .u64 0, .int .u64 0, .int .u64 0, .int .u64 0, .int .u64 0, .int .u64 0, .int .u64 0, .int .u64 0] : Array Value) = u64V z16 := by unfold u64V; rfl
theorem lit8 : (#[.int .u64 0, .int .u64 0, .int .u64 0, .int .u64 0, .int .u64 0, .int .u64 0, .int .u64 0, .int .u64 0] : Array Value) = u64V z8 := by unfold u64V; rfl
theorem rk_z16 : Rk z16 := ⟨rfl, fun k => by
  by_cases h : k < 16
  · have : k = 0 ∨ k = 1 ∨ k = 2 ∨ k = 3 ∨ k = 4 ∨ k = 5 ∨ k = 6 ∨ k = 7 ∨ k = 8 ∨ k = 9 ∨ k = 10 ∨ k = 11 ∨ k = 12 ∨ k = 13 ∨ k = 14 ∨ k = 15 := by omega
    rcases this with rfl | rfl | rfl | rfl | rfl | rfl | rfl | rfl | rfl | rfl | rfl | rfl | rfl | rfl | rfl | rfl <;> decide
  · rw [List.getD_eq_getElem?_getD, List.getElem?_eq_none (by show 16 ≤ k; omega)]; decide⟩
theorem rk_info {l : List Nat} (h : Rk l) : (Try.prog.info? 49).map (·.size) = some l.length := by rw [h.1]; kernel_rfl
theorem counted_c (a : Int) (w : World) : Calls Try.prog 64 #[.int .i64 a] w fun e w' => e = .returned (.bool (decide (0 ≤ a ∧ a < 8))) ∧ w = w' := by
  by_cases h0 : 0 ≤ a
  · by_cases h8 : a < 8
    · rw [decide_eq_true ⟨h0, h8⟩]
      go_enter Try.func64, Try.ntmps64
      go_wp2_with fail
      go_ret
      exact ⟨rfl, rfl⟩
    · have e8 : decide (a < 8) = false := by simp; omega
      rw [decide_eq_false (fun h => h8 h.2)]
      go_enter Try.func64, Try.ntmps64
      go_wp2_with fail
      go_ret
      exact ⟨rfl, rfl⟩
  · have e0 : decide (0 ≤ a) = false := by simp; omega
    rw [decide_eq_false (fun h => h0 h.1)]
    go_enter Try.func64, Try.ntmps64
    go_wp2_with fail
    go_ret
    exact ⟨rfl, rfl⟩
theorem age_c (t : Int) (h0 : 0 ≤ t) (h1 : t < 18446744073709551616) (w : World) : Calls Try.prog 30 #[.int .u64 t] w fun e w' => e = .returned (.int .i64 (min (Lib.bitLen t.toNat : Int) 7)) ∧ w = w' := by
  go_enter Try.func30, Try.ntmps30
  go_wp2_with fail
  refine (Try.bits_Len64 t _ h0 (by omega)).mono ?_
  rintro e w' ⟨rfl, rfl⟩
  go_wp2_with fail
  go_ret
  exact ⟨rfl, rfl⟩
set_option maxRecDepth 100000 in
set_option maxHeartbeats 4000000 in
theorem hit_in (l : List Nat) (hl : Rk l) (k : Nat) (hk : k < 8) (w : World) :
    Calls Try.prog 32 #[.agg (u64V l), .int .i64 (k : Int)] w fun e w' => e = .returned (.agg (u64V (upL l k))) ∧ Below w.heap.size w w' := by
  have hC := counted_c (k : Int)
  rw [decide_eq_true ⟨by omega, by omega⟩] at hC
  have hk8 : (k : Int) < 8 := by omega
  have hA := add_c ((l.getD k 0 : Nat) : Int) 1 (by omega) (by omega) (by have := hl.2 k; omega) (by omega)
  rw [show (1 : Int) = ((1 : Nat) : Int) from rfl, wAdd_nat, show ((1 : Nat) : Int) = 1 from rfl] at hA
  have HB1 := Lib.hid ((blk.new w l 49).alloc (.cells (u64V z16) 49))
  have hc := HB1.out.cell (k := k) (by rw [hl.1]; omega)
  have hf := HB1.out.frozen k
  have hset := u64V_set l k (hAdd (l.getD k 0) 1)
  obtain ⟨L, hL⟩ : ∃ L, l.set k (hAdd (l.getD k 0) 1) = L := ⟨_, rfl⟩
  have HLL : Hid (upL l k = L) := Lib.hid hL
  rw [hL] at hset
  have hRL : Rk L := by rw [← hL]; exact hl.up k (by omega)
  have HI := Lib.hid (rk_info hRL)
  have HLn := Lib.hid (show z16.length = L.length by rw [hRL.1]; rfl)
  have HB3 := Lib.hid ((blk.new w L 49).alloc (.cells (u64V z16) 49))
  have HB4 := Lib.hid (blk.new' (W := w.alloc (.cells (u64V L) 49)) (b := w.heap.size + 1) (T := 49) (l := z16) (by simp))
  have HB5 := Lib.hid (run_loadVar_blk (P := Try.prog) _ (w.heap.size + 1) 49 49 L _ (HB4.out.setRow L) Try.underlying49 rfl HI.out)
  clear hL hRL hl HB1
  generalize l.getD k 0 = n at *
  have hlit := lit16
  go_enter Try.func32, Try.ntmps32
  go_wp2_with fail
  with_reducible refine (hC _).mono ?_
  rintro e w' ⟨rfl, rfl⟩
  go_wp2_with fail
  with_reducible refine (hA _).mono ?_
  rintro e w' ⟨rfl, rfl⟩
  go_wp2_with (first
    | (refine wpList_load_blk rfl 49 (.tmp 2) rfl w.heap.size 49 L (by rfl) HB3.out _ Try.underlying49 rfl HI.out ?_)
    | (refine wpList_store_blk rfl 49 (.tmp 4) (.tmp 15) rfl (w.heap.size + 1) 49 z16 L (by rfl) (by rfl) HB4.out HLn.out HI.out ?_))
  refine bodyPost_ret (results_blk rfl (by rfl) (HB4.out.setRow L) Try.underlying49 rfl HI.out) rfl ⟨by rw [HLL.out], ?_⟩
  exact below_setRow (((Below.refl _ _).alloc (Nat.le_refl _) _).alloc (by simp) _) (by simp) _
theorem hit_no (l : List Nat) (hl : Rk l) (a : Int) (ha : ¬(0 ≤ a ∧ a < 8)) (w : World) :
    Calls Try.prog 32 #[.agg (u64V l), .int .i64 a] w fun e w' => e = .returned (.agg (u64V l)) ∧ Below w.heap.size w w' := by
  have hC := counted_c a
  rw [decide_eq_false ha] at hC
  have HI := Lib.hid (rk_info hl)
  have HLn := Lib.hid (show z16.length = l.length by rw [hl.1]; rfl)
  have HB3 := Lib.hid ((blk.new w l 49).alloc (.cells (u64V z16) 49))
  have HB4 := Lib.hid (blk.new' (W := w.alloc (.cells (u64V l) 49)) (b := w.heap.size + 1) (T := 49) (l := z16) (by simp))
  clear hl ha
  have hlit := lit16
  go_enter Try.func32, Try.ntmps32
  go_wp2_with fail
  with_reducible refine (hC _).mono ?_
  rintro e w' ⟨rfl, rfl⟩
  go_wp2_with (first
    | (refine wpList_load_blk rfl 49 (.tmp 2) rfl w.heap.size 49 l (by rfl) HB3.out _ Try.underlying49 rfl HI.out ?_)
    | (refine wpList_store_blk rfl 49 (.tmp 4) (.tmp 15) rfl (w.heap.size + 1) 49 z16 l (by rfl) (by rfl) HB4.out HLn.out HI.out ?_))
  refine bodyPost_ret (results_blk rfl (by rfl) (HB4.out.setRow l) Try.underlying49 rfl HI.out) rfl ⟨rfl, ?_⟩
  exact below_setRow (((Below.refl _ _).alloc (Nat.le_refl _) _).alloc (by simp) _) (by simp) _
theorem hit_c (l : List Nat) (hl : Rk l) (a : Int) (w : World) :
    Calls Try.prog 32 #[.agg (u64V l), .int .i64 a] w fun e w' => e = .returned (.agg (u64V (hitL l a))) ∧ Below w.heap.size w w' := by
  by_cases ha : 0 ≤ a ∧ a < 8
  · obtain ⟨k, rfl⟩ := Int.eq_ofNat_of_zero_le ha.1
    have := hit_in l hl k (by omega) w
    unfold hitL
    rw [if_pos ha]
    simpa using this
  · unfold hitL
    rw [if_neg ha]
    exact hit_no l hl a ha w
set_option maxRecDepth 100000 in
set_option maxHeartbeats 4000000 in
theorem out_in (l : List Nat) (hl : Rk l) (k : Nat) (hk : k < 8) (w : World) :
    Calls Try.prog 34 #[.agg (u64V l), .int .i64 (k : Int)] w fun e w' => e = .returned (.agg (u64V (upL l (8 + k)))) ∧ Below w.heap.size w w' := by
  have hC := counted_c (k : Int)
  rw [decide_eq_true ⟨by omega, by omega⟩] at hC
  have hk8 : (k : Int) < 8 := by omega
  have hA := add_c ((l.getD (8 + k) 0 : Nat) : Int) 1 (by omega) (by omega) (by have := hl.2 (8 + k); omega) (by omega)
  rw [show (1 : Int) = ((1 : Nat) : Int) from rfl, wAdd_nat, show ((1 : Nat) : Int) = 1 from rfl] at hA
  have HB1 := Lib.hid ((blk.new w l 49).alloc (.cells (u64V z16) 49))
  have hc := HB1.out.cell (k := 8 + k) (by rw [hl.1]; omega)
  have hf := HB1.out.frozen (8 + k)
  have hset := u64V_set l (8 + k) (hAdd (l.getD (8 + k) 0) 1)
  obtain ⟨L, hL⟩ : ∃ L, l.set (8 + k) (hAdd (l.getD (8 + k) 0) 1) = L := ⟨_, rfl⟩
  have HLL : Hid (upL l (8 + k) = L) := Lib.hid hL
  rw [hL] at hset
  have hRL : Rk L := by rw [← hL]; exact hl.up (8 + k) (by omega)
  have HI := Lib.hid (rk_info hRL)
  have HLn := Lib.hid (show z16.length = L.length by rw [hRL.1]; rfl)
  have HB3 := Lib.hid ((blk.new w L 49).alloc (.cells (u64V z16) 49))
  have HB4 := Lib.hid (blk.new' (W := w.alloc (.cells (u64V L) 49)) (b := w.heap.size + 1) (T := 49) (l := z16) (by simp))
  have HB5 := Lib.hid (run_loadVar_blk (P := Try.prog) _ (w.heap.size + 1) 49 49 L _ (HB4.out.setRow L) Try.underlying49 rfl HI.out)
  clear hL hRL hl HB1
  generalize l.getD (8 + k) 0 = n at *
  have hlit := lit16
  go_enter Try.func34, Try.ntmps34
  go_wp2_with fail
  with_reducible refine (hC _).mono ?_
  rintro e w' ⟨rfl, rfl⟩
  go_wp2_with fail
  with_reducible refine (hA _).mono ?_
  rintro e w' ⟨rfl, rfl⟩
  go_wp2_with (first
    | (refine wpList_load_blk rfl 49 (.tmp 2) rfl w.heap.size 49 L (by rfl) HB3.out _ Try.underlying49 rfl HI.out ?_)
    | (refine wpList_store_blk rfl 49 (.tmp 4) (.tmp 15) rfl (w.heap.size + 1) 49 z16 L (by rfl) (by rfl) HB4.out HLn.out HI.out ?_))
  refine bodyPost_ret (results_blk rfl (by rfl) (HB4.out.setRow L) Try.underlying49 rfl HI.out) rfl ⟨by rw [HLL.out], ?_⟩
  exact below_setRow (((Below.refl _ _).alloc (Nat.le_refl _) _).alloc (by simp) _) (by simp) _
theorem out_no (l : List Nat) (hl : Rk l) (a : Int) (ha : ¬(0 ≤ a ∧ a < 8)) (w : World) :
    Calls Try.prog 34 #[.agg (u64V l), .int .i64 a] w fun e w' => e = .returned (.agg (u64V l)) ∧ Below w.heap.size w w' := by
  have hC := counted_c a
  rw [decide_eq_false ha] at hC
  have HI := Lib.hid (rk_info hl)
  have HLn := Lib.hid (show z16.length = l.length by rw [hl.1]; rfl)
  have HB3 := Lib.hid ((blk.new w l 49).alloc (.cells (u64V z16) 49))
  have HB4 := Lib.hid (blk.new' (W := w.alloc (.cells (u64V l) 49)) (b := w.heap.size + 1) (T := 49) (l := z16) (by simp))
  clear hl ha
  have hlit := lit16
  go_enter Try.func34, Try.ntmps34
  go_wp2_with fail
  with_reducible refine (hC _).mono ?_
  rintro e w' ⟨rfl, rfl⟩
  go_wp2_with (first
    | (refine wpList_load_blk rfl 49 (.tmp 2) rfl w.heap.size 49 l (by rfl) HB3.out _ Try.underlying49 rfl HI.out ?_)
    | (refine wpList_store_blk rfl 49 (.tmp 4) (.tmp 15) rfl (w.heap.size + 1) 49 z16 l (by rfl) (by rfl) HB4.out HLn.out HI.out ?_))
  refine bodyPost_ret (results_blk rfl (by rfl) (HB4.out.setRow l) Try.underlying49 rfl HI.out) rfl ⟨rfl, ?_⟩
  exact below_setRow (((Below.refl _ _).alloc (Nat.le_refl _) _).alloc (by simp) _) (by simp) _
theorem out_c (l : List Nat) (hl : Rk l) (a : Int) (w : World) :
    Calls Try.prog 34 #[.agg (u64V l), .int .i64 a] w fun e w' => e = .returned (.agg (u64V (outL l a))) ∧ Below w.heap.size w w' := by
  by_cases ha : 0 ≤ a ∧ a < 8
  · obtain ⟨k, rfl⟩ := Int.eq_ofNat_of_zero_le ha.1
    have := out_in l hl k (by omega) w
    unfold outL
    rw [if_pos ha]
    simpa using this
  · unfold outL
    rw [if_neg ha]
    exact out_no l hl a ha w
end Go.Proofs.Try
