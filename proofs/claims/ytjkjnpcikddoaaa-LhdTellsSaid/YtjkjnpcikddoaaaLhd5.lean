/- lhd.Density: the walk. -/
import Derived.Test.YtjkjnpcikddoaaaLhd4
namespace Go.Proofs.Try
open Go.RowKit
set_option linter.unusedVariables false
set_option linter.unusedSimpArgs false
set_option maxRecDepth 100000 in
set_option maxHeartbeats 4000000 in
theorem dens_in (l : List Nat) (hl : Rk l) (a : Nat) (ha : a < 8) (R : Int) (hR : (if bhL l a = z16 then 4294967296 else dnN (bhL l a)) = R) (w : World) :
    Calls Try.prog 38 #[.agg (u64V l), .int .i64 (a : Int)] w fun e w' => e = .returned (.int .u64 R) ∧ Below w.heap.size w w' := by
  have HR := Lib.hid hR
  clear hR
  have hC := counted_c (a : Int)
  rw [decide_eq_true ⟨by omega, by omega⟩] at hC
  have ha8 : (a : Int) < 8 := by omega
  have ha0 : (0 : Int) ≤ (a : Int) := by omega
  have ha8' : (a : Int) ≤ 8 := by omega
  have hna : (8 = a) = False := by simp; omega
  have HX1 := Lib.hid (show a + (8 - a) ≤ z16.length by show _ ≤ 16; omega)
  have HX2 := Lib.hid (show a + (8 - a) ≤ l.length by rw [hl.1]; omega)
  have HX3 := Lib.hid (show 8 + a + (8 - a) ≤ (splL z16 a l a (8 - a)).length by unfold splL z16; simp; rw [hl.1]; omega)
  have HX4 := Lib.hid (show 8 + a + (8 - a) ≤ l.length by rw [hl.1]; omega)
  have HI64 := Lib.hid (show (Try.prog.info? 23).map (·.size) = some 1 by kernel_rfl)
  have hlit := lit16
  have hE := fun W => eqR (bhL l a) z16 (bh_len l a hl.1 ha) rfl W
  have HB1 := Lib.hid (show blk ((w.alloc (.cells (u64V l) 49)).alloc (.cells (u64V z16) 49)).drew w.heap.size 49 l from (blk.new w l _).alloc _)
  have HB2 := Lib.hid (show blk ((w.alloc (.cells (u64V l) 49)).alloc (.cells (u64V z16) 49)).drew (w.heap.size + 1) 49 z16 from blk.new' (by simp))
  have HB3 := Lib.hid (show blk ((((w.alloc (.cells (u64V l) 49)).alloc (.cells (u64V z16) 49)).drew).setRow (w.heap.size + 1) (u64V (splL z16 a l a (8 - a)))).drew w.heap.size 49 l from HB1.out.otherRow (by simp) _)
  have HB4 := Lib.hid (show blk ((((w.alloc (.cells (u64V l) 49)).alloc (.cells (u64V z16) 49)).drew).setRow (w.heap.size + 1) (u64V (splL z16 a l a (8 - a)))).drew (w.heap.size + 1) 49 (splL z16 a l a (8 - a)) from HB2.out.setRow _)
  go_enter Try.func38, Try.ntmps38
  go_wp2_with fail
  with_reducible refine (hC _).mono ?_
  rintro e w' ⟨rfl, rfl⟩
  go_wp2_with fail
  go_region_law (refine step_copy_blk rfl (.tmp 16) (.tmp 19) 25 25 rfl 23 Try.underlying25 HI64.out (w.heap.size + 1) w.heap.size a a (8 - a) (8 - a) (8 - a) (by rfl) (by rfl) 49 49 z16 l HB2.out HB1.out HX1.out HX2.out ?_)
  go_wp2_with fail
  go_region_law (refine step_copy_blk rfl (.tmp 23) (.tmp 26) 25 25 rfl 23 Try.underlying25 HI64.out (w.heap.size + 1) w.heap.size (8 + a) (8 + a) (8 - a) (8 - a) (8 - a) (by rfl) (by rfl) 49 49 (splL z16 a l a (8 - a)) l HB4.out HB3.out HX3.out HX4.out ?_)
  obtain ⟨V, hV⟩ : ∃ V, ((((w.alloc (.cells (u64V l) 49)).alloc (.cells (u64V z16) 49)).drew.setRow (w.heap.size + 1) (u64V (splL z16 a l a (8 - a)))).drew.setRow (w.heap.size + 1) (u64V (splL (splL z16 a l a (8 - a)) (8 + a) l (8 + a) (8 - a)))) = V := ⟨_, rfl⟩
  have HBV : Hid (blk V (w.heap.size + 1) 49 (bhL l a)) := Lib.hid (by rw [← hV]; exact HB4.out.setRow (splL (splL z16 a l a (8 - a)) (8 + a) l (8 + a) (8 - a)))
  have HVB : Hid (Below w.heap.size w V) := Lib.hid (by rw [← hV]; exact below_setRow (below_setRow (((Below.refl _ _).alloc (Nat.le_refl _) _).alloc (by simp) _).drew (by simp) _).drew (by simp) _)
  rw [hV]
  have hVs := HBV.out.lt
  have HRB := Lib.hid (hl.bh a ha)
  clear hV HB1 HB2 HB3 HB4 HX1 HX2 HX3 HX4 hC hl
  generalize bhL l a = B at *
  by_cases hb0 : B = z16
  · have HR2 : Hid (R = 4294967296) := Lib.hid (by have := HR.out; rw [if_pos hb0] at this; exact this.symm)
    rw [decide_eq_true hb0] at hE
    have HIB := Lib.hid (rk_info HRB.out)
    clear hb0 HR
    go_wp2_with (refine wpList_load_blk rfl 49 (.tmp 5) rfl (w.heap.size + 1) 49 B (by rfl) HBV.out _ Try.underlying49 rfl HIB.out ?_)
    go_ret
    exact ⟨by rw [HR2.out]; rfl, HVB.out⟩
  · have HR2 : Hid (R = dnN B) := Lib.hid (by have := HR.out; rw [if_neg hb0] at this; exact this.symm)
    rw [decide_eq_false hb0] at hE
    have HIB := Lib.hid (rk_info HRB.out)
    have hlit8 := lit8
    clear hb0 HR
    go_wp2_with (refine wpList_load_blk rfl 49 (.tmp 5) rfl (w.heap.size + 1) 49 B (by rfl) HBV.out _ Try.underlying49 rfl HIB.out ?_)
    clear hE hlit hlit8 hna
    have hsz := HVB.out.size
    go_loopw [31] (fun i wr => ∃ k : Nat, k ≤ 8 ∧ i = .int .i64 k ∧ Hid (blk wr (w.heap.size + 1) 49 B) ∧ Hid (blk wr V.heap.size 47 (tmTo B k)) ∧ Below w.heap.size w wr) (fun i _ => 8 - (intOf i).toNat)
    case atStart => exact ⟨0, by omega, rfl, Lib.hid (HBV.out.alloc _), Lib.hid (by rw [tm_zero]; exact blk.new V z8 _), HVB.out.alloc hsz _⟩
    case round =>
      obtain ⟨k, hk, rfl, H1, H2, hb⟩ := hrel
      have hz := hb.size
      have hy := H1.out.lt
      have hy2 := H2.out.lt
      have HB := Lib.hid hb
      clear hb
      by_cases hlt : k < 8
      · have hlt' : (k : Int) < 8 := by omega
        have c0 := H1.out.cell (k := k) (by rw [HRB.out.1]; omega)
        have c1 := H1.out.cell (k := 8 + k) (by rw [HRB.out.1]; omega)
        have t0 := H2.out.cell (k := k) (by rw [tm_len]; omega)
        have f0 := H2.out.frozen k
        have u0 := HRB.out.2 k
        have u1 := HRB.out.2 (8 + k)
        have hA := add_c ((B.getD k 0 : Nat) : Int) ((B.getD (8 + k) 0 : Nat) : Int) (by omega) (by omega) (by omega) (by omega)
        rw [wAdd_nat] at hA
        have u2 := hAdd_lt _ _ u0 u1
        have hSh := shl_c ((hAdd (B.getD k 0) (B.getD (8 + k) 0) : Nat) : Int) (k : Int) (by omega) (by omega) (by omega) (by omega)
        rw [wShl_nat] at hSh
        have hw : IntKind.u64.wrap (k : Int) = (k : Int) := by rw [IntKind.wrap_u64]; omega
        have HM := Lib.hid (tm_more B k hlt)
        have H2' := Lib.hid (fun m => (show blk (wr.drewN m) V.heap.size 47 (tmTo B k) from H2.out.below (Below_drewN (Below.refl _ _) m)).set k (tmv B k))
        have H1' := Lib.hid (fun m => (H1.out.below (Below_drewN (Below.refl _ _) m)).other (a := ⟨V.heap.size, k, none⟩) (by simp; omega) (.int .u64 ((tmv B k : Nat) : Int)))
        have HTM : Hid (hShl (hAdd (B.getD k 0) (B.getD (8 + k) 0)) k = tmv B k) := Lib.hid rfl
        clear u0 u1 u2
        generalize hShl (hAdd (B.getD k 0) (B.getD (8 + k) 0)) k = X3 at *
        generalize hAdd (B.getD k 0) (B.getD (8 + k) 0) = X2 at *
        generalize B.getD k 0 = X0 at *
        generalize B.getD (8 + k) 0 = X1 at *
        generalize (tmTo B k).getD k 0 = Y0 at *
        go_wp2_with fail
        go_quiet ((go_at_call 48; exact quiet_left (hA _)))
        go_wp2_with fail
        with_reducible refine (hSh _).mono ?_
        rintro e w' ⟨rfl, rfl⟩
        go_wp2_with fail
        go_roundw
        case rel => exact ⟨k + 1, by omega, by go_num, Lib.hid (by rw [HTM.out]; exact H1'.out nq), Lib.hid (by rw [HTM.out, ← HM.out]; exact H2'.out nq), (Below_drewN HB.out _).setCell (by omega) _⟩
        case measure => first | (simp [intOf]; done) | (simp [intOf]; omega)
      · obtain rfl : k = 8 := by omega
        have hl1 : (B.map fun (n : Nat) => (n : Int)).length = 16 := by rw [List.length_map]; exact HRB.out.1
        have hl2 : ((tmTo B 8).map fun (n : Nat) => (n : Int)).length = 8 := by rw [List.length_map, tm_len]
        have S1 := fun p : After wr => fsum_c (w.heap.size + 1) 0 8 8 (B.map fun (n : Nat) => (n : Int)) (by rw [hl1]; omega) (by omega) (fun k => by rw [map_getD]; omega) (fun k => by rw [map_getD]; have := HRB.out.2 k; omega) (later wr p)
          (fun j hj => by rw [hl1] at hj; rw [Nat.zero_add, map_getD, later_cell wr p _ _ hy]; exact H1.out.cell (by rw [HRB.out.1]; exact hj))
        have S2 := fun p : After wr => fsum_c V.heap.size 0 8 8 ((tmTo B 8).map fun (n : Nat) => (n : Int)) (by rw [hl2]; omega) (by omega) (fun k => by rw [map_getD]; omega) (fun k => by rw [map_getD]; have := tm_lt B 8 k; omega) (later wr p)
          (fun j hj => by rw [hl2] at hj; rw [Nat.zero_add, map_getD, later_cell wr p _ _ hy2]; exact H2.out.cell (by rw [tm_len]; exact hj))
        simp only [sN_nat] at S1 S2
        have u1 := hS_lt B HRB.out.2 8
        have u2 := hS_lt (tmTo B 8) (tm_lt B 8) 8
        have O1 := fof_c ((hS B 8 : Nat) : Int) ((hS (tmTo B 8) 8 : Nat) : Int) (by omega) (by omega) (by omega) (by omega)
        have HD : Hid (fl ((hS B 8 : Nat) : Int) 4294967296 ((hS (tmTo B 8) 8 : Nat) : Int) = dnN B) := Lib.hid rfl
        generalize fl ((hS B 8 : Nat) : Int) 4294967296 ((hS (tmTo B 8) 8 : Nat) : Int) = D at *
        generalize flE ((hS B 8 : Nat) : Int) 4294967296 ((hS (tmTo B 8) 8 : Nat) : Int) = DE at *
        generalize hS B 8 = X1 at *
        generalize hS (tmTo B 8) 8 = X2 at *
        clear u1 u2 hl1 hl2
        go_wp2_with fail
        (refine region_later (by kernel_rfl) (by kernel_rfl) ?_); (intro hlat); (repeat (go_big_quiet_step ((first | (go_at_call 70; with_reducible exact later_same (S1 _)) | (go_at_call 70; with_reducible exact later_same (S2 _)) | (go_at_call 69; with_reducible exact later_call (O1 _)))))); (refine wpQuiet_nil ?_); (intro W1 hbW1); (clear hlat)
        go_wp2_with fail
        go_ret
        exact ⟨by rw [HR2.out, ← HD.out]; rfl, chain HB.out hbW1⟩
theorem dens_c (l : List Nat) (hl : Rk l) (a : Int) (R : Int) (hR : densN l a = R) (w : World) :
    Calls Try.prog 38 #[.agg (u64V l), .int .i64 a] w fun e w' => e = .returned (.int .u64 R) ∧ Below w.heap.size w w' := by
  unfold densN at hR
  by_cases ha : 0 ≤ a ∧ a < 8
  · rw [if_pos ha] at hR
    obtain ⟨k, rfl⟩ := Int.eq_ofNat_of_zero_le ha.1
    exact dens_in l hl k (by omega) R (by simpa using hR) w
  · rw [if_neg ha] at hR
    subst hR
    have hC := counted_c a
    rw [decide_eq_false ha] at hC
    clear ha hl
    go_enter Try.func38, Try.ntmps38
    go_wp2_with fail
    with_reducible refine (hC _).mono ?_
    rintro e w' ⟨rfl, rfl⟩
    go_wp2_with fail
    go_ret
    exact ⟨rfl, by (repeat' (first | (with_reducible exact Below.refl _ _) | (with_reducible assumption) | (with_reducible refine Below.alloc ?_ ?_ _) | (with_reducible refine Below.drew ?_) | (with_reducible refine Below_drewN ?_ _) | (with_reducible refine Below.setCell ?_ ?_ _) | (refine Below.step (B' := ?_) (b := ?_) ?_ ?_ ?_; rotate_left 2; (with_reducible assumption)) | go_size))⟩
end Go.Proofs.Try
