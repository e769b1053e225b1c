/- The walk of LhdFades. -/
import Derived.Test.YtjkjnpcikddoaaaW19
import Derived.Test.YtjkjnpcikddoaaaLhd9
import Derived.Test.YtjkjnpcikddoaaaTailB
namespace Go.Proofs.Try
open Go.RowKit
set_option linter.unusedVariables false
set_option linter.unusedSimpArgs false
set_option maxRecDepth 100000 in
set_option maxHeartbeats 4000000 in
theorem walk_LhdFades (l : List Nat) (g : Int) (hl : Rk l) (w1 : (Lit.int .u8 g).wf = true) (w : World) :
    Calls Try.prog 13 #[.agg (u64V l), .int .u8 g] w fun e w' => e = .returned (.bool true) ∧ Below w.heap.size w w' := by
  have bg := bounds_u8 w1
  clear w1
  have HR := Lib.hid hl
  have HIl := Lib.hid (rk_info hl)
  have HLl := Lib.hid (show z16.length = l.length by rw [hl.1]; rfl)
  clear hl
  have hlit := lit16
  go_enter Try.func13, Try.ntmps13
  have Br := Lib.hid (blk.new w l 49)
  have yr := Br.out.lt
  have HBW := Lib.hid ((Below.refl w.heap.size w).alloc (Nat.le_refl _) (.cells (u64V l) 49))
  go_wp2_with fail
  with_reducible refine (awake19 _).mono ?_
  rintro e w1 ⟨rfl, hb1⟩
  dsimp only
  replace HBW := Lib.hid (chain HBW.out hb1)
  replace Br := Lib.hid (Br.out.below hb1)
  replace yr := Br.out.lt
  clear hb1
  go_wp2_with fail
  have hz1 := HBW.out.size
  go_loopw [7] (fun i wr => ∃ k : Nat, k ≤ 8 ∧ i = .int .i64 k ∧ SmTo l k ∧ Hid (blk wr w.heap.size 49 l) ∧ Hid (blk wr w1.heap.size 49 (twTo l k)) ∧ Below w.heap.size w wr) (fun i _ => 8 - (intOf i).toNat)
  case atStart => exact ⟨0, by omega, rfl, fun j _ h => by omega, Lib.hid (Br.out.alloc _), Lib.hid (by rw [tw_zero]; exact blk.new w1 z16 _), HBW.out.alloc (by omega) _⟩
  case round =>
    obtain ⟨k, hk, rfl, hsm, Br, Bt, hb⟩ := hrel
    have yr := Br.out.lt
    have yt := Bt.out.lt
    have hz := hb.size
    have HB := Lib.hid hb
    have HSM := Lib.hid hsm
    clear hb HBW hsm
    by_cases hlt : k < 8
    · have hlt' : (k : Int) < 8 := by omega
      have r0 := Br.out.cell (k := k) (by rw [HR.out.1]; omega)
      have r1 := Br.out.cell (k := 8 + k) (by rw [HR.out.1]; omega)
      have t0 := Bt.out.cell (k := k) (by rw [tw_len]; omega)
      have t1 := Bt.out.cell (k := 8 + k) (by rw [tw_len]; omega)
      have g0 := Bt.out.frozen k
      have g1 := Bt.out.frozen (8 + k)
      have u0 := HR.out.2 k
      have u1 := HR.out.2 (8 + k)
      have HMM := Lib.hid (tw_more l k hlt)
      have HS2 := Lib.hid (sm_more l k hlt HSM.out)
      generalize l.getD k 0 = n0 at *
      generalize l.getD (8 + k) 0 = n1 at *
      by_cases s0 : n0 < 1125899906842624
      · have q0 : decide (1125899906842624 ≤ (n0 : Int)) = false := by simp; omega
        by_cases s1 : n1 < 1125899906842624
        · have q1 : decide (1125899906842624 ≤ (n1 : Int)) = false := by simp; omega
          have HSET := Lib.hid (show blk ((wr.setCell ⟨w1.heap.size, k, none⟩ (.int .u64 (2 * (n0 : Int)))).setCell ⟨w1.heap.size, 8 + k, none⟩ (.int .u64 (2 * (n1 : Int)))) w1.heap.size 49 (twTo l (k + 1)) by
            rw [show 2 * (n0 : Int) = ((2 * n0 : Nat) : Int) by omega, show 2 * (n1 : Int) = ((2 * n1 : Nat) : Int) by omega, ← HMM.out]
            exact (Bt.out.set k (2 * n0)).set (8 + k) (2 * n1))
          have HSET2 := Lib.hid ((Br.out.other (a := ⟨w1.heap.size, k, none⟩) (by simp; omega) (.int .u64 (2 * (n0 : Int)))).other (a := ⟨w1.heap.size, 8 + k, none⟩) (by simp; omega) (.int .u64 (2 * (n1 : Int))))
          have HBS := Lib.hid (show Below w.heap.size w ((wr.setCell ⟨w1.heap.size, k, none⟩ (.int .u64 (2 * (n0 : Int)))).setCell ⟨w1.heap.size, 8 + k, none⟩ (.int .u64 (2 * (n1 : Int)))) from (HB.out.setCell (by simp; omega) _).setCell (by simp; omega) _)
          go_wp2_with fail
          go_roundw
          case rel => exact ⟨k + 1, by omega, by go_num, HS2.out s0 s1, HSET2, HSET, HBS.out⟩
          case measure => first | (simp [intOf]; done) | (simp [intOf]; omega)
        · have q1 : decide (1125899906842624 ≤ (n1 : Int)) = true := by simp; omega
          go_wp2_with fail
          go_ret
          exact ⟨rfl, HB.out⟩
      · have q0 : decide (1125899906842624 ≤ (n0 : Int)) = true := by simp; omega
        go_wp2_with fail
        go_ret
        exact ⟨rfl, HB.out⟩
    · obtain rfl : k = 8 := by omega
      go_wp2_with (first
        | (refine wpList_load_blk rfl 49 (.tmp 2) rfl w.heap.size 49 l (by rfl) (Br.out) _ Try.underlying49 rfl HIl.out ?_)
        | (refine wpList_store_blk rfl 49 (.tmp 9) (.tmp 48) rfl wr.heap.size 49 z16 l (by rfl) (by rfl) (blk.new' rfl) HLl.out HIl.out ?_))
      have sep1 := yr
      have sep2 := yt
      obtain ⟨Vx, hV, Bx, hbv, zx⟩ := blk_var wr z16 l 49
      rw [hV]
      clear hV
      replace HB := Lib.hid (chain HB.out hbv)
      replace Br := Lib.hid (Br.out.below hbv)
      replace Bt := Lib.hid (Bt.out.below hbv)
      replace Bx := Lib.hid Bx
      replace yr := Br.out.lt
      replace yt := Bt.out.lt
      have yx := Bx.out.lt
      have HT := Lib.hid (HR.out.tw HSM.out)
      have HE50 := Lib.hid (fade50 l HR.out HSM.out)
      have HX0 := Lib.hid (fadeN_rk l HR.out)
      obtain ⟨a, ha⟩ : ∃ a : Nat, g % 8 = (a : Int) := ⟨(g % 8).toNat, by omega⟩
      have ha8 : a < 8 := by omega
      rw [ha]
      clear ha bg hbv hz hk hlt
      have DT := fun W => dens_c (twTo l 8) HT.out (a : Int) ((dens l (a : Int) : Nat) : Int) (by rw [dens_nat, dens_tw l HR.out HSM.out a ha8]) W
      have DL := fun W => dens_c l HR.out (a : Int) ((dens l (a : Int) : Nat) : Int) (dens_nat _ _) W
      have FT := fun W => fade_c (twTo l 8) HT.out W
      rw [tw_fade l HR.out.1] at FT
      have HIT := Lib.hid (rk_info HT.out)
      have HIZ := Lib.hid (rk_info rk_z16)
      have HLX := Lib.hid (show z16.length = (twTo l 8).length by rw [tw_len]; rfl)
      clear HSM HT
      generalize dens l (a : Int) = D at *
      generalize twTo l 8 = TW at *
      obtain ⟨WA, hWA⟩ : ∃ V, V = wr := ⟨_, rfl⟩
      subst hWA
      go_loopw [10] (fun i ws => ∃ k : Nat, k ≤ 50 ∧ i = .int .i64 k ∧ Hid (blk ws w.heap.size 49 l) ∧ Hid (blk ws w1.heap.size 49 TW) ∧ Hid (blk ws WA.heap.size 49 (fadeN l k)) ∧ Below w.heap.size w ws) (fun i _ => 50 - (intOf i).toNat)
      case atStart => exact ⟨0, by omega, rfl, Br, Bt, Bx, HB.out⟩
      case round =>
        obtain ⟨k, hk, rfl, Br, Bt, Bx, hb⟩ := hrel
        replace yr := Br.out.lt
        replace yt := Bt.out.lt
        replace yx := Bx.out.lt
        replace HB := Lib.hid hb
        clear hb
        by_cases hlt : k < 50
        · have hlt' : (k : Int) < 50 := by omega
          have FK := fun W => fade_c (fadeN l k) (HX0.out k) W
          have HI1 := Lib.hid (rk_info (HX0.out k))
          have HI2 := Lib.hid (rk_info (HX0.out (k + 1)))
          have HLL := Lib.hid (show (fadeN l k).length = (fadeN l (k + 1)).length by rw [(HX0.out k).1, (HX0.out (k + 1)).1])
          rw [show fadeL (fadeN l k) = fadeN l (k + 1) from rfl] at FK
          generalize fadeN l k = Y0 at *
          have HN : Hid (fadeN l (k + 1) = fadeN l (k + 1)) := Lib.hid rfl
          generalize hY1 : fadeN l (k + 1) = Y1 at FK HI2 HLL
          have HY1 := Lib.hid hY1
          clear hY1
          go_wp2_with (refine wpList_load_blk rfl 49 (.tmp 9) rfl WA.heap.size 49 Y0 (by rfl) Bx.out _ Try.underlying49 rfl HI1.out ?_)
          with_reducible refine (FK _).mono ?_
          rintro e w2 ⟨rfl, hb2⟩
          dsimp only
          replace Br := Lib.hid (Br.out.below hb2)
          replace Bt := Lib.hid (Bt.out.below hb2)
          replace Bx := Lib.hid (Bx.out.below hb2)
          replace HB := Lib.hid (chain HB.out hb2)
          clear hb2
          replace yx := Bx.out.lt
          go_wp2_with (refine wpList_store_blk rfl 49 (.tmp 9) (.tmp 54) rfl WA.heap.size 49 Y0 Y1 (by rfl) (by rfl) Bx.out HLL.out HI2.out ?_)
          have hge := HB.out.size
          go_roundw
          case rel => exact ⟨k + 1, by omega, by go_num, Lib.hid (Br.out.otherRow (by omega) _), Lib.hid (Bt.out.otherRow (by omega) _), Lib.hid (by rw [HY1.out]; exact Bx.out.setRow Y1), below_setRow HB.out (by omega) _⟩
          case measure => first | (simp [intOf]; done) | (simp [intOf]; omega)
        · obtain rfl : k = 50 := by omega
          rw [HE50.out] at Bx
          have hEl := fun W => eqR l l HR.out.1 HR.out.1 W
          have hEz := fun W => eqR z16 z16 rk_z16.1 rk_z16.1 W
          simp only [decide_true] at hEl hEz
          clear HX0 HE50
          go_wp2_with fail
          (refine region_later (by kernel_rfl) (by kernel_rfl) ?_); (intro hlat); (try simp only [List.append]); (repeat (first | (refine wpQuiet_load_blkg 49 (.tmp 6) rfl w1.heap.size 49 TW (by rfl) (by rfl) (later_blk Bt.out) _ Try.underlying49 rfl HIT.out ?_; (simp only [Act.put, List.setIfInBounds_toArray, List.set_cons_zero, List.set_cons_succ])) | (refine wpQuiet_load_blkg 49 (.tmp 2) rfl w.heap.size 49 l (by rfl) (by rfl) (later_blk Br.out) _ Try.underlying49 rfl HIl.out ?_; (simp only [Act.put, List.setIfInBounds_toArray, List.set_cons_zero, List.set_cons_succ])) | (refine wpQuiet_load_blkg 49 (.tmp 9) rfl WA.heap.size 49 z16 (by rfl) (by rfl) (later_blk Bx.out) _ Try.underlying49 rfl HIZ.out ?_; (simp only [Act.put, List.setIfInBounds_toArray, List.set_cons_zero, List.set_cons_succ])) | go_big_quiet_step ((first | (go_at_call 36; with_reducible exact later_call (FT _)) | (go_at_call 38; with_reducible exact later_call (DT _)) | (go_at_call 38; with_reducible exact later_call (DL _)))))); (refine wpQuiet_nil ?_); (intro W1 hbW); (clear hlat)
          go_wp2_with fail
          go_ret
          exact ⟨rfl, chain HB.out hbW⟩

end Go.Proofs.Try
