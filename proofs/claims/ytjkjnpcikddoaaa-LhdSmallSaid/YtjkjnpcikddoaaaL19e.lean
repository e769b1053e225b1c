/- The walk of LhdSmall. -/
import Derived.Test.YtjkjnpcikddoaaaW19
import Derived.Test.YtjkjnpcikddoaaaLhdA
import Derived.Test.YtjkjnpcikddoaaaTailB
import Derived.Test.YtjkjnpcikddoaaaBlk2
namespace Go.Proofs.Try
open Go.RowKit
set_option linter.unusedVariables false
set_option linter.unusedSimpArgs false
set_option maxRecDepth 100000 in
set_option maxHeartbeats 4000000 in
theorem walk_LhdSmall (l : List Nat) (n g : Int) (hl : Rk l) (w1 : (Lit.int .u32 n).wf = true) (w2 : (Lit.int .u8 g).wf = true) (w : World) :
    Calls Try.prog 11 #[.agg (u64V l), .int .u32 n, .int .u8 g] w fun e w' => e = .returned (.bool true) ∧ Below w.heap.size w w' := by
  have bn := bounds_u32 w1
  have bg := bounds_u8 w2
  clear w1 w2
  have HR := Lib.hid hl
  have HIl := Lib.hid (rk_info hl)
  clear hl
  have hlit := lit16
  have HLost := Lib.hid (HR.out.lost)
  have HLI := Lib.hid (rk_info HR.out.lost)
  have HLL := Lib.hid (show z16.length = (lostL l).length by rw [HR.out.lost.1]; rfl)
  have hz16 : (u64V z16).size = 16 := by rw [u64V_size]; rfl
  have hHs : (u64V (List.take 8 (List.drop 8 l))).size = 8 := by rw [u64V_size, part_len l 8 8 (by rw [HR.out.1]; omega)]
  have hF := build_part 8 (List.take 8 (List.drop 8 l)) z16 8 (by rw [part_len l 8 8 (by rw [HR.out.1]; omega)]) (by rw [part_len l 8 8 (by rw [HR.out.1]; omega)]; decide)
  rw [show splL z16 8 (List.take 8 (List.drop 8 l)) 0 (List.take 8 (List.drop 8 l)).length = lostL l by
    unfold splL lostL
    rw [List.drop_zero, List.take_length, part_len l 8 8 (by rw [HR.out.1]; omega), show List.drop (8 + 8) z16 = [] from rfl, List.append_nil, List.take_of_length_le (show (List.drop 8 l).length ≤ 8 by rw [List.length_drop, HR.out.1]; omega)]
    rfl] at hF
  generalize hLL0 : lostL l = L0 at *
  have HL0 := Lib.hid hLL0
  clear hLL0
  go_enter Try.func11, Try.ntmps11
  have Br := Lib.hid (blk.new w l 49)
  have yr := Br.out.lt
  have HBW := Lib.hid ((Below.refl w.heap.size w).alloc (Nat.le_refl _) (.cells (u64V l) 49))
  go_wp2_with fail
  with_reducible refine (awake19 _).mono ?_
  rintro e w1 ⟨rfl, hb1⟩
  dsimp only
  replace HBW := Lib.hid (chain HBW.out hb1)
  replace Br := Lib.hid (Br.out.below hb1)
  replace yr := Br.out.lt
  clear hb1
  go_wp2_with (first
    | (refine wpList_load_part rfl 47 (.tmp 17) rfl w.heap.size 8 8 49 l (by rfl) Br.out (by rw [HR.out.1]; omega) _ Try.underlying47 rfl a8_info ?_)
    | (refine wpList_store_blk rfl 49 (.tmp 9) (.tmp 19) rfl w1.heap.size 49 z16 L0 (by rfl) (by rfl) (blk.new' rfl) HLL.out HLI.out ?_))
  obtain ⟨Vo, hV, Bo, hbv, zo⟩ := blk_var w1 z16 L0 49
  rw [hV]
  clear hV
  replace HBW := Lib.hid (chain HBW.out hbv)
  replace Br := Lib.hid (Br.out.below hbv)
  replace yr := Br.out.lt
  clear hbv
  replace Bo := Lib.hid Bo
  have yo := Bo.out.lt
  obtain ⟨k0, hk0⟩ : ∃ a : Nat, g % 8 = (a : Int) := ⟨(g % 8).toNat, by omega⟩
  have hk8 : k0 < 8 := by omega
  rw [hk0]
  clear hk0 bg hF hHs hz16
  go_loopw [10, 11] (fun s i wr => ∃ m : Nat, k0 ≤ m ∧ m ≤ 8 ∧ i = .int .i64 m ∧ s = .bool (anyO l k0 m) ∧ Hid (blk wr w.heap.size 49 l) ∧ Hid (blk wr w1.heap.size 49 L0) ∧ Below w.heap.size w wr) (fun _ i _ => 8 - (intOf i).toNat)
  case atStart => exact ⟨k0, Nat.le_refl _, by omega, rfl, by rw [anyO_start l k0 k0 (Nat.le_refl _)], Br, Bo, HBW.out⟩
  case round =>
    obtain ⟨m, hm1, hm2, rfl, rfl, Br, Bo, hb⟩ := hrel
    have yr := Br.out.lt
    have yo := Bo.out.lt
    have HBW := Lib.hid hb
    clear hb
    by_cases hlt : m < 8
    · have hlt' : (m : Int) < 8 := by omega
      have r1 := Br.out.cell (k := 8 + m) (by rw [HR.out.1]; omega)
      have HN := Lib.hid (show anyO l k0 (m + 1) = (anyO l k0 m || (decide (k0 ≤ m) && decide (0 < l.getD (8 + m) 0))) from rfl)
      rw [show decide (k0 ≤ m) = true by simp; omega] at HN
      generalize l.getD (8 + m) 0 = c at *
      cases ha : anyO l k0 m with
      | true =>
        rw [ha] at HN
        have HN2 := Lib.hid (show anyO l k0 (m + 1) = true by rw [HN.out]; rfl)
        clear ha HN
        go_wp2_with fail
        go_roundw
        case rel => exact ⟨m + 1, by omega, by omega, by go_num, by rw [HN2.out], Br, Bo, HBW.out⟩
        case measure => first | (simp [intOf]; done) | (simp [intOf]; omega)
      | false =>
        rw [ha] at HN
        clear ha
        by_cases hc : 0 < c
        · have HN2 := Lib.hid (show anyO l k0 (m + 1) = true by rw [HN.out]; simp; omega)
          have q : decide (0 < (c : Int)) = true := by simp; omega
          clear HN
          go_wp2_with fail
          go_roundw
          case rel => exact ⟨m + 1, by omega, by omega, by go_num, by rw [HN2.out], Br, Bo, HBW.out⟩
          case measure => first | (simp [intOf]; done) | (simp [intOf]; omega)
        · have HN2 := Lib.hid (show anyO l k0 (m + 1) = false by rw [HN.out]; simp; omega)
          have q : decide (0 < (c : Int)) = false := by simp; omega
          clear HN
          go_wp2_with fail
          go_roundw
          case rel => exact ⟨m + 1, by omega, by omega, by go_num, by rw [HN2.out], Br, Bo, HBW.out⟩
          case measure => first | (simp [intOf]; done) | (simp [intOf]; omega)
    · obtain rfl : m = 8 := by omega
      obtain ⟨N, rfl⟩ := Int.eq_ofNat_of_zero_le bn.1
      have hN : N < 18446744073709551616 := by omega
      obtain ⟨j0, hj0⟩ : ∃ j : Nat, (k0 : Int) % 7 = (j : Int) := ⟨k0 % 7, by omega⟩
      have hj8 : j0 < 7 := by omega
      have cz := (blk.new wr z16 49).cell (k := 0) (by decide)
      rw [show ((z16.getD 0 0 : Nat) : Int) = 0 from rfl] at cz
      have fz := (blk.new wr z16 49).frozen 0
      have HDL := Lib.hid (dens_lost l HR.out k0 hk8)
      rw [HL0.out] at HDL
      have HD1 := dens_one l HR.out k0 hk8
      have D1 := fun W => dens_c l HR.out (k0 : Int) ((dens l (k0 : Int) : Nat) : Int) (dens_nat _ _) W
      have D3 := fun W => dens_c (oneL N) (rk_one N hN) 0 4294967296 (by rw [dens_nat, show (0 : Int) = ((0 : Nat) : Int) from rfl, dens_oneL N 0 hN (by omega)]; rfl) W
      have D4 := fun W => dens_c (oneL N) (rk_one N hN) (1 + (j0 : Int)) 4294967296 (by rw [dens_nat, show 1 + (j0 : Int) = ((1 + j0 : Nat) : Int) by omega, dens_oneL N (1 + j0) hN (by omega)]; rfl) W
      have HI1 := Lib.hid (rk_info (rk_one N hN))
      have q1 : decide (((dens l (k0 : Int) : Nat) : Int) ≤ 4294967296) = true := by simp; omega
      generalize dens l (k0 : Int) = dv at *
      go_upto_region 11 with (fail)
      rw [show (u64V z16).setIfInBounds 0 (.int .u64 (N : Int)) = u64V (oneL N) from u64V_set z16 0 N]
      have Ba := Lib.hid (blk.new wr (oneL N) 49)
      have hba := (Below.refl wr.heap.size wr).alloc (Nat.le_refl _) (.cells (u64V (oneL N)) 49)
      generalize wr.alloc (.cells (u64V (oneL N)) 49) = Va at *
      replace HBW := Lib.hid (chain HBW.out hba)
      replace Br := Lib.hid (Br.out.below hba)
      replace Bo := Lib.hid (Bo.out.below hba)
      clear hba cz fz hlit
      generalize oneL N = ON at *
      replace yr := Br.out.lt
      replace yo := Bo.out.lt
      have ya := Ba.out.lt
      cases ha : anyO l k0 8 with
      | true =>
        rw [ha] at HDL
        have D2 := fun W => dens_c L0 HLost.out (k0 : Int) 0 (by rw [dens_nat, HDL.out]; rfl) W
        clear HDL ha
        try simp only [List.append]
        go_wp2_with (first
          | (refine wpList_unguard (by rfl) ?_; refine wpList_load_blk rfl 49 (.tmp 3) rfl w.heap.size 49 l (by rfl) (Br.out) _ Try.underlying49 rfl HIl.out ?_))
        with_reducible refine (D1 _).mono ?_
        rintro e w5 ⟨rfl, hb5⟩
        dsimp only
        replace HBW := Lib.hid (chain HBW.out hb5)
        replace Br := Lib.hid (Br.out.below hb5)
        replace Bo := Lib.hid (Bo.out.below hb5)
        replace Ba := Lib.hid (Ba.out.below hb5)
        replace yr := Br.out.lt
        replace yo := Bo.out.lt
        replace ya := Ba.out.lt
        clear hb5
        go_wp2_with (first
          | (refine wpList_unguard (by rfl) ?_; refine wpList_load_blk rfl 49 (.tmp 9) rfl w1.heap.size 49 L0 (by rfl) (Bo.out) _ Try.underlying49 rfl HLI.out ?_))
        with_reducible refine (D2 _).mono ?_
        rintro e w6 ⟨rfl, hb6⟩
        dsimp only
        replace HBW := Lib.hid (chain HBW.out hb6)
        replace Br := Lib.hid (Br.out.below hb6)
        replace Bo := Lib.hid (Bo.out.below hb6)
        replace Ba := Lib.hid (Ba.out.below hb6)
        replace yr := Br.out.lt
        replace yo := Bo.out.lt
        replace ya := Ba.out.lt
        clear hb6
        go_wp2_with (first
          | (refine wpList_unguard (by rfl) ?_; refine wpList_load_blk rfl 49 (.tmp 12) rfl wr.heap.size 49 ON (by rfl) (Ba.out) _ Try.underlying49 rfl HI1.out ?_))
        with_reducible refine (D3 _).mono ?_
        rintro e w7 ⟨rfl, hb7⟩
        dsimp only
        replace HBW := Lib.hid (chain HBW.out hb7)
        replace Br := Lib.hid (Br.out.below hb7)
        replace Bo := Lib.hid (Bo.out.below hb7)
        replace Ba := Lib.hid (Ba.out.below hb7)
        replace yr := Br.out.lt
        replace yo := Bo.out.lt
        replace ya := Ba.out.lt
        clear hb7
        go_wp2_with (first
          | (refine wpList_unguard (by rfl) ?_; refine wpList_load_blk rfl 49 (.tmp 12) rfl wr.heap.size 49 ON (by rfl) (Ba.out) _ Try.underlying49 rfl HI1.out ?_))
        with_reducible refine (D4 _).mono ?_
        rintro e w8 ⟨rfl, hb8⟩
        dsimp only
        replace HBW := Lib.hid (chain HBW.out hb8)
        replace Br := Lib.hid (Br.out.below hb8)
        replace Bo := Lib.hid (Bo.out.below hb8)
        replace Ba := Lib.hid (Ba.out.below hb8)
        replace yr := Br.out.lt
        replace yo := Bo.out.lt
        replace ya := Ba.out.lt
        clear hb8
        go_wp2_with fail
        go_ret
        exact ⟨rfl, HBW.out⟩
      | false =>
        rw [ha] at HDL
        have D2 := fun W => dens_c L0 HLost.out (k0 : Int) 4294967296 (by rw [dens_nat, HDL.out]; rfl) W
        clear HDL ha
        try simp only [List.append]
        go_wp2_with (first
          | (refine wpList_unguard (by rfl) ?_; refine wpList_load_blk rfl 49 (.tmp 3) rfl w.heap.size 49 l (by rfl) (Br.out) _ Try.underlying49 rfl HIl.out ?_))
        with_reducible refine (D1 _).mono ?_
        rintro e w5 ⟨rfl, hb5⟩
        dsimp only
        replace HBW := Lib.hid (chain HBW.out hb5)
        replace Br := Lib.hid (Br.out.below hb5)
        replace Bo := Lib.hid (Bo.out.below hb5)
        replace Ba := Lib.hid (Ba.out.below hb5)
        replace yr := Br.out.lt
        replace yo := Bo.out.lt
        replace ya := Ba.out.lt
        clear hb5
        go_wp2_with (first
          | (refine wpList_unguard (by rfl) ?_; refine wpList_load_blk rfl 49 (.tmp 9) rfl w1.heap.size 49 L0 (by rfl) (Bo.out) _ Try.underlying49 rfl HLI.out ?_))
        with_reducible refine (D2 _).mono ?_
        rintro e w6 ⟨rfl, hb6⟩
        dsimp only
        replace HBW := Lib.hid (chain HBW.out hb6)
        replace Br := Lib.hid (Br.out.below hb6)
        replace Bo := Lib.hid (Bo.out.below hb6)
        replace Ba := Lib.hid (Ba.out.below hb6)
        replace yr := Br.out.lt
        replace yo := Bo.out.lt
        replace ya := Ba.out.lt
        clear hb6
        go_wp2_with (first
          | (refine wpList_unguard (by rfl) ?_; refine wpList_load_blk rfl 49 (.tmp 12) rfl wr.heap.size 49 ON (by rfl) (Ba.out) _ Try.underlying49 rfl HI1.out ?_))
        with_reducible refine (D3 _).mono ?_
        rintro e w7 ⟨rfl, hb7⟩
        dsimp only
        replace HBW := Lib.hid (chain HBW.out hb7)
        replace Br := Lib.hid (Br.out.below hb7)
        replace Bo := Lib.hid (Bo.out.below hb7)
        replace Ba := Lib.hid (Ba.out.below hb7)
        replace yr := Br.out.lt
        replace yo := Bo.out.lt
        replace ya := Ba.out.lt
        clear hb7
        go_wp2_with (first
          | (refine wpList_unguard (by rfl) ?_; refine wpList_load_blk rfl 49 (.tmp 12) rfl wr.heap.size 49 ON (by rfl) (Ba.out) _ Try.underlying49 rfl HI1.out ?_))
        with_reducible refine (D4 _).mono ?_
        rintro e w8 ⟨rfl, hb8⟩
        dsimp only
        replace HBW := Lib.hid (chain HBW.out hb8)
        replace Br := Lib.hid (Br.out.below hb8)
        replace Bo := Lib.hid (Bo.out.below hb8)
        replace Ba := Lib.hid (Ba.out.below hb8)
        replace yr := Br.out.lt
        replace yo := Bo.out.lt
        replace ya := Ba.out.lt
        clear hb8
        go_wp2_with fail
        go_ret
        exact ⟨rfl, HBW.out⟩
end Go.Proofs.Try
