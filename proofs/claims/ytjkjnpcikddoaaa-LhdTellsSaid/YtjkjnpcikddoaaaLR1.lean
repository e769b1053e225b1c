/- The document's answers for lhd: Age, more, half. -/
import Derived.Test.YtjkjnpcikddoaaaL19a
import Derived.Test.YtjkjnpcikddoaaaBlk2
import Derived.Test.YtjkjnpcikddoaaaLhd3
import Derived.Test.YtjkjnpcikddoaaaRef4b
namespace Go.Proofs.Try
open Go.RowKit
set_option linter.unusedVariables false
set_option linter.unusedSimpArgs false
set_option maxRecDepth 100000 in
set_option maxHeartbeats 4000000 in
theorem rage_c (t : Int) (h0 : 0 ≤ t) (h1 : t < 18446744073709551616) (w : World) : Calls Try.prog 31 #[.int .u64 t] w fun e w' => e = .returned (.int .i64 (ageN t)) ∧ w = w' := by
  have HA := Lib.hid (age_eq t h0 h1)
  obtain ⟨x, rfl⟩ := Int.eq_ofNat_of_zero_le h0
  rw [Int.toNat_natCast] at HA
  go_enter Try.func31, Try.ntmps31
  go_wp2_with fail
  go_loop [0, 3] (fun s i => ∃ y m : Nat, s = .int .u64 (y : Int) ∧ i = .int .i64 (m : Int) ∧ y ≤ x ∧ m ≤ 64 ∧ Lib.bitLen x = m + Lib.bitLen y) (fun s _ => (intOf s).toNat)
  case atStart => exact ⟨x, 0, rfl, rfl, Nat.le_refl _, by omega, by omega⟩
  case round =>
    obtain ⟨y, m, rfl, rfl, hy, hm, hb⟩ := hrel
    have HB := Lib.hid hb
    clear hb
    by_cases hz : y = 0
    · subst hz
      have HE : Hid ((min (m : Int) 7) = ageN (x : Int)) := Lib.hid (by rw [← HA.out, HB.out]; rfl)
      go_wp2_with fail
      go_ret
      exact ⟨by first | rfl | (rw [HE.out]; rfl), rfl⟩
    · have hz' : (0 : Int) < (y : Int) := by omega
      have hd : decide (0 < y) = true := by simp; omega
      have HH := Lib.hid (Lib.bitLen_half y hz (by omega))
      have HL := Lib.hid (show Lib.bitLen x ≤ 64 from by
        by_cases h : x = 0
        · omega
        · have := (Lib.bitLenAux_bounds 64 x (by omega) h).2.1
          by_cases g : Lib.bitLenAux 64 x ≤ 64
          · exact g
          · have h2 : 2 ^ 64 ≤ 2 ^ (Lib.bitLenAux 64 x - 1) := Nat.pow_le_pow_right (by omega) (by omega)
            omega)
      have HM := Lib.hid (show m + 1 ≤ 64 by have := HB.out; have := HH.out; have := HL.out; omega)
      have HMo := Lib.hid (show Lib.bitLen x = (m + 1) + Lib.bitLen (y / 2) by have := HB.out; have := HH.out; omega)
      go_wp2_with fail
      go_round
      case rel => exact ⟨y / 2, m + 1, by first | rfl | go_num, by go_num, by omega, HM.out, HMo.out⟩
      case measure => first | (simp [intOf]; done) | (simp [intOf]; omega)
/-- One more of eight, once place k has been looked at. -/
def moL (l : List Nat) (a : Int) (k : Nat) : List Nat := if 0 ≤ a ∧ a < k then l.set a.toNat (hAdd (l.getD a.toNat 0) 1) else l
theorem mo_len (l : List Nat) (a : Int) (k : Nat) : (moL l a k).length = l.length := by unfold moL; split <;> simp
theorem mo_at (l : List Nat) (hl : l.length = 8) (a : Int) (k j : Nat) (hk : k ≤ 8) : (moL l a k).getD j 0 = if (j : Int) = a ∧ j < k then hAdd (l.getD j 0) 1 else l.getD j 0 := by
  unfold moL
  by_cases h : 0 ≤ a ∧ a < k
  · rw [if_pos h, getD_set' _ _ _ _ (by omega)]
    by_cases e : j = a.toNat
    · rw [if_pos e, if_pos (by omega), e]
    · rw [if_neg e, if_neg (by omega)]
  · rw [if_neg h, if_neg (by omega)]
theorem mo_hit (l : List Nat) (hl : l.length = 8) (k : Nat) (hk : k < 8) : (moL l (k : Int) k).set k (hAdd (l.getD k 0) 1) = moL l (k : Int) (k + 1) := by
  unfold moL
  rw [if_neg (by omega), if_pos (by omega), Int.toNat_natCast]
theorem mo_skip (l : List Nat) (a : Int) (k : Nat) (h : (k : Int) ≠ a) : moL l a k = moL l a (k + 1) := by
  unfold moL
  by_cases c : 0 ≤ a ∧ a < k
  · rw [if_pos c, if_pos (by omega)]
  · rw [if_neg c, if_neg (by omega)]
set_option maxRecDepth 100000 in
set_option maxHeartbeats 4000000 in
theorem more_c (l : List Nat) (hl : l.length = 8) (hb : ∀ k, l.getD k 0 < 18446744073709551616) (a : Int) (w : World) :
    Calls Try.prog 65 #[.agg (u64V l), .int .i64 a] w fun e w' => e = .returned (.agg (u64V (moL l a 8))) ∧ Below w.heap.size w w' := by
  have HBd := Lib.hid hb
  have HLn := Lib.hid hl
  have H8 := a8_info
  have HI := Lib.hid (show (Try.prog.info? 47).map (·.size) = some (moL l a 8).length by rw [mo_len, hl]; exact a8_info)
  have HZ := Lib.hid (show z8.length = (moL l a 8).length by rw [mo_len, hl]; rfl)
  have H0 := Lib.hid (show moL l a 0 = l by unfold moL; rw [if_neg (by omega)])
  clear hb hl H8
  have hlit := lit8
  go_enter Try.func65, Try.ntmps65
  go_wp2_with fail
  go_loopw [5] (fun i wr => ∃ k : Nat, k ≤ 8 ∧ i = .int .i64 k ∧ Hid (blk wr w.heap.size 47 (moL l a k)) ∧ Hid (blk wr (w.heap.size + 1) 47 z8) ∧ Below w.heap.size w wr) (fun i _ => 8 - (intOf i).toNat)
  case atStart => exact ⟨0, by omega, rfl, Lib.hid (by rw [H0.out]; exact (blk.new w l _).alloc _), Lib.hid (blk.new' (by simp)), by (repeat' (first | (with_reducible exact Below.refl _ _) | (with_reducible assumption) | (with_reducible refine Below.alloc ?_ ?_ _) | (with_reducible refine Below.drew ?_) | (with_reducible refine Below_drewN ?_ _) | (with_reducible refine Below.setCell ?_ ?_ _) | (refine Below.step (B' := ?_) (b := ?_) ?_ ?_ ?_; rotate_left 2; (with_reducible assumption)) | go_size))⟩
  case round =>
    obtain ⟨k, hk, rfl, B1, B2, hb⟩ := hrel
    have y1 := B1.out.lt
    have y2 := B2.out.lt
    have HB := Lib.hid hb
    clear hb hlit
    by_cases hlt : k < 8
    · have hlt' : (k : Int) < 8 := by omega
      by_cases he : (k : Int) = a
      · subst he
        have q : ((k : Int) == (k : Int)) = true := by simp
        have c0 := B1.out.cell (k := k) (by rw [mo_len, HLn.out]; omega)
        rw [mo_at l HLn.out _ k k (by omega), if_neg (by omega)] at c0
        have f0 := B1.out.frozen k
        have hA := radd_c ((l.getD k 0 : Nat) : Int) 1 (by omega) (by omega) (by have := HBd.out k; omega) (by omega)
        rw [show (1 : Int) = ((1 : Nat) : Int) from rfl, wAdd_nat, show ((1 : Nat) : Int) = 1 from rfl] at hA
        have HM := Lib.hid (mo_hit l HLn.out k hlt)
        have HS := Lib.hid (B1.out.set k (hAdd (l.getD k 0) 1))
        have HS2 := Lib.hid (B2.out.other (a := ⟨w.heap.size, k, none⟩) (by simp) (.int .u64 ((hAdd (l.getD k 0) 1 : Nat) : Int)))
        have HBS := Lib.hid (show Below w.heap.size w (wr.setCell ⟨w.heap.size, k, none⟩ (.int .u64 ((hAdd (l.getD k 0) 1 : Nat) : Int))) from HB.out.setCell (by simp) _)
        generalize hAdd (l.getD k 0) 1 = n1 at *
        generalize l.getD k 0 = n0 at *
        go_wp2_with fail
        with_reducible refine (hA _).mono ?_
        rintro e w' ⟨rfl, rfl⟩
        go_wp2_with fail
        go_roundw
        case rel => exact ⟨k + 1, by omega, by go_num, Lib.hid (by rw [← HM.out]; exact HS.out), HS2, HBS.out⟩
        case measure => first | (simp [intOf]; done) | (simp [intOf]; omega)
      · have q : ((k : Int) == a) = false := by rw [beq_eq_false_iff_ne]; exact he
        have HM := Lib.hid (mo_skip l a k he)
        clear he
        go_wp2_with fail
        go_roundw
        case rel => exact ⟨k + 1, by omega, by go_num, Lib.hid (by rw [← HM.out]; exact B1.out), B2, HB.out⟩
        case measure => first | (simp [intOf]; done) | (simp [intOf]; omega)
    · obtain rfl : k = 8 := by omega
      go_wp2_with (first
        | (refine wpList_load_blk rfl 47 (.tmp 2) rfl w.heap.size 47 (moL l a 8) (by rfl) B1.out _ Try.underlying47 rfl HI.out ?_)
        | (refine wpList_store_blk rfl 47 (.tmp 4) (.tmp 19) rfl (w.heap.size + 1) 47 z8 (moL l a 8) (by rfl) (by rfl) B2.out HZ.out HI.out ?_))
      refine bodyPost_ret (results_blk rfl (by rfl) (B2.out.setRow (moL l a 8)) Try.underlying47 rfl HI.out) rfl ⟨rfl, ?_⟩
      exact below_setRow HB.out (by simp) _
/-- The first k of eight, halved. -/
def haL (l : List Nat) (k : Nat) : List Nat := (List.range 8).map fun j => if j < k then l.getD j 0 / 2 else l.getD j 0
theorem ha_len (l : List Nat) (k : Nat) : (haL l k).length = 8 := by unfold haL; simp
theorem ha_at (l : List Nat) (k j : Nat) (hj : j < 8) : (haL l k).getD j 0 = if j < k then l.getD j 0 / 2 else l.getD j 0 := by
  unfold haL
  rw [List.getD_eq_getElem?_getD, List.getElem?_map, List.getElem?_range hj]
  rfl
theorem ha_zero (l : List Nat) (hl : l.length = 8) : haL l 0 = l := ext8 _ _ (ha_len l 0) hl (fun j hj => by rw [ha_at l 0 j hj, if_neg (by omega)])
theorem ha_more (l : List Nat) (k : Nat) (hk : k < 8) : (haL l k).set k (l.getD k 0 / 2) = haL l (k + 1) := by
  refine ext8 _ _ (by simp [ha_len]) (ha_len _ _) (fun j hj => ?_)
  rw [getD_set' _ _ _ _ (by rw [ha_len]; omega), ha_at l k j hj, ha_at l (k + 1) j hj]
  by_cases h2 : j = k
  · subst h2; rw [if_pos rfl, if_pos (by omega)]
  · rw [if_neg h2]
    by_cases h3 : j < k
    · rw [if_pos h3, if_pos (by omega)]
    · rw [if_neg h3, if_neg (by omega)]
set_option maxRecDepth 100000 in
set_option maxHeartbeats 4000000 in
theorem half_c (l : List Nat) (hl : l.length = 8) (hb : ∀ k, l.getD k 0 < 18446744073709551616) (w : World) :
    Calls Try.prog 67 #[.agg (u64V l)] w fun e w' => e = .returned (.agg (u64V (haL l 8))) ∧ Below w.heap.size w w' := by
  have HBd := Lib.hid hb
  have HI := Lib.hid (show (Try.prog.info? 47).map (·.size) = some (haL l 8).length by rw [ha_len]; exact a8_info)
  have HZ := Lib.hid (show z8.length = (haL l 8).length by rw [ha_len]; rfl)
  have H0 := Lib.hid (ha_zero l hl)
  clear hb hl
  have hlit := lit8
  go_enter Try.func67, Try.ntmps67
  go_wp2_with fail
  go_loopw [3] (fun i wr => ∃ k : Nat, k ≤ 8 ∧ i = .int .i64 k ∧ Hid (blk wr w.heap.size 47 (haL l k)) ∧ Hid (blk wr (w.heap.size + 1) 47 z8) ∧ Below w.heap.size w wr) (fun i _ => 8 - (intOf i).toNat)
  case atStart => exact ⟨0, by omega, rfl, Lib.hid (by rw [H0.out]; exact (blk.new w l _).alloc _), Lib.hid (blk.new' (by simp)), by (repeat' (first | (with_reducible exact Below.refl _ _) | (with_reducible assumption) | (with_reducible refine Below.alloc ?_ ?_ _) | (with_reducible refine Below.drew ?_) | (with_reducible refine Below_drewN ?_ _) | (with_reducible refine Below.setCell ?_ ?_ _) | (refine Below.step (B' := ?_) (b := ?_) ?_ ?_ ?_; rotate_left 2; (with_reducible assumption)) | go_size))⟩
  case round =>
    obtain ⟨k, hk, rfl, B1, B2, hb⟩ := hrel
    have y1 := B1.out.lt
    have y2 := B2.out.lt
    have HB := Lib.hid hb
    clear hb hlit
    by_cases hlt : k < 8
    · have hlt' : (k : Int) < 8 := by omega
      have c0 := B1.out.cell (k := k) (by rw [ha_len]; omega)
      rw [ha_at l k k (by omega), if_neg (by omega)] at c0
      have f0 := B1.out.frozen k
      have HM := Lib.hid (ha_more l k hlt)
      have u0 := HBd.out k
      have HD := Lib.hid (show ((l.getD k 0 / 2 : Nat) : Int) = ((l.getD k 0 : Nat) : Int) / 2 by omega)
      have HS := Lib.hid (show blk (wr.setCell ⟨w.heap.size, k, none⟩ (.int .u64 (((l.getD k 0 : Nat) : Int) / 2))) w.heap.size 47 (haL l (k + 1)) by rw [← HD.out, ← HM.out]; exact B1.out.set k (l.getD k 0 / 2))
      have HS2 := Lib.hid (B2.out.other (a := ⟨w.heap.size, k, none⟩) (by simp) (.int .u64 (((l.getD k 0 : Nat) : Int) / 2)))
      have HBS := Lib.hid (show Below w.heap.size w (wr.setCell ⟨w.heap.size, k, none⟩ (.int .u64 (((l.getD k 0 : Nat) : Int) / 2))) from HB.out.setCell (by simp) _)
      generalize l.getD k 0 = n0 at *
      go_wp2_with fail
      go_roundw
      case rel => exact ⟨k + 1, by omega, by go_num, HS, HS2, HBS.out⟩
      case measure => first | (simp [intOf]; done) | (simp [intOf]; omega)
    · obtain rfl : k = 8 := by omega
      go_wp2_with (first
        | (refine wpList_load_blk rfl 47 (.tmp 1) rfl w.heap.size 47 (haL l 8) (by rfl) B1.out _ Try.underlying47 rfl HI.out ?_)
        | (refine wpList_store_blk rfl 47 (.tmp 2) (.tmp 14) rfl (w.heap.size + 1) 47 z8 (haL l 8) (by rfl) (by rfl) B2.out HZ.out HI.out ?_))
      refine bodyPost_ret (results_blk rfl (by rfl) (B2.out.setRow (haL l 8)) Try.underlying47 rfl HI.out) rfl ⟨rfl, ?_⟩
      exact below_setRow HB.out (by simp) _
end Go.Proofs.Try
