/- The walk of LhdTurns. -/
import Derived.Test.YtjkjnpcikddoaaaW19
import Derived.Test.YtjkjnpcikddoaaaLhd3
import Derived.Test.YtjkjnpcikddoaaaLater
namespace Go.Proofs.Try
open Go.RowKit
set_option linter.unusedVariables false
set_option linter.unusedSimpArgs false
def tnL (l : List Nat) (a b : Int) : List Nat := outL (hitL l a) b
theorem up_len (l : List Nat) (k : Nat) : (upL l k).length = l.length := by unfold upL; simp
theorem up_at (l : List Nat) (k j : Nat) (hk : k < l.length) : (upL l k).getD j 0 = if j = k then hAdd (l.getD k 0) 1 else l.getD j 0 := by
  unfold upL
  rw [getD_set' _ _ _ _ hk]
theorem hit_len (l : List Nat) (a : Int) : (hitL l a).length = l.length := by unfold hitL; split; exact up_len _ _; rfl
theorem out_len (l : List Nat) (a : Int) : (outL l a).length = l.length := by unfold outL; split; exact up_len _ _; rfl
theorem hit_at (l : List Nat) (hl : l.length = 16) (a : Int) (j : Nat) : (hitL l a).getD j 0 = if (j : Int) = a ∧ j < 8 then hAdd (l.getD j 0) 1 else l.getD j 0 := by
  unfold hitL
  by_cases ha : 0 ≤ a ∧ a < 8
  · rw [if_pos ha, up_at _ _ _ (by omega)]
    by_cases e : j = a.toNat
    · rw [if_pos e, if_pos (by omega), e]
    · rw [if_neg e, if_neg (by omega)]
  · rw [if_neg ha, if_neg (by omega)]
theorem out_at (l : List Nat) (hl : l.length = 16) (a : Int) (j : Nat) : (outL l a).getD j 0 = if (j : Int) = 8 + a ∧ 8 ≤ j ∧ j < 16 then hAdd (l.getD j 0) 1 else l.getD j 0 := by
  unfold outL
  by_cases ha : 0 ≤ a ∧ a < 8
  · rw [if_pos ha, up_at _ _ _ (by omega)]
    by_cases e : j = 8 + a.toNat
    · rw [if_pos e, if_pos (by omega), e]
    · rw [if_neg e, if_neg (by omega)]
  · rw [if_neg ha, if_neg (by omega)]
theorem tn_swap (l : List Nat) (hl : l.length = 16) (a b : Int) : hitL (outL l b) a = tnL l a b := by
  unfold tnL
  refine ext16 _ _ (by rw [hit_len, out_len, hl]) (by rw [out_len, hit_len, hl]) (fun j hj => ?_)
  rw [hit_at _ (by rw [out_len, hl]), out_at _ hl, out_at _ (by rw [hit_len, hl]), hit_at _ hl]
  by_cases h8 : j < 8
  · rw [if_neg (show ¬((j : Int) = 8 + b ∧ 8 ≤ j ∧ j < 16) by omega), if_neg (show ¬((j : Int) = 8 + b ∧ 8 ≤ j ∧ j < 16) by omega)]
  · rw [if_neg (show ¬((j : Int) = a ∧ j < 8) by omega), if_neg (show ¬((j : Int) = a ∧ j < 8) by omega)]
theorem Rk.tn {l : List Nat} (h : Rk l) (a b : Int) : Rk (tnL l a b) := (h.hit a).out b
theorem tn_hit (l : List Nat) (hl : Rk l) (a b : Int) (j : Nat) (hj : j < 8) : (tnL l a b).getD j 0 = l.getD j 0 + if (j : Int) = a ∧ l.getD j 0 < 18446744073709551615 then 1 else 0 := by
  unfold tnL
  rw [out_at _ (by rw [hit_len, hl.1]), hit_at _ hl.1, if_neg (by omega)]
  have := hl.2 j
  unfold hAdd
  by_cases e : (j : Int) = a
  · rw [if_pos ⟨e, hj⟩]
    by_cases e2 : l.getD j 0 < 18446744073709551615
    · rw [if_pos (by omega), if_pos ⟨e, e2⟩]
    · rw [if_neg (by omega), if_neg (by omega)]; omega
  · rw [if_neg (by omega), if_neg (by omega)]; rfl
theorem tn_out (l : List Nat) (hl : Rk l) (a b : Int) (j : Nat) (hj : j < 8) : (tnL l a b).getD (8 + j) 0 = l.getD (8 + j) 0 + if (j : Int) = b ∧ l.getD (8 + j) 0 < 18446744073709551615 then 1 else 0 := by
  unfold tnL
  rw [out_at _ (by rw [hit_len, hl.1]), hit_at _ hl.1, if_neg (show ¬(((8 + j : Nat) : Int) = a ∧ 8 + j < 8) by omega)]
  have := hl.2 (8 + j)
  unfold hAdd
  by_cases e : (j : Int) = b
  · rw [if_pos (by omega)]
    by_cases e2 : l.getD (8 + j) 0 < 18446744073709551615
    · rw [if_pos (by omega), if_pos ⟨e, e2⟩]
    · rw [if_neg (by omega), if_neg (by omega)]; omega
  · rw [if_neg (by omega), if_neg (by omega)]; rfl
set_option maxRecDepth 100000 in
set_option maxHeartbeats 4000000 in
theorem walk_LhdTurns (l : List Nat) (a b : Int) (hl : Rk l) (w1 : (Lit.int .i64 a).wf = true) (w2 : (Lit.int .i64 b).wf = true) (w : World) :
    Calls Try.prog 14 #[.agg (u64V l), .int .i64 a, .int .i64 b] w fun e w' => e = .returned (.bool true) ∧ Below w.heap.size w w' := by
  have C1 := fun w => hit_c l hl a w
  have C2 := fun w => out_c (hitL l a) (hl.hit a) b w
  rw [show outL (hitL l a) b = tnL l a b from rfl] at C2
  have C3 := fun w => out_c l hl b w
  have C4 := fun w => hit_c (outL l b) (hl.out b) a w
  rw [tn_swap l hl.1] at C4
  have HRX := Lib.hid (hl.tn a b)
  have HR := Lib.hid hl
  have HIl := Lib.hid (rk_info hl)
  have HIX := Lib.hid (rk_info (hl.tn a b))
  have HLX := Lib.hid (show z16.length = (tnL l a b).length by rw [(hl.tn a b).1]; rfl)
  have HT := Lib.hid (tn_hit l hl a b)
  have HU := Lib.hid (tn_out l hl a b)
  clear hl w1 w2
  have hE := fun W => eqR (tnL l a b) (tnL l a b) HRX.out.1 HRX.out.1 W
  simp only [decide_true] at hE
  generalize hitL l a = L1 at *
  generalize outL l b = L2 at *
  generalize tnL l a b = X at *
  have hlit := lit16
  go_enter Try.func14, Try.ntmps14
  have Br := Lib.hid (blk.new w l 49)
  have yr := Br.out.lt
  have HBW := Lib.hid ((Below.refl w.heap.size w).alloc (Nat.le_refl _) (.cells (u64V l) 49))
  go_wp2_with fail
  with_reducible refine (awake19 _).mono ?_
  rintro e w1 ⟨rfl, hb1⟩
  dsimp only
  replace HBW := Lib.hid (chain HBW.out hb1)
  replace Br := Lib.hid (Br.out.below hb1)
  replace yr := Br.out.lt
  clear hb1
  go_wp2_with (first
    | (refine wpList_load_blk rfl 49 (.tmp 3) rfl w.heap.size 49 l (by rfl) (Br.out) _ Try.underlying49 rfl HIl.out ?_))
  with_reducible refine (C1 _).mono ?_
  rintro e w2 ⟨rfl, hb2⟩
  dsimp only
  replace HBW := Lib.hid (chain HBW.out hb2)
  replace Br := Lib.hid (Br.out.below hb2)
  replace yr := Br.out.lt
  clear hb2
  go_wp2_with fail
  with_reducible refine (C2 _).mono ?_
  rintro e w3 ⟨rfl, hb3⟩
  dsimp only
  replace HBW := Lib.hid (chain HBW.out hb3)
  replace Br := Lib.hid (Br.out.below hb3)
  replace yr := Br.out.lt
  clear hb3
  go_wp2_with (first
    | (refine wpList_store_blk rfl 49 (.tmp 8) (.tmp 18) rfl w3.heap.size 49 z16 X (by rfl) (by rfl) (blk.new' rfl) HLX.out HIX.out ?_)
    | (refine wpList_load_blk rfl 49 (.tmp 3) rfl w.heap.size 49 l (by rfl) ((Br.out.alloc _).otherRow (by omega) _) _ Try.underlying49 rfl HIl.out ?_))
  obtain ⟨Vx, hV, Bx, hbv, zx⟩ := blk_var w3 z16 X 49
  rw [hV]
  clear hV
  replace HBW := Lib.hid (chain HBW.out hbv)
  replace Br := Lib.hid (Br.out.below hbv)
  replace yr := Br.out.lt
  clear hbv
  replace Bx := Lib.hid Bx
  have yx := Bx.out.lt
  with_reducible refine (C3 _).mono ?_
  rintro e w4 ⟨rfl, hb4⟩
  dsimp only
  replace HBW := Lib.hid (chain HBW.out hb4)
  replace Br := Lib.hid (Br.out.below hb4)
  replace Bx := Lib.hid (Bx.out.below hb4)
  replace yr := Br.out.lt
  replace yx := Bx.out.lt
  clear hb4
  go_wp2_with fail
  with_reducible refine (C4 _).mono ?_
  rintro e w5 ⟨rfl, hb5⟩
  dsimp only
  replace HBW := Lib.hid (chain HBW.out hb5)
  replace Br := Lib.hid (Br.out.below hb5)
  replace Bx := Lib.hid (Bx.out.below hb5)
  replace yr := Br.out.lt
  replace yx := Bx.out.lt
  clear hb5
  go_wp2_with (first
    | (refine wpList_store_blk rfl 49 (.tmp 9) (.tmp 23) rfl w5.heap.size 49 z16 X (by rfl) (by rfl) (blk.new' rfl) HLX.out HIX.out ?_))
  obtain ⟨Vy, hV, By, hbv, zy⟩ := blk_var w5 z16 X 49
  rw [hV]
  clear hV
  replace HBW := Lib.hid (chain HBW.out hbv)
  replace Br := Lib.hid (Br.out.below hbv)
  replace Bx := Lib.hid (Bx.out.below hbv)
  replace yr := Br.out.lt
  replace yx := Bx.out.lt
  clear hbv
  replace By := Lib.hid By
  have yy := By.out.lt
  clear C1 C2 C3 C4 hlit
  go_loopw [10] (fun i wr => ∃ k : Nat, k ≤ 8 ∧ i = .int .i64 k ∧ Hid (blk wr w.heap.size 49 l) ∧ Hid (blk wr w3.heap.size 49 X) ∧ Hid (blk wr w5.heap.size 49 X) ∧ Below w.heap.size w wr) (fun i _ => 8 - (intOf i).toNat)
  case atStart => exact ⟨0, by omega, rfl, Br, Bx, By, HBW.out⟩
  case round =>
    obtain ⟨k, hk, rfl, Br, Bx, By, hb⟩ := hrel
    have yr := Br.out.lt
    have yx := Bx.out.lt
    have yy := By.out.lt
    have HB := Lib.hid hb
    clear hb HBW
    by_cases hlt : k < 8
    · have hlt' : (k : Int) < 8 := by omega
      have r0 := Br.out.cell (k := k) (by rw [HR.out.1]; omega)
      have r1 := Br.out.cell (k := 8 + k) (by rw [HR.out.1]; omega)
      have x0 := Bx.out.cell (k := k) (by rw [HRX.out.1]; omega)
      have x1 := Bx.out.cell (k := 8 + k) (by rw [HRX.out.1]; omega)
      rw [HT.out k hlt] at x0
      rw [HU.out k hlt] at x1
      have u0 := HR.out.2 k
      have u1 := HR.out.2 (8 + k)
      clear hE
      generalize l.getD k 0 = n0 at *
      generalize l.getD (8 + k) 0 = n1 at *
      by_cases ea : (k : Int) = a ∧ n0 < 18446744073709551615
      · rw [if_pos ea] at x0
        obtain ⟨e1, e2⟩ := ea
        have q1 : ((k : Int) == a) = true := by rw [e1]; simp
        have q2 : decide ((n0 : Int) < 18446744073709551615) = true := by simp; omega
        rw [show ((n0 + 1 : Nat) : Int) = (n0 : Int) + 1 by omega] at x0
        clear e1
        by_cases eb : (k : Int) = b ∧ n1 < 18446744073709551615
        · rw [if_pos eb] at x1
          obtain ⟨f1, f2⟩ := eb
          have q3 : ((k : Int) == b) = true := by rw [f1]; simp
          have q4 : decide ((n1 : Int) < 18446744073709551615) = true := by simp; omega
          rw [show ((n1 + 1 : Nat) : Int) = (n1 : Int) + 1 by omega] at x1
          clear f1
          go_wp2_with fail
          go_quiet (fail)
          go_wp2_with fail
          go_roundw
          case rel => exact ⟨k + 1, by omega, by go_num, Lib.hid (Br.out.below (Below_drewN (Below.refl _ _) nq)), Lib.hid (Bx.out.below (Below_drewN (Below.refl _ _) nq)), Lib.hid (By.out.below (Below_drewN (Below.refl _ _) nq)), Below_drewN HB.out nq⟩
          case measure => first | (simp [intOf]; done) | (simp [intOf]; omega)
        · rw [if_neg eb, Nat.add_zero] at x1
          by_cases f1 : (k : Int) = b
          · have q3 : ((k : Int) == b) = true := by rw [f1]; simp
            have q4 : decide ((n1 : Int) < 18446744073709551615) = false := by simp; omega
            clear eb f1
            go_wp2_with fail
            go_quiet (fail)
            go_wp2_with fail
            go_roundw
            case rel => exact ⟨k + 1, by omega, by go_num, Lib.hid (Br.out.below (Below_drewN (Below.refl _ _) nq)), Lib.hid (Bx.out.below (Below_drewN (Below.refl _ _) nq)), Lib.hid (By.out.below (Below_drewN (Below.refl _ _) nq)), Below_drewN HB.out nq⟩
            case measure => first | (simp [intOf]; done) | (simp [intOf]; omega)
          · have q3 : ((k : Int) == b) = false := by rw [beq_eq_false_iff_ne]; exact f1
            clear eb f1
            go_wp2_with fail
            go_quiet (fail)
            go_wp2_with fail
            go_roundw
            case rel => exact ⟨k + 1, by omega, by go_num, Lib.hid (Br.out.below (Below_drewN (Below.refl _ _) nq)), Lib.hid (Bx.out.below (Below_drewN (Below.refl _ _) nq)), Lib.hid (By.out.below (Below_drewN (Below.refl _ _) nq)), Below_drewN HB.out nq⟩
            case measure => first | (simp [intOf]; done) | (simp [intOf]; omega)
      · rw [if_neg ea, Nat.add_zero] at x0
        by_cases e1 : (k : Int) = a
        · have q1 : ((k : Int) == a) = true := by rw [e1]; simp
          have q2 : decide ((n0 : Int) < 18446744073709551615) = false := by simp; omega
          clear ea e1
          by_cases eb : (k : Int) = b ∧ n1 < 18446744073709551615
          · rw [if_pos eb] at x1
            obtain ⟨f1, f2⟩ := eb
            have q3 : ((k : Int) == b) = true := by rw [f1]; simp
            have q4 : decide ((n1 : Int) < 18446744073709551615) = true := by simp; omega
            rw [show ((n1 + 1 : Nat) : Int) = (n1 : Int) + 1 by omega] at x1
            clear f1
            go_wp2_with fail
            go_quiet (fail)
            go_wp2_with fail
            go_roundw
            case rel => exact ⟨k + 1, by omega, by go_num, Lib.hid (Br.out.below (Below_drewN (Below.refl _ _) nq)), Lib.hid (Bx.out.below (Below_drewN (Below.refl _ _) nq)), Lib.hid (By.out.below (Below_drewN (Below.refl _ _) nq)), Below_drewN HB.out nq⟩
            case measure => first | (simp [intOf]; done) | (simp [intOf]; omega)
          · rw [if_neg eb, Nat.add_zero] at x1
            by_cases f1 : (k : Int) = b
            · have q3 : ((k : Int) == b) = true := by rw [f1]; simp
              have q4 : decide ((n1 : Int) < 18446744073709551615) = false := by simp; omega
              clear eb f1
              go_wp2_with fail
              go_quiet (fail)
              go_wp2_with fail
              go_roundw
              case rel => exact ⟨k + 1, by omega, by go_num, Lib.hid (Br.out.below (Below_drewN (Below.refl _ _) nq)), Lib.hid (Bx.out.below (Below_drewN (Below.refl _ _) nq)), Lib.hid (By.out.below (Below_drewN (Below.refl _ _) nq)), Below_drewN HB.out nq⟩
              case measure => first | (simp [intOf]; done) | (simp [intOf]; omega)
            · have q3 : ((k : Int) == b) = false := by rw [beq_eq_false_iff_ne]; exact f1
              clear eb f1
              go_wp2_with fail
              go_quiet (fail)
              go_wp2_with fail
              go_roundw
              case rel => exact ⟨k + 1, by omega, by go_num, Lib.hid (Br.out.below (Below_drewN (Below.refl _ _) nq)), Lib.hid (Bx.out.below (Below_drewN (Below.refl _ _) nq)), Lib.hid (By.out.below (Below_drewN (Below.refl _ _) nq)), Below_drewN HB.out nq⟩
              case measure => first | (simp [intOf]; done) | (simp [intOf]; omega)
        · have q1 : ((k : Int) == a) = false := by rw [beq_eq_false_iff_ne]; exact e1
          clear ea e1
          by_cases eb : (k : Int) = b ∧ n1 < 18446744073709551615
          · rw [if_pos eb] at x1
            obtain ⟨f1, f2⟩ := eb
            have q3 : ((k : Int) == b) = true := by rw [f1]; simp
            have q4 : decide ((n1 : Int) < 18446744073709551615) = true := by simp; omega
            rw [show ((n1 + 1 : Nat) : Int) = (n1 : Int) + 1 by omega] at x1
            clear f1
            go_wp2_with fail
            go_quiet (fail)
            go_wp2_with fail
            go_roundw
            case rel => exact ⟨k + 1, by omega, by go_num, Lib.hid (Br.out.below (Below_drewN (Below.refl _ _) nq)), Lib.hid (Bx.out.below (Below_drewN (Below.refl _ _) nq)), Lib.hid (By.out.below (Below_drewN (Below.refl _ _) nq)), Below_drewN HB.out nq⟩
            case measure => first | (simp [intOf]; done) | (simp [intOf]; omega)
          · rw [if_neg eb, Nat.add_zero] at x1
            by_cases f1 : (k : Int) = b
            · have q3 : ((k : Int) == b) = true := by rw [f1]; simp
              have q4 : decide ((n1 : Int) < 18446744073709551615) = false := by simp; omega
              clear eb f1
              go_wp2_with fail
              go_quiet (fail)
              go_wp2_with fail
              go_roundw
              case rel => exact ⟨k + 1, by omega, by go_num, Lib.hid (Br.out.below (Below_drewN (Below.refl _ _) nq)), Lib.hid (Bx.out.below (Below_drewN (Below.refl _ _) nq)), Lib.hid (By.out.below (Below_drewN (Below.refl _ _) nq)), Below_drewN HB.out nq⟩
              case measure => first | (simp [intOf]; done) | (simp [intOf]; omega)
            · have q3 : ((k : Int) == b) = false := by rw [beq_eq_false_iff_ne]; exact f1
              clear eb f1
              go_wp2_with fail
              go_quiet (fail)
              go_wp2_with fail
              go_roundw
              case rel => exact ⟨k + 1, by omega, by go_num, Lib.hid (Br.out.below (Below_drewN (Below.refl _ _) nq)), Lib.hid (Bx.out.below (Below_drewN (Below.refl _ _) nq)), Lib.hid (By.out.below (Below_drewN (Below.refl _ _) nq)), Below_drewN HB.out nq⟩
              case measure => first | (simp [intOf]; done) | (simp [intOf]; omega)
    · obtain rfl : k = 8 := by omega
      go_wp2_with (first
        | (refine wpList_unguard (by rfl) ?_; refine wpList_load_blk rfl 49 (.tmp 8) rfl w3.heap.size 49 X (by rfl) (Bx.out) _ Try.underlying49 rfl HIX.out ?_)
        | (refine wpList_unguard (by rfl) ?_; refine wpList_load_blk rfl 49 (.tmp 9) rfl w5.heap.size 49 X (by rfl) (By.out) _ Try.underlying49 rfl HIX.out ?_))
      go_ret
      exact ⟨rfl, HB.out⟩
end Go.Proofs.Try
