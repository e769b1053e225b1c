/- The document's answer for lhd: Density. -/
import Derived.Test.YtjkjnpcikddoaaaLR1
import Derived.Test.YtjkjnpcikddoaaaLhd8
import Derived.Test.YtjkjnpcikddoaaaLater
namespace Go.Proofs.Try
open Go.RowKit
set_option linter.unusedVariables false
set_option linter.unusedSimpArgs false
theorem dens_zero (l : List Nat) (h : Rk l) (a : Nat) (ha : a < 8) (e : tsA l a 8 = 0) : densN l (a : Int) = 4294967296 := by
  unfold densN
  rw [if_pos (by omega), Int.toNat_natCast, if_pos ((bh_zero l h a ha).2 e)]
theorem dens_fl (l : List Nat) (h : Rk l) (a : Nat) (ha : a < 8) (e : tsA l a 8 ≠ 0) : fl ((hsA l a 8 : Nat) : Int) 4294967296 ((tsA l a 8 : Nat) : Int) = densN l (a : Int) := by
  unfold densN
  rw [if_pos (by omega), Int.toNat_natCast, if_neg (fun x => e ((bh_zero l h a ha).1 x))]
  unfold dnN
  rw [hs_bh l h a ha 8 (by omega), ts_bh l h a ha 8 (by omega)]
set_option maxRecDepth 100000 in
set_option maxHeartbeats 4000000 in
theorem rdens_in (l : List Nat) (hl : Rk l) (a : Nat) (ha : a < 8) (R : Int) (hR : densN l (a : Int) = R) (w : World) :
    Calls Try.prog 39 #[.agg (u64V l), .int .i64 (a : Int)] w fun e w' => e = .returned (.int .u64 R) ∧ Below w.heap.size w w' := by
  have HR := Lib.hid hl
  have HZ := Lib.hid (fun e => (dens_zero l hl a ha e).symm.trans hR)
  have HN := Lib.hid (fun e => (dens_fl l hl a ha e).trans hR)
  have ha0 : decide ((a : Int) < 0) = false := by simp
  have ha7 : decide (7 < (a : Int)) = false := by simp; omega
  have ha7' : ¬(7 < a) := by omega
  have B0 := Lib.hid (blk.new w l 49)
  have hc0 := B0.out.lt
  clear hl hR
  go_enter Try.func39, Try.ntmps39
  go_wp2_with fail
  go_loopw [5, 6, 7] (fun h s i wr => ∃ k : Nat, k ≤ 8 ∧ i = .int .i64 k ∧ h = .int .u64 ((hsA l a k : Nat) : Int) ∧ s = .int .u64 ((tsA l a k : Nat) : Int) ∧ Hid (blk wr w.heap.size 49 l) ∧ Below w.heap.size w wr) (fun _ _ i _ => 8 - (intOf i).toNat)
  case atStart => exact ⟨0, by omega, rfl, rfl, rfl, B0, by (repeat' (first | (with_reducible exact Below.refl _ _) | (with_reducible assumption) | (with_reducible refine Below.alloc ?_ ?_ _) | (with_reducible refine Below.drew ?_) | (with_reducible refine Below_drewN ?_ _) | (with_reducible refine Below.setCell ?_ ?_ _) | (refine Below.step (B' := ?_) (b := ?_) ?_ ?_ ?_; rotate_left 2; (with_reducible assumption)) | go_size))⟩
  case round =>
    obtain ⟨k, hk, rfl, rfl, rfl, Br, hb⟩ := hrel
    have yr := Br.out.lt
    have HB := Lib.hid hb
    clear hb ha0 ha7 ha7' hc0
    by_cases hlt : k < 8
    · have hlt' : (k : Int) < 8 := by omega
      by_cases hka : k < a
      · have q : decide ((k : Int) < (a : Int)) = true := by simp; omega
        have E1 := Lib.hid (show hsA l a k = hsA l a (k + 1) by rw [hs_succ, if_pos hka])
        have E2 := Lib.hid (show tsA l a k = tsA l a (k + 1) by rw [ts_succ, if_pos hka])
        go_wp2_with fail
        go_roundw
        case rel => exact ⟨k + 1, by omega, by go_num, by rw [← E1.out], by rw [← E2.out], Br, HB.out⟩
        case measure => first | (simp [intOf]; done) | (simp [intOf]; omega)
      · have q : decide ((k : Int) < (a : Int)) = false := by simp; omega
        have E1 := Lib.hid (show hAdd (hsA l a k) (l.getD k 0) = hsA l a (k + 1) by rw [hs_succ, if_neg hka])
        have E2 := Lib.hid (show hAdd (tsA l a k) (hShl (hAdd (l.getD k 0) (l.getD (8 + k) 0)) k) = tsA l a (k + 1) by rw [ts_succ, if_neg hka])
        have c0 := Br.out.cell (k := k) (by rw [HR.out.1]; omega)
        have c1 := Br.out.cell (k := 8 + k) (by rw [HR.out.1]; omega)
        have u0 := HR.out.2 k
        have u1 := HR.out.2 (8 + k)
        have u2 := hs_lt l HR.out a k
        have u3 := ts_lt l a k
        have u4 := hAdd_lt _ _ u0 u1
        have u5 := hShl_lt (hAdd (l.getD k 0) (l.getD (8 + k) 0)) k
        have A1 := fun W => radd_c ((hsA l a k : Nat) : Int) ((l.getD k 0 : Nat) : Int) (by omega) (by omega) (by omega) (by omega) W
        have A2 := fun W => radd_c ((l.getD k 0 : Nat) : Int) ((l.getD (8 + k) 0 : Nat) : Int) (by omega) (by omega) (by omega) (by omega) W
        have A3 := fun W => rshl_c ((hAdd (l.getD k 0) (l.getD (8 + k) 0) : Nat) : Int) (k : Int) (by omega) (by omega) (by omega) (by omega) W
        have A4 := fun W => radd_c ((tsA l a k : Nat) : Int) ((hShl (hAdd (l.getD k 0) (l.getD (8 + k) 0)) k : Nat) : Int) (by omega) (by omega) (by omega) (by omega) W
        simp only [wAdd_nat, wShl_nat] at A1 A2 A3 A4
        have hw : IntKind.u64.wrap (k : Int) = (k : Int) := by rw [IntKind.wrap_u64]; omega
        clear u0 u1 u2 u3 u4 u5
        generalize hAdd (tsA l a k) (hShl (hAdd (l.getD k 0) (l.getD (8 + k) 0)) k) = X5 at *
        generalize hShl (hAdd (l.getD k 0) (l.getD (8 + k) 0)) k = X4 at *
        generalize hAdd (l.getD k 0) (l.getD (8 + k) 0) = X3 at *
        generalize hAdd (hsA l a k) (l.getD k 0) = X2 at *
        generalize hsA l a k = X6 at *
        generalize tsA l a k = X7 at *
        generalize l.getD k 0 = X0 at *
        generalize l.getD (8 + k) 0 = X1 at *
        go_wp2_with fail
        with_reducible refine (A1 _).mono ?_
        rintro e w' ⟨rfl, rfl⟩
        go_wp2_with fail
        (refine region_later (by kernel_rfl) (by kernel_rfl) ?_); (intro hlat); (repeat (go_big_quiet_step ((first | (go_at_call 71; with_reducible exact later_same (A3 _)) | (go_at_call 52; with_reducible exact later_same (A2 _)) | (go_at_call 52; with_reducible exact later_same (A4 _)))))); (refine wpQuiet_nil ?_); (intro W1 hbW); (clear hlat)
        replace Br := Lib.hid (Br.out.below hbW)
        replace HB := Lib.hid (chain HB.out hbW)
        clear hbW
        go_wp2_with fail
        go_roundw
        case rel => exact ⟨k + 1, by omega, by go_num, by rw [E1.out], by rw [E2.out], Br, HB.out⟩
        case measure => first | (simp [intOf]; done) | (simp [intOf]; omega)
    · obtain rfl : k = 8 := by omega
      have u2 := hs_lt l HR.out a 8
      have u3 := ts_lt l a 8
      by_cases hz : tsA l a 8 = 0
      · have HE := Lib.hid (HZ.out hz)
        rw [hz]
        clear u2 u3 HN HZ
        generalize hsA l a 8 = X6 at *
        go_wp2_with fail
        go_ret
        exact ⟨by first | (rw [← HE.out]; rfl) | (rw [← HE.out]; simp), HB.out⟩
      · have HE := Lib.hid (HN.out hz)
        have O1 := fun W => rfof_c ((hsA l a 8 : Nat) : Int) ((tsA l a 8 : Nat) : Int) (by omega) (by omega) (by omega) (by omega) W
        have q0 : (((tsA l a 8 : Nat) : Int) == 0) = false := by rw [beq_eq_false_iff_ne]; omega
        clear u2 u3 HN HZ
        generalize fl ((hsA l a 8 : Nat) : Int) 4294967296 ((tsA l a 8 : Nat) : Int) = D at *
        generalize flE ((hsA l a 8 : Nat) : Int) 4294967296 ((tsA l a 8 : Nat) : Int) = DE at *
        generalize hsA l a 8 = X6 at *
        generalize tsA l a 8 = X7 at *
        go_wp2_with fail
        with_reducible refine (O1 _).mono ?_
        rintro e w2 ⟨rfl, hb2⟩
        go_wp2_with fail
        go_ret
        exact ⟨by rw [← HE.out]; rfl, chain HB.out hb2⟩
set_option maxRecDepth 100000 in
set_option maxHeartbeats 4000000 in
theorem rdens_c (l : List Nat) (hl : Rk l) (a : Int) (R : Int) (hR : densN l a = R) (w : World) :
    Calls Try.prog 39 #[.agg (u64V l), .int .i64 a] w fun e w' => e = .returned (.int .u64 R) ∧ Below w.heap.size w w' := by
  by_cases ha : 0 ≤ a ∧ a < 8
  · obtain ⟨k, rfl⟩ := Int.eq_ofNat_of_zero_le ha.1
    exact rdens_in l hl k (by omega) R hR w
  · unfold densN at hR
    rw [if_neg ha] at hR
    subst hR
    by_cases h0 : a < 0
    · have q : decide (a < 0) = true := by simp; omega
      clear ha hl
      go_enter Try.func39, Try.ntmps39
      go_wp2_with fail
      go_ret
      exact ⟨rfl, by (repeat' (first | (with_reducible exact Below.refl _ _) | (with_reducible assumption) | (with_reducible refine Below.alloc ?_ ?_ _) | (with_reducible refine Below.drew ?_) | (with_reducible refine Below_drewN ?_ _) | (with_reducible refine Below.setCell ?_ ?_ _) | (refine Below.step (B' := ?_) (b := ?_) ?_ ?_ ?_; rotate_left 2; (with_reducible assumption)) | go_size))⟩
    · have q : decide (a < 0) = false := by simp; omega
      have q1 : decide (7 < a) = true := by simp; omega
      have q2 : 7 < a := by omega
      clear ha hl
      go_enter Try.func39, Try.ntmps39
      go_wp2_with fail
      go_ret
      exact ⟨rfl, by (repeat' (first | (with_reducible exact Below.refl _ _) | (with_reducible assumption) | (with_reducible refine Below.alloc ?_ ?_ _) | (with_reducible refine Below.drew ?_) | (with_reducible refine Below_drewN ?_ _) | (with_reducible refine Below.setCell ?_ ?_ _) | (refine Below.step (B' := ?_) (b := ?_) ?_ ?_ ?_; rotate_left 2; (with_reducible assumption)) | go_size))⟩
end Go.Proofs.Try
