/- heap.Check. -/
import Derived.Test.YtgkiijpheigpjaaHpB
namespace Go.Proofs.Try
open Go.RowKit
set_option linter.unusedVariables false
set_option linter.unusedSimpArgs false
theorem hasI_one {l : List It} {k : Nat} (hk : k < l.length) (z : Int) : hasI (l.take (k + 1)) z = (hasI (l.take k) z || (atI l k).1 == z) := by
  rw [take_one hk]
  unfold hasI
  rw [List.map_append, List.contains_append]
  simp only [List.map_cons, List.map_nil, List.contains_cons, List.contains_nil, Bool.or_false]
  rw [Bool.beq_comm]
theorem chk_not {l : List It} {k : Nat} (hk : k < l.length) (h : ¬(chkI (l.take k) ∧ (0 ≤ (atI l k).1 ∧ (atI l k).1 < 64) ∧ hasI (l.take k) (atI l k).1 = false ∧ (0 < k → ¬LtI (atI l k) (atI l (par k))))) : decide (chkI l) = false :=
  decide_eq_false (fun hc => h ((chk_step hk).1 (chk_take hc (k + 1))))
set_option maxRecDepth 100000 in
set_option maxHeartbeats 4000000 in
theorem checkh_c (v : Value) (n : Nat) (l : List It) (w : World) (h : Rows encI 3 w v n l) :
    Calls Try.prog 20 #[v] w fun e w' => e = .returned (.bool (decide (chkI l))) ∧ Below w.heap.size w w' := by
  obtain ⟨A, c, rfl, hc, hn, hl, hs⟩ := h
  have HL := Lib.hid hl
  have HH := Lib.hid hs
  have HM0 := Lib.hid (marks.new w (Array.replicate 64 (.bool false)) 53 rfl)
  clear hl hs hc
  go_enter Try.func20, Try.ntmps20
  go_wp2_with fail
  go_loopw [8] (fun i wr => ∃ k : Nat, k ≤ n ∧ i = .int .i64 k ∧ Hid (chkI (l.take k)) ∧ Hid (marks wr w.heap.size (fun i => hasI (l.take k) (i : Int))) ∧ Below w.heap.size w wr) (fun i _ => n - (intOf i).toNat)
  case atStart => exact ⟨0, by omega, rfl, Lib.hid (by rw [List.take_zero]; exact chk_nil), Lib.hid (HM0.out.congr (fun j _ => by simp [hasI])), by (repeat' (first | (with_reducible exact Below.refl _ _) | (with_reducible assumption) | (with_reducible refine Below.alloc ?_ ?_ _) | (with_reducible refine Below.drew ?_) | (with_reducible refine Below_drewN ?_ _) | (with_reducible refine Below.setCell ?_ ?_ _) | (refine Below.step (B' := ?_) (b := ?_) ?_ ?_ ?_; rotate_left 2; (with_reducible assumption)) | go_size))⟩
  case round =>
    obtain ⟨k, hk, rfl, HK, HM, hb⟩ := hrel
    have HB := Lib.hid hb
    clear hb HM0
    by_cases hlt : k < n
    · have hs := HH.out.below HB.out
      obtain ⟨b, off, rfl, hbl⟩ := Rows.some hs (by omega)
      obtain ⟨c0, c1, c2, _⟩ := hs.item hlt
      have hkl : k < l.length := by rw [HL.out]; exact hlt
      have HKL := Lib.hid hkl
      have hlt' : (k : Int) < (n : Int) := by omega
      have hm := HM.out.lt
      obtain ⟨x0, hx0⟩ : ∃ x, (atI l k).1 = x := ⟨_, rfl⟩
      obtain ⟨x1, hx1⟩ : ∃ x, (atI l k).2.1 = x := ⟨_, rfl⟩
      obtain ⟨x2, hx2⟩ : ∃ x, (atI l k).2.2 = x := ⟨_, rfl⟩
      have HX := Lib.hid (show atI l k = (x0, x1, x2) by rw [← hx0, ← hx1, ← hx2])
      rw [hx0] at c0
      rw [hx1] at c1
      rw [hx2] at c2
      clear hx0 hx1 hx2 hkl hs
      by_cases hr : 0 ≤ x0 ∧ x0 < 64
      · obtain ⟨z, rfl⟩ := Int.eq_ofNat_of_zero_le hr.1
        have hz : z < 64 := by omega
        have hz0 : (0 : Int) ≤ (z : Int) := by omega
        have hz1 : (z : Int) < 64 := by omega
        have N1 := fun W => named_yes (z : Int) hz0 hz1 W
        clear hr
        go_wp2_with fail
        have hsV := (HH.out.below HB.out).alloc (.cells #[.int .i64 (z : Int), .int .u64 x1, .int .u64 x2] 25)
        have hmV := HM.out.below ((Below.refl wr.heap.size wr).alloc (Nat.le_refl _) (.cells #[.int .i64 (z : Int), .int .u64 x1, .int .u64 x2] 25)) hm
        have hbV := chain1 HB.out (.cells #[.int .i64 (z : Int), .int .u64 x1, .int .u64 x2] 25)
        have hx0 : (wr.alloc (.cells #[.int .i64 (z : Int), .int .u64 x1, .int .u64 x2] 25)).cell? ⟨wr.heap.size, 0, none⟩ = some (.int .i64 (z : Int)) := by go_simp
        have hx1 : (wr.alloc (.cells #[.int .i64 (z : Int), .int .u64 x1, .int .u64 x2] 25)).cell? ⟨wr.heap.size, 1, none⟩ = some (.int .u64 x1) := by go_simp
        have hx2 : (wr.alloc (.cells #[.int .i64 (z : Int), .int .u64 x1, .int .u64 x2] 25)).cell? ⟨wr.heap.size, 2, none⟩ = some (.int .u64 x2) := by go_simp
        have hbxV : wr.heap.size < (wr.alloc (.cells #[.int .i64 (z : Int), .int .u64 x1, .int .u64 x2] 25)).heap.size := by simp
        have hbmV : w.heap.size < (wr.alloc (.cells #[.int .i64 (z : Int), .int .u64 x1, .int .u64 x2] 25)).heap.size := by simp; omega
        have hblV : b < (wr.alloc (.cells #[.int .i64 (z : Int), .int .u64 x1, .int .u64 x2] 25)).heap.size := by simp; omega
        have HBV := Lib.hid hbV
        clear c0 c1 c2 hbV HM
        generalize wr.alloc (.cells #[.int .i64 (z : Int), .int .u64 x1, .int .u64 x2] 25) = V at *
        have HMV := Lib.hid hmV
        have HSV := Lib.hid hsV
        obtain ⟨m0, m1⟩ := hmV z hz
        dsimp only at m0
        clear hmV hsV
        by_cases hh : hasI (l.take k) (z : Int) = true
        · have HD := Lib.hid (chk_not HKL.out (by rw [HX.out]; intro h; rw [hh] at h; exact absurd h.2.2.1 (by simp)))
          rw [hh] at m0
          clear hh
          (refine region_later (by kernel_rfl) (by kernel_rfl) ?_); (intro hlat); (repeat (go_big_quiet_step ((go_at_call 48; with_reducible exact later_same (N1 _))))); (refine wpQuiet_nil ?_); (intro W1 hb1); (clear hlat)
          go_wp2_with fail
          go_ret
          exact ⟨ret_b HD.out.symm, chain HBV.out hb1⟩
        · have hh' : hasI (l.take k) (z : Int) = false := by simpa using hh
          rw [hh'] at m0
          have HHH := Lib.hid hh'
          clear hh hh'
          by_cases hk0 : k = 0
          · have hki : decide ((0 : Int) < (k : Int)) = false := by simp; omega
            have hkn : decide (0 < k) = false := by simp; omega
            have HKN : Hid (chkI (l.take (k + 1))) := Lib.hid ((chk_step HKL.out).2 ⟨HK.out, by rw [HX.out]; exact ⟨hz0, hz1⟩, by rw [HX.out]; exact HHH.out, fun h => by omega⟩)
            clear hk0
            (refine region_later (by kernel_rfl) (by kernel_rfl) ?_); (intro hlat); (repeat (go_big_quiet_step ((go_at_call 48; with_reducible exact later_same (N1 _))))); (refine wpQuiet_nil ?_); (intro W1 hb1); (clear hlat)
            have hx0' : W1.cell? ⟨wr.heap.size, 0, none⟩ = some (.int .i64 (z : Int)) := (hb1.cell (p := ⟨wr.heap.size, 0, none⟩) hbxV).trans hx0
            have hm1 := HMV.out.below hb1 hbmV
            obtain ⟨q0, q1⟩ := hm1 z hz
            have hsz1 := hb1.size
            have hbx1 : wr.heap.size < W1.heap.size := by omega
            have hbm1 : w.heap.size < W1.heap.size := by omega
            have HM1 := Lib.hid hm1
            have HBW := Lib.hid (chain HBV.out hb1)
            clear hx0 hx1 hx2 m0 m1 hm1 hb1
            go_wp2_with fail
            go_roundw
            case rel => exact ⟨k + 1, by omega, by go_num, HKN, Lib.hid (HM1.out.set z hz true (fun j hj => by
              rw [hasI_one HKL.out, HX.out]
              by_cases e : j = z
              · subst e; simp
              · rw [if_neg e, show (((z : Nat) : Int) == ((j : Nat) : Int)) = false by rw [beq_eq_false_iff_ne]; omega, Bool.or_false])), by have := HBW.out; (repeat' (first | (with_reducible exact Below.refl _ _) | (with_reducible assumption) | (with_reducible refine Below.alloc ?_ ?_ _) | (with_reducible refine Below.drew ?_) | (with_reducible refine Below_drewN ?_ _) | (with_reducible refine Below.setCell ?_ ?_ _) | (refine Below.step (B' := ?_) (b := ?_) ?_ ?_ ?_; rotate_left 2; (with_reducible assumption)) | go_size))⟩
            case measure => first | (simp [intOf]; done) | (simp [intOf]; omega)
          · have hk1 : 1 ≤ k := by omega
            have hki : (0 : Int) < (k : Int) := by omega
            have hkn : 0 < k := by omega
            have hpl := par_lt hkn
            have hpn : par k < n := by omega
            have hpn' : ((par k : Nat) : Int) < (n : Int) := by omega
            obtain ⟨p0, p1, p2, _⟩ := HSV.out.item hpn
            have PC := fun W => parent_c k hk1 (by omega) W
            obtain ⟨y0, hy0⟩ : ∃ x, (atI l (par k)).1 = x := ⟨_, rfl⟩
            obtain ⟨y1, hy1⟩ : ∃ x, (atI l (par k)).2.1 = x := ⟨_, rfl⟩
            obtain ⟨y2, hy2⟩ : ∃ x, (atI l (par k)).2.2 = x := ⟨_, rfl⟩
            have HY := Lib.hid (show atI l (par k) = (y0, y1, y2) by rw [← hy0, ← hy1, ← hy2])
            rw [hy0] at p0
            rw [hy1] at p1
            rw [hy2] at p2
            clear hy0 hy1 hy2 hk0 hpl
            have LC := fun W => less_c (z : Int) x1 x2 y0 y1 y2 W
            by_cases hlt2 : LtI ((z : Int), x1, x2) (y0, y1, y2)
            · rw [decide_eq_true hlt2] at LC
              have HD := Lib.hid (chk_not HKL.out (by rw [HX.out, HY.out]; intro h; exact h.2.2.2 hkn hlt2))
              clear hlt2
              generalize par k = pk at *
              (refine region_later (by kernel_rfl) (by kernel_rfl) ?_); (intro hlat); (repeat (go_big_quiet_step ((first | (go_at_call 48; with_reducible exact later_same (N1 _)) | (go_at_call 49; with_reducible exact later_same (PC _)) | (go_at_call 22; with_reducible exact later_call (LC _)))))); (refine wpQuiet_nil ?_); (intro W1 hb1); (clear hlat)
              go_wp2_with fail
              go_ret
              exact ⟨ret_b HD.out.symm, chain HBV.out hb1⟩
            · rw [decide_eq_false hlt2] at LC
              have HKN : Hid (chkI (l.take (k + 1))) := Lib.hid ((chk_step HKL.out).2 ⟨HK.out, by rw [HX.out]; exact ⟨hz0, hz1⟩, by rw [HX.out]; exact HHH.out, fun _ => by rw [HX.out, HY.out]; exact hlt2⟩)
              clear hlt2 HY
              generalize par k = pk at *
              (refine region_later (by kernel_rfl) (by kernel_rfl) ?_); (intro hlat); (repeat (go_big_quiet_step ((first | (go_at_call 48; with_reducible exact later_same (N1 _)) | (go_at_call 49; with_reducible exact later_same (PC _)) | (go_at_call 22; with_reducible exact later_call (LC _)))))); (refine wpQuiet_nil ?_); (intro W1 hb1); (clear hlat)
              have hx0' : W1.cell? ⟨wr.heap.size, 0, none⟩ = some (.int .i64 (z : Int)) := (hb1.cell (p := ⟨wr.heap.size, 0, none⟩) hbxV).trans hx0
              have hm1 := HMV.out.below hb1 hbmV
              obtain ⟨q0, q1⟩ := hm1 z hz
              have hsz1 := hb1.size
              have hbx1 : wr.heap.size < W1.heap.size := by omega
              have hbm1 : w.heap.size < W1.heap.size := by omega
              have HM1 := Lib.hid hm1
              have HBW := Lib.hid (chain HBV.out hb1)
              clear hx0 hx1 hx2 m0 m1 hm1 hb1 p0 p1 p2
              go_wp2_with fail
              go_roundw
              case rel => exact ⟨k + 1, by omega, by go_num, HKN, Lib.hid (HM1.out.set z hz true (fun j hj => by
                rw [hasI_one HKL.out, HX.out]
                by_cases e : j = z
                · subst e; simp
                · rw [if_neg e, show (((z : Nat) : Int) == ((j : Nat) : Int)) = false by rw [beq_eq_false_iff_ne]; omega, Bool.or_false])), by have := HBW.out; (repeat' (first | (with_reducible exact Below.refl _ _) | (with_reducible assumption) | (with_reducible refine Below.alloc ?_ ?_ _) | (with_reducible refine Below.drew ?_) | (with_reducible refine Below_drewN ?_ _) | (with_reducible refine Below.setCell ?_ ?_ _) | (refine Below.step (B' := ?_) (b := ?_) ?_ ?_ ?_; rotate_left 2; (with_reducible assumption)) | go_size))⟩
              case measure => first | (simp [intOf]; done) | (simp [intOf]; omega)
      · have HD := Lib.hid (chk_not HKL.out (by rw [HX.out]; exact fun h => hr h.2.1))
        have N1 := fun W => named_no x0 (by omega) W
        clear hr
        go_wp2_with fail
        have hbxV : wr.heap.size < wr.heap.size + 1 := by omega
        (refine region_later (by kernel_rfl) (by kernel_rfl) ?_); (intro hlat); (repeat (go_big_quiet_step ((go_at_call 48; with_reducible exact later_same (N1 _))))); (refine wpQuiet_nil ?_); (intro W1 hb1); (clear hlat)
        go_wp2_with fail
        go_ret
        exact ⟨ret_b HD.out.symm, chain (chain1 HB.out _) hb1⟩
    · have hke : k = n := by omega
      subst hke
      have HD := Lib.hid (show decide (chkI l) = true by
        have := HK.out
        rw [List.take_of_length_le (by rw [HL.out]; exact Nat.le_refl _)] at this
        exact decide_eq_true this)
      go_wp2_with fail
      go_ret
      exact ⟨ret_b HD.out.symm, HB.out⟩
end Go.Proofs.Try
