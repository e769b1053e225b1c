/- linhayref14.Check. -/
import Derived.Test.YtgkiijpheigpjaaHr3
namespace Go.Proofs.Try
open Go.RowKit
set_option linter.unusedVariables false
set_option linter.unusedSimpArgs false
theorem has_none {l : List It} {z : Int} : ∀ k, k ≤ l.length → (∀ a, a < k → (atI l a).1 ≠ z) → hasI (l.take k) z = false
  | 0, _, _ => by simp [hasI]
  | k + 1, hk, h => by
    rw [hasI_one (by omega), has_none k (by omega) (fun a ha => h a (by omega)), Bool.false_or, beq_eq_false_iff_ne]
    exact h k (by omega)
theorem has_some {l : List It} {z : Int} : ∀ k a, k ≤ l.length → a < k → (atI l a).1 = z → hasI (l.take k) z = true
  | 0, _, _, ha, _ => absurd ha (by omega)
  | k + 1, a, hk, ha, h => by
    rw [hasI_one (by omega)]
    by_cases e : a = k
    · subst e; rw [h]; simp
    · rw [has_some k a (by omega) (by omega) h, Bool.true_or]
set_option maxRecDepth 100000 in
set_option maxHeartbeats 4000000 in
theorem rcheck_c (v : Value) (n : Nat) (l : List It) (hn : n ≤ 1000) (w : World) (h : Rows encI 3 w v n l) :
    Calls Try.prog 21 #[v] w fun e w' => e = .returned (.bool (decide (chkI l))) ∧ Below w.heap.size w w' := by
  obtain ⟨A, c, rfl, hc, _, hl, hs⟩ := h
  have HL := Lib.hid hl
  have HH := Lib.hid hs
  clear hl hs hc
  go_enter Try.func21, Try.ntmps21
  go_wp2_with fail
  go_loopw [3] (fun i wr => ∃ k : Nat, k ≤ n ∧ i = .int .i64 k ∧ Hid (chkI (l.take k)) ∧ Hid (Below w.heap.size w wr)) (fun i _ => n - (intOf i).toNat)
  case atStart => exact ⟨0, by omega, rfl, Lib.hid (by rw [List.take_zero]; exact chk_nil), Lib.hid (Below.refl _ _)⟩
  case round =>
    obtain ⟨k, hk, rfl, HK, HB⟩ := hrel
    by_cases hlt : k < n
    · have hs := HH.out.below HB.out
      obtain ⟨b, off, rfl, hbl⟩ := Rows.some hs (by omega)
      obtain ⟨c0, c1, c2, _⟩ := hs.item hlt
      have hkl : k < l.length := by rw [HL.out]; exact hlt
      have HKL := Lib.hid hkl
      have hlt' : (k : Int) < (n : Int) := by omega
      obtain ⟨x0, hx0⟩ : ∃ x, (atI l k).1 = x := ⟨_, rfl⟩
      obtain ⟨x1, hx1⟩ : ∃ x, (atI l k).2.1 = x := ⟨_, rfl⟩
      obtain ⟨x2, hx2⟩ : ∃ x, (atI l k).2.2 = x := ⟨_, rfl⟩
      have HX := Lib.hid (show atI l k = (x0, x1, x2) by rw [← hx0, ← hx1, ← hx2])
      rw [hx0] at c0
      rw [hx1] at c1
      rw [hx2] at c2
      clear hx0 hx1 hx2 hkl hs
      by_cases hr : 0 ≤ x0 ∧ x0 < 64
      · have HR := Lib.hid hr
        have hr1 : decide (x0 < 0) = false := by simp; omega
        have hr2 : decide (63 < x0) = false := by simp; omega
        clear hr
        go_wp2_with fail
        clear hr1 hr2
        obtain ⟨V, hV⟩ : ∃ V, V = wr := ⟨_, rfl⟩
        subst hV
        go_loopw [4] (fun j wv => ∃ m : Nat, m ≤ k ∧ j = .int .i64 m ∧ Hid (∀ a, a < m → (atI l a).1 ≠ x0) ∧ Hid (Below w.heap.size w wv)) (fun j _ => k - (intOf j).toNat)
        case atStart => exact ⟨0, by omega, rfl, Lib.hid (fun a ha => by omega), HB⟩
        case round =>
          clear HB c0 c1 c2 hbl
          obtain ⟨m, hm, rfl, HM, HB⟩ := hrel
          have hs := HH.out.below HB.out
          obtain ⟨c0, c1, c2, hbl⟩ := hs.item hlt
          rw [HX.out] at c0 c1 c2
          dsimp only at c0 c1 c2
          by_cases hmk : m < k
          · have hmk' : (m : Int) < (k : Int) := by omega
            have hmn : (m : Int) < (n : Int) := by omega
            have hmn' : m < n := by omega
            obtain ⟨d0, d1, d2, _⟩ := hs.item hmn'
            clear hs
            by_cases he : (atI l m).1 = x0
            · have HD := Lib.hid (chk_not HKL.out (by rw [HX.out]; intro h; rw [has_some k m (by have := HKL.out; omega) hmk he] at h; exact absurd h.2.2.1 (by simp)))
              rw [he] at d0
              clear he
              go_wp2_with fail
              go_region
              go_wp2_with fail
              go_ret
              exact ⟨ret_b HD.out.symm, by have := HB.out; (repeat' (first | (with_reducible exact Below.refl _ _) | (with_reducible assumption) | (with_reducible refine Below.alloc ?_ ?_ _) | (with_reducible refine Below.drew ?_) | (with_reducible refine Below_drewN ?_ _) | (with_reducible refine Below.setCell ?_ ?_ _) | (refine Below.step (B' := ?_) (b := ?_) ?_ ?_ ?_; rotate_left 2; (with_reducible assumption)) | go_size))⟩
            · have hne : ((atI l m).1 == x0) = false := by simp [he]
              have HM2 : Hid (∀ a, a < m + 1 → (atI l a).1 ≠ x0) := Lib.hid (fun a ha => by
                by_cases e : a = m
                · rw [e]; exact he
                · exact HM.out a (by omega))
              clear he
              generalize (atI l m).1 = y0 at *
              go_wp2_with fail
              go_region
              go_wp2_with fail
              go_roundw
              case rel => exact ⟨m + 1, by omega, by go_num, HM2, Lib.hid (by have := HB.out; (repeat' (first | (with_reducible exact Below.refl _ _) | (with_reducible assumption) | (with_reducible refine Below.alloc ?_ ?_ _) | (with_reducible refine Below.drew ?_) | (with_reducible refine Below_drewN ?_ _) | (with_reducible refine Below.setCell ?_ ?_ _) | (refine Below.step (B' := ?_) (b := ?_) ?_ ?_ ?_; rotate_left 2; (with_reducible assumption)) | go_size)))⟩
              case measure => first | (simp [intOf]; done) | (simp [intOf]; omega)
          · have hnm : ¬((m : Int) < (k : Int)) := by omega
            have HHH := Lib.hid (has_none (l := l) (z := x0) k (by have := HKL.out; omega) (fun a ha => HM.out a (by omega)))
            clear hs HM
            obtain ⟨V2, hV2⟩ : ∃ V, V = wr := ⟨_, rfl⟩
            subst hV2
            by_cases hk0 : k = 0
            · have hki : decide ((0 : Int) < (k : Int)) = false := by simp; omega
              have hkn : decide (0 < k) = false := by simp; omega
              have HKN : Hid (chkI (l.take (k + 1))) := Lib.hid ((chk_step HKL.out).2 ⟨HK.out, by rw [HX.out]; exact HR.out, by rw [HX.out]; exact HHH.out, fun h => by omega⟩)
              clear hk0
              go_wp2_with fail
              go_region
              go_wp2_with fail
              go_roundw
              case rel => exact ⟨k + 1, by omega, by go_num, HKN, Lib.hid (by have := HB.out; (repeat' (first | (with_reducible exact Below.refl _ _) | (with_reducible assumption) | (with_reducible refine Below.alloc ?_ ?_ _) | (with_reducible refine Below.drew ?_) | (with_reducible refine Below_drewN ?_ _) | (with_reducible refine Below.setCell ?_ ?_ _) | (refine Below.step (B' := ?_) (b := ?_) ?_ ?_ ?_; rotate_left 2; (with_reducible assumption)) | go_size)))⟩
              case measure => first | (simp [intOf]; done) | (simp [intOf]; omega)
            · have hk1 : 1 ≤ k := by omega
              have hki : (0 : Int) < (k : Int) := by omega
              have hkn : 0 < k := by omega
              have hpl := par_lt hkn
              have hpn : par k < n := by omega
              have hpn' : ((par k : Nat) : Int) < (n : Int) := by omega
              obtain ⟨p0, p1, p2, _⟩ := (HH.out.below HB.out).item hpn
              obtain ⟨y0, hy0⟩ : ∃ x, (atI l (par k)).1 = x := ⟨_, rfl⟩
              obtain ⟨y1, hy1⟩ : ∃ x, (atI l (par k)).2.1 = x := ⟨_, rfl⟩
              obtain ⟨y2, hy2⟩ : ∃ x, (atI l (par k)).2.2 = x := ⟨_, rfl⟩
              have HY := Lib.hid (show atI l (par k) = (y0, y1, y2) by rw [← hy0, ← hy1, ← hy2])
              rw [hy0] at p0
              rw [hy1] at p1
              rw [hy2] at p2
              clear hy0 hy1 hy2 hk0 hpl
              have LC := fun W => rless_c x0 x1 x2 y0 y1 y2 W
              have hdv : ((k : Int) - 1) / 4 = ((par k : Nat) : Int) := by unfold par; omega
              have hdt : Int.tdiv ((k : Int) - 1) 4 = ((par k : Nat) : Int) := by rw [Int.tdiv_eq_ediv_of_nonneg (by omega)]; exact hdv
              have hmx : max (k : Int) 1 = (k : Int) := by omega
              have hk1i : (1 : Int) ≤ (k : Int) := by omega
              have hk1n : ¬((k : Int) < 1) := by omega
              have hk2i : (k : Int) ≤ 100000 := by omega
              by_cases hlt2 : LtI (x0, x1, x2) (y0, y1, y2)
              · rw [decide_eq_true hlt2] at LC
                have HD := Lib.hid (chk_not HKL.out (by rw [HX.out, HY.out]; intro h; exact h.2.2.2 hkn hlt2))
                clear hlt2 HY
                generalize par k = pk at *
                go_wp2_with fail
                (refine region_later (by kernel_rfl) (by kernel_rfl) ?_); (intro hlat); (repeat (go_big_quiet_step (((go_at_call 23; with_reducible exact later_call (LC _)))))); (refine wpQuiet_nil ?_); (intro W1 hb1); (clear hlat)
                go_wp2_with fail
                go_ret
                exact ⟨ret_b HD.out.symm, chain HB.out hb1⟩
              · rw [decide_eq_false hlt2] at LC
                have HKN : Hid (chkI (l.take (k + 1))) := Lib.hid ((chk_step HKL.out).2 ⟨HK.out, by rw [HX.out]; exact HR.out, by rw [HX.out]; exact HHH.out, fun _ => by rw [HX.out, HY.out]; exact hlt2⟩)
                clear hlt2 HY
                generalize par k = pk at *
                go_wp2_with fail
                (refine region_later (by kernel_rfl) (by kernel_rfl) ?_); (intro hlat); (repeat (go_big_quiet_step (((go_at_call 23; with_reducible exact later_call (LC _)))))); (refine wpQuiet_nil ?_); (intro W1 hb1); (clear hlat)
                go_wp2_with fail
                go_roundw
                case rel => exact ⟨k + 1, by omega, by go_num, HKN, Lib.hid (chain HB.out hb1)⟩
                case measure => first | (simp [intOf]; done) | (simp [intOf]; omega)
      · have HD := Lib.hid (chk_not HKL.out (by rw [HX.out]; intro h; exact hr h.2.1))
        by_cases h0 : x0 < 0
        · have hr1 : decide (x0 < 0) = true := by simp; omega
          clear hr h0
          go_wp2_with fail
          go_ret
          exact ⟨ret_b HD.out.symm, by have := HB.out; (repeat' (first | (with_reducible exact Below.refl _ _) | (with_reducible assumption) | (with_reducible refine Below.alloc ?_ ?_ _) | (with_reducible refine Below.drew ?_) | (with_reducible refine Below_drewN ?_ _) | (with_reducible refine Below.setCell ?_ ?_ _) | (refine Below.step (B' := ?_) (b := ?_) ?_ ?_ ?_; rotate_left 2; (with_reducible assumption)) | go_size))⟩
        · have hr1 : decide (x0 < 0) = false := by simp; omega
          have hr2 : decide (63 < x0) = true := by simp; omega
          clear hr h0
          go_wp2_with fail
          go_ret
          exact ⟨ret_b HD.out.symm, by have := HB.out; (repeat' (first | (with_reducible exact Below.refl _ _) | (with_reducible assumption) | (with_reducible refine Below.alloc ?_ ?_ _) | (with_reducible refine Below.drew ?_) | (with_reducible refine Below_drewN ?_ _) | (with_reducible refine Below.setCell ?_ ?_ _) | (refine Below.step (B' := ?_) (b := ?_) ?_ ?_ ?_; rotate_left 2; (with_reducible assumption)) | go_size))⟩
    · have hke : k = n := by omega
      subst hke
      have HT := Lib.hid (show l.take k = l by rw [← HL.out, List.take_length])
      have h64 := chk_le HK.out
      rw [HT.out, HL.out] at h64
      have h64' : (k : Int) ≤ 64 := by omega
      have HD := Lib.hid (show decide (chkI l) = true from decide_eq_true (by rw [← HT.out]; exact HK.out))
      go_wp2_with fail
      go_ret
      exact ⟨ret_b HD.out.symm, HB.out⟩
end Go.Proofs.Try
