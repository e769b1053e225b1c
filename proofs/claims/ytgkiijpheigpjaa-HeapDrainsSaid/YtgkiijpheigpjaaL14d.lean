/- The walk of HeapDrains. -/
import Derived.Test.YtgkiijpheigpjaaStp
namespace Go.Proofs.Try
open Go.RowKit
set_option linter.unusedVariables false
set_option linter.unusedSimpArgs false
theorem drop_cons {s : List It} {j : Nat} (h : j < s.length) : s.drop j = atI s j :: s.drop (j + 1) := by
  rw [List.drop_eq_getElem_cons h]
  congr 1
  unfold atI
  rw [List.getD_eq_getElem?_getD, List.getElem?_eq_getElem h]; rfl
theorem wo_head {y : It} {t : List It} (h : ((y :: t).map (·.1)).Nodup) : wo (y :: t) y.1 = t := by
  rw [List.map_cons, List.nodup_cons] at h
  have h2 : hasI t y.1 = false := by
    rw [Bool.eq_false_iff]
    intro hh
    obtain ⟨x, hx, e⟩ := (hasI_iff t y.1).1 hh
    exact h.1 (List.mem_map.2 ⟨x, hx, e⟩)
  have h3 : wo (y :: t) y.1 = wo t y.1 := by unfold wo; simp
  rw [h3, wo_not h2]
set_option maxRecDepth 100000 in
set_option maxHeartbeats 4000000 in
theorem drains_go (A : Option Addr) (n cc : Nat) (steps : List Stp) (hn : n ≤ 100) (w : World) (hs : Sees w 4 A n (flat encS steps)) :
    Calls Try.prog 5 #[.slice A n cc] w fun e w' => e = .returned (.bool true) ∧ Below w.heap.size w w' := by
  have HA := Lib.hid hs
  have qn : decide (100 < (n : Int)) = false := by simp; omega
  clear hs
  go_enter Try.func5, Try.ntmps5
  go_wp2_with fail
  refine (awake14 _).mono ?_
  rintro e w1 ⟨rfl, hb1⟩
  have HBW0 := Lib.hid hb1
  clear hb1
  go_wp2_with fail
  go_loopw [4, 5] (fun v i wr => ∃ (k : Nat) (l : List It), k ≤ n ∧ i = .int .i64 k ∧ Hid (chkI l) ∧ Hid (Rows encI 3 wr v l.length l) ∧ Hid (Below w.heap.size w wr)) (fun _ i _ => n - (intOf i).toNat)
  case atStart => exact ⟨0, [], by omega, rfl, Lib.hid chk_nil, Lib.hid (Rows.nil _ _ _), HBW0⟩
  case round =>
    obtain ⟨k, l, hk, rfl, HC, HR, HBW⟩ := hrel
    clear HBW0
    have hl64 := chk_le HC.out
    by_cases hlt : k < n
    · obtain ⟨bA, oA, d, y0, y1, y2, rfl, s0, s1, s2, s3, hbA, _⟩ := steps_at HA.out HBW.out hlt
      have hlt' : (k : Int) < (n : Int) := by omega
      have DO := fun W h => do14_c u4 l.length l d y0 y1 y2 (by omega) W h
      go_wp2_with fail
      refine (DO _ HR.out).mono ?_
      rintro e w2 ⟨v2, l2, E2, rfl, hP, hR, hb2⟩
      have HC2 := Lib.hid (step_chk hP HC.out)
      have HR2 := Lib.hid hR
      have HBW2 := Lib.hid (chain HBW.out hb2)
      clear hP hR hb2 DO s0 s1 s2 s3
      go_wp2_with fail
      go_roundw
      case rel => exact ⟨k + 1, l2, by omega, by go_num, HC2, HR2, HBW2⟩
      case measure => first | (simp [intOf]; done) | (simp [intOf]; omega)
    · have hge : decide (k < n) = false := by simp; omega
      have hge' : decide ((k : Int) < (n : Int)) = false := by simp; omega
      obtain ⟨V, hV⟩ : ∃ V, V = wr := ⟨_, rfl⟩
      subst hV
      have SC := fun W h => sorted_c u4 l.length l (by omega) W h
      go_wp2_with fail
      refine (SC _ HR.out).mono ?_
      rintro e w2 ⟨v2, s, rfl, hP, hR, hb2⟩
      have hP2 : s.Perm l ∧ rises s := by
        rcases hP with ⟨h, _⟩ | ⟨_, h1, h2⟩
        · exact absurd HC.out h
        · exact ⟨h1, h2⟩
      have HP := Lib.hid hP2
      have HSL := Lib.hid hP2.1.length_eq
      have hs64 : s.length ≤ 64 := by rw [HSL.out]; exact hl64
      have HR2 : Hid (Rows encI 3 w2 u4 s.length l) := Lib.hid (by rw [HSL.out]; exact HR.out.below hb2)
      have HS := Lib.hid hR
      replace HBW := Lib.hid (chain HBW.out hb2)
      clear hP hP2 hR hb2 SC hl64 HR
      obtain ⟨A8, c8, rfl, _⟩ := HS.out
      go_wp2_with fail
      go_loopw [4, 9] (fun v i wr => ∃ (j m : Nat) (l' : List It), s.length = j + m ∧ i = .int .i64 j ∧ Hid (chkI l') ∧ Hid (Rows encI 3 wr v m l') ∧ Hid (l'.Perm (s.drop j)) ∧ Hid (Below w.heap.size w wr) ∧ Hid (Rows encI 3 wr (.slice A8 s.length c8) s.length s)) (fun _ i _ => s.length - (intOf i).toNat)
      case atStart => exact ⟨0, s.length, l, by omega, rfl, HC, HR2, Lib.hid (by rw [List.drop_zero]; exact HP.out.1.symm), HBW, HS⟩
      case round =>
        clear HBW HS HR2
        obtain ⟨j, m, l', hjm, rfl, HC', HR', HPJ, HBW, HS⟩ := hrel
        by_cases hlt2 : j < s.length
        · obtain ⟨m', rfl⟩ : ∃ m', m = m' + 1 := ⟨m - 1, by omega⟩
          have hlt2' : (j : Int) < (s.length : Int) := by omega
          have hm64 : (m' : Int) ≤ 64 := by omega
          have HD := Lib.hid (drop_cons hlt2)
          have HJM := Lib.hid hjm
          clear hjm
          obtain ⟨y0, hy0⟩ : ∃ x, (atI s j).1 = x := ⟨_, rfl⟩
          obtain ⟨y1, hy1⟩ : ∃ x, (atI s j).2.1 = x := ⟨_, rfl⟩
          obtain ⟨y2, hy2⟩ : ∃ x, (atI s j).2.2 = x := ⟨_, rfl⟩
          have HY := Lib.hid (show atI s j = (y0, y1, y2) by rw [← hy0, ← hy1, ← hy2])
          clear hy0 hy1 hy2
          have HQ : Hid (l'.Perm ((y0, y1, y2) :: s.drop (j + 1))) := Lib.hid (by rw [← HY.out, ← HD.out]; exact HPJ.out)
          have HRS : Hid (rises ((y0, y1, y2) :: s.drop (j + 1))) := Lib.hid (by rw [← HY.out, ← HD.out]; exact HP.out.2.sublist (List.drop_sublist _ _))
          obtain ⟨A4, c4, rfl, _⟩ := HR'.out
          have MC := fun W h => min_c (.slice A4 (m' + 1) c4) (m' + 1) l' (by omega) W h
          go_wp2_with fail
          refine (MC _ HR'.out).mono ?_
          rintro e w3 ⟨i3, p3, q3, b3, rfl, hP3, hb3⟩
          obtain ⟨hx3, rfl⟩ := min_yes hP3 HC'.out HRS.out HQ.out
          simp only [Prod.mk.injEq] at hx3
          obtain ⟨rfl, rfl, rfl⟩ := hx3
          have hb3' := chain1 hb3 (.cells #[.int .i64 i3, .int .u64 p3, .int .u64 q3] 25)
          have TX := Lib.hid (tri.new w3 (.int .i64 i3) (.int .u64 p3) (.int .u64 q3) 25)
          have HR3 := Lib.hid (HR'.out.below hb3')
          have HS3 := Lib.hid (HS.out.below hb3')
          have HB3 := Lib.hid (chain HBW.out hb3')
          have DC := fun W h => drop_c (.slice A4 (m' + 1) c4) (m' + 1) l' i3 (by omega) W h
          clear hb3 hb3' hP3 MC HR' HS HBW
          obtain ⟨t0, t1, t2, tl⟩ := TX.out
          go_wp2_with fail
          refine (DC _ HR3.out).mono ?_
          rintro e w4 ⟨v4, l4, E4, rfl, hP4, hR4, hb4⟩
          obtain ⟨rfl, hc4, hp4⟩ := drop_yes hP4 HC'.out ((hasI_iff _ _).2 ⟨_, HQ.out.mem_iff.2 (List.mem_cons_self ..), rfl⟩)
          have hw : (wo l' i3).Perm (s.drop (j + 1)) := by
            have h1 := wo_perm HQ.out i3
            rwa [show wo ((i3, p3, q3) :: s.drop (j + 1)) i3 = s.drop (j + 1) from wo_head (y := (i3, p3, q3)) (((HQ.out.map (·.1)).nodup_iff).1 HC'.out.2.1)] at h1
          have hl4 : l4.length = m' := by
            have h1 := (hp4.trans hw).length_eq
            rw [List.length_drop] at h1
            have := HJM.out
            omega
          rw [hl4] at hR4
          have HR4 := Lib.hid hR4
          have HC4 := Lib.hid hc4
          have HP4 := Lib.hid (hp4.trans hw)
          have HS4 := Lib.hid (HS3.out.below hb4)
          have HB4 := Lib.hid (chain HB3.out hb4)
          have TX4 := Lib.hid (TX.out.below hb4)
          clear hP4 hR4 hb4 hc4 hp4 hw hl4 DC t0 t1 t2 tl HR3 HS3 HB3 TX
          obtain ⟨t0, t1, t2, tl⟩ := TX4.out
          obtain ⟨A9, c9, rfl, _⟩ := HR4.out
          obtain ⟨A8', c8', he, _, _, _, hse⟩ := HS4.out
          injection he with e1 _ e3
          subst e1
          clear e3
          obtain ⟨b8, o8, rfl, _⟩ := Rows.some hse (by omega)
          obtain ⟨s0, s1, s2, sl⟩ := hse.item hlt2
          rw [HY.out] at s0 s1 s2
          dsimp only at s0 s1 s2
          clear hse
          go_wp2_with fail
          go_quiet (fail)
          go_wp2_with fail
          go_roundw
          case rel => exact ⟨j + 1, m', l4, by have := HJM.out; omega, by go_num, HC4, HR4, HP4, Lib.hid (by have := HB4.out; (repeat' (first | (with_reducible exact Below.refl _ _) | (with_reducible assumption) | (with_reducible refine Below.alloc ?_ ?_ _) | (with_reducible refine Below.drew ?_) | (with_reducible refine Below_drewN ?_ _) | (with_reducible refine Below.setCell ?_ ?_ _) | (refine Below.step (B' := ?_) (b := ?_) ?_ ?_ ?_; rotate_left 2; (with_reducible assumption)) | go_size))), Lib.hid (HS4.out.below (Below_drewN (Below.refl _ _) _))⟩
          case measure => first | (simp [intOf]; done) | (simp [intOf]; omega)
        · obtain rfl : m = 0 := by omega
          have hge2 : decide (j < s.length) = false := by simp; omega
          have hge2' : decide ((j : Int) < (s.length : Int)) = false := by simp; omega
          obtain ⟨A4, c4, rfl, _⟩ := HR'.out
          clear hjm
          go_wp2_with fail
          go_ret
          exact ⟨by first | rfl | (simp; done), HBW.out⟩
set_option maxRecDepth 100000 in
set_option maxHeartbeats 4000000 in
theorem walk_HeapDrains (v0 : Value) (w : World) (o0 : RowIn encS 4 (fun _ => True) w v0) :
    Calls Try.prog 5 #[v0] w fun e w' => e = .returned (.bool true) ∧ Below w.heap.size w w' := by
  obtain ⟨A, n, c, l, rfl, hcap, _, hl, _, hs⟩ := o0
  by_cases hn : n ≤ 100
  · exact drains_go A n c l hn w hs
  · have qn : decide (100 < (n : Int)) = true := by simp; omega
    have qn' : (100 : Int) < (n : Int) := by omega
    clear hs hl hcap
    go_enter Try.func5, Try.ntmps5
    go_wp2_with fail
    refine (awake14 _).mono ?_
    rintro e w1 ⟨rfl, hb1⟩
    go_wp2_with fail
    go_ret
    exact ⟨by first | rfl | (simp; done), hb1⟩
end Go.Proofs.Try
