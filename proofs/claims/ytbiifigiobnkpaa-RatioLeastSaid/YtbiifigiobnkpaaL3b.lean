/- The walk of RatioLeast. -/
import Derived.Test.YtbiifigiobnkpaaW3
import Derived.Test.YtbiifigiobnkpaaRat5
import Derived.Test.YtbiifigiobnkpaaPairs
namespace Go.Proofs.Try
open Go.RowKit
set_option linter.unusedVariables false

theorem least_facts (l : List (Int × Int)) (n a i : Nat) (hi : i < n) (hd : lD l a ≠ 0) (h1 : ∀ j, j < n → lD l j ≠ 0 → 0 ≤ lV l j a) (h2 : ∀ j, j < a → lD l j ≠ 0 → lV l a j < 0) :
    rcE (l.getD a (0, 0)).2 (l.getD i (0, 0)).2 = 20 ∨ (rcE (l.getD a (0, 0)).2 (l.getD i (0, 0)).2 = 0 ∧ rcV (l.getD a (0, 0)).1 (l.getD a (0, 0)).2 (l.getD i (0, 0)).1 (l.getD i (0, 0)).2 ≤ 0 ∧
      (a ≤ i ∨ rcV (l.getD a (0, 0)).1 (l.getD a (0, 0)).2 (l.getD i (0, 0)).1 (l.getD i (0, 0)).2 < 0)) := by
  by_cases hz : lD l i = 0
  · left; unfold rcE; rw [if_pos (.inr hz)]
  · right
    refine ⟨by unfold rcE; rw [if_neg (fun h => h.elim hd hz)], ?_, ?_⟩
    · have := h1 i hi hz
      have e1 : ¬ lV l i a < 0 := by omega
      have e2 := fun q => e1 ((lV_lt l i a hz hd).2 q)
      show lV l a i ≤ 0
      have e0 : lV l a i = cmpI ((l.getD a (0, 0)).1 * (l.getD i (0, 0)).2) ((l.getD i (0, 0)).1 * (l.getD a (0, 0)).2) := rcV_at _ _ _ _ hd hz
      rw [e0]
      unfold cmpI
      have e3 : (l.getD a (0, 0)).1 * lD l i ≤ (l.getD i (0, 0)).1 * lD l a := Int.not_lt.1 e2
      unfold lD at e3
      (repeat' split) <;> omega
    · rcases Nat.lt_or_ge i a with g | g
      · exact .inr (h2 i g hz)
      · exact .inl g

set_option maxRecDepth 100000 in
set_option maxHeartbeats 4000000 in
theorem least_walk (b off n c : Nat) (l : List (Int × Int)) (hr : R64 l) (hn : n ≤ 100) (w : World) (h : Sees w 2 (some ⟨b, off, none⟩) n (flat l)) :
    Calls Try.prog 7 #[.slice (some ⟨b, off, none⟩) n c] w fun e w' => e = .returned (.bool true) ∧ Below w.heap.size w w' := by
  have HR := Lib.hid hr
  have HS : Hid (∀ W, Below w.heap.size w W → Sees W 2 (some ⟨b, off, none⟩) n (flat l)) := fun W hb => h.below hb
  rcases lst_ok l hr n with ⟨e1, e2, e3⟩ | ⟨e1, e2, e3, e4, e5⟩
  · have HL : Hid (lstS l n = (0, false)) := by show lstS l n = (0, false); rw [show lstS l n = ((lstS l n).1, (lstS l n).2) from rfl, e1, e2]
    have HZ := Lib.hid e3
    clear e1 e2 e3 hr
    go_enter Try.func7, Try.ntmps7
    go_wp2_with fail
    with_reducible refine (awake3 _).mono ?_
    rintro e w1 ⟨rfl, hb1⟩
    have hz1 := hb1.size
    go_wp2_with fail
    with_reducible refine (least_t _ _ _ l 0 false HL.out HR.out (by omega) _ (HS.out _ (by (repeat' (first | (with_reducible exact Below.refl _ _) | (with_reducible assumption) | (with_reducible refine Below.alloc ?_ ?_ _) | (with_reducible refine Below.drew ?_) | (with_reducible refine Below_drewN ?_ _) | (with_reducible refine Below.setCell ?_ ?_ _) | (refine Below.step (B' := ?_) (b := ?_) ?_ ?_ ?_; rotate_left 2; (with_reducible assumption)) | go_size))))).mono ?_
    rintro e w2 ⟨rfl, hb2⟩
    have hz2 := hb2.size
    have h2 := HS.out w2 (by (repeat' (first | (with_reducible exact Below.refl _ _) | (with_reducible assumption) | (with_reducible refine Below.alloc ?_ ?_ _) | (with_reducible refine Below.drew ?_) | (with_reducible refine Below_drewN ?_ _) | (with_reducible refine Below.setCell ?_ ?_ _) | (refine Below.step (B' := ?_) (b := ?_) ?_ ?_ ?_; rotate_left 2; (with_reducible assumption)) | go_size)))
    go_wp2_with fail
    go_loop [6] (fun s6 => ∃ k : Nat, k ≤ n ∧ s6 = .int .i64 k) (fun s6 => n - (intOf s6).toNat)
    case atStart => exact ⟨0, by omega, rfl⟩
    case round =>
      obtain ⟨k, hk, rfl⟩ := hrel
      by_cases hlt : k < n
      · obtain ⟨c0, c1, _⟩ := h2.pair hlt
        have hz : (l.getD k (0, 0)).2 = 0 := HZ.out k hlt
        rw [hz] at c1
        clear hz c0
        go_wp2_with fail
        go_round
        case rel => exact ⟨k + 1, by omega, by go_num⟩
        case measure => simp [intOf]; omega
      · obtain rfl : k = n := by omega
        go_wp2_with fail
        go_ret
        exact ⟨rfl, by (repeat' (first | (with_reducible exact Below.refl _ _) | (with_reducible assumption) | (with_reducible refine Below.alloc ?_ ?_ _) | (with_reducible refine Below.drew ?_) | (with_reducible refine Below_drewN ?_ _) | (with_reducible refine Below.setCell ?_ ?_ _) | (refine Below.step (B' := ?_) (b := ?_) ?_ ?_ ?_; rotate_left 2; (with_reducible assumption)) | go_size))⟩
  · obtain ⟨a, ha⟩ : ∃ a, (lstS l n).1 = a := ⟨_, rfl⟩
    rw [ha] at e2 e3 e4 e5
    have HL : Hid (lstS l n = (a, true)) := by show lstS l n = (a, true); rw [show lstS l n = ((lstS l n).1, (lstS l n).2) from rfl, e1, ha]
    have HF : Hid (∀ i, i < n → _) := fun i hi => least_facts l n a i hi e3 e4 e5
    have hpa : 0 < (l.getD a (0, 0)).2 := by have := (hr a).2.2.1; unfold lD at e3; omega
    obtain ⟨q0, q1, q2, q3⟩ := hr a
    obtain ⟨c0, c1, hbl⟩ := h.pair e2
    obtain ⟨x, hx⟩ : ∃ x, (l.getD a (0, 0)).1 = x := ⟨_, rfl⟩
    obtain ⟨y, hy⟩ : ∃ y, (l.getD a (0, 0)).2 = y := ⟨_, rfl⟩
    rw [hx] at c0 q0 q1
    rw [hy] at c1 q2 q3 hpa
    have HX := Lib.hid hx
    have HY := Lib.hid hy
    have hy0 : (y == 0) = false := by simp; omega
    have hA0 : decide ((a : Int) < 0) = false := by simp
    have hNA : decide (n ≤ a) = false := by simp; omega
    have hN0 : decide ((100 : Int) < (n : Int)) = false := by simp; omega
    clear e1 e3 e4 e5 hr ha hx hy
    go_enter Try.func7, Try.ntmps7
    go_wp2_with fail
    with_reducible refine (awake3 _).mono ?_
    rintro e w1 ⟨rfl, hb1⟩
    have hz1 := hb1.size
    go_wp2_with fail
    with_reducible refine (least_t _ _ _ l a true HL.out HR.out (by omega) _ (HS.out _ (by (repeat' (first | (with_reducible exact Below.refl _ _) | (with_reducible assumption) | (with_reducible refine Below.alloc ?_ ?_ _) | (with_reducible refine Below.drew ?_) | (with_reducible refine Below_drewN ?_ _) | (with_reducible refine Below.setCell ?_ ?_ _) | (refine Below.step (B' := ?_) (b := ?_) ?_ ?_ ?_; rotate_left 2; (with_reducible assumption)) | go_size))))).mono ?_
    rintro e w2 ⟨rfl, hb2⟩
    have hz2 := hb2.size
    have hb12 : Below w.heap.size w w2 := by (repeat' (first | (with_reducible exact Below.refl _ _) | (with_reducible assumption) | (with_reducible refine Below.alloc ?_ ?_ _) | (with_reducible refine Below.drew ?_) | (with_reducible refine Below_drewN ?_ _) | (with_reducible refine Below.setCell ?_ ?_ _) | (refine Below.step (B' := ?_) (b := ?_) ?_ ?_ ?_; rotate_left 2; (with_reducible assumption)) | go_size))
    have h2 := HS.out w2 hb12
    have f0 := (hb12.cell (p := ⟨b, off + a * 2, none⟩) hbl).trans c0
    have f1 := (hb12.cell (p := ⟨b, off + a * 2 + 1, none⟩) hbl).trans c1
    have hbl2 : b < w2.heap.size := Nat.lt_of_lt_of_le hbl hb12.size
    go_wp2_with fail
    go_loopw [7] (fun s7 wr => ∃ k : Nat, k ≤ n ∧ s7 = .int .i64 k ∧ Below w2.heap.size w2 wr) (fun s7 _ => n - (intOf s7).toNat)
    case atStart => exact ⟨0, by omega, rfl, Below.refl _ _⟩
    case round =>
      obtain ⟨k, hk, rfl, hb⟩ := hrel
      have hzr := hb.size
      by_cases hlt : k < n
      · obtain ⟨d0, d1, hbr⟩ := (h2.below hb).pair hlt
        have g0 := (hb.cell (p := ⟨b, off + a * 2, none⟩) hbl2).trans f0
        have g1 := (hb.cell (p := ⟨b, off + a * 2 + 1, none⟩) hbl2).trans f1
        obtain ⟨p0, p1, p2, p3⟩ := HR.out k
        have HK := HF.out k hlt
        rw [HX.out, HY.out] at HK
        obtain ⟨u, hu⟩ : ∃ u, (l.getD k (0, 0)).1 = u := ⟨_, rfl⟩
        obtain ⟨v, hv⟩ : ∃ v, (l.getD k (0, 0)).2 = v := ⟨_, rfl⟩
        rw [hu] at d0 p0 p1 HK
        rw [hv] at d1 p2 p3 HK
        clear hu hv
        rcases HK with he | ⟨he, hv1, hv2⟩
        · go_wp2_with fail
          (refine region_later (by kernel_rfl) (by kernel_rfl) ?_); (intro hlat); (repeat (go_big_quiet_step ((go_at_call 16; with_reducible exact later_call (rcmp_c _ _ _ _ q0 q2 p0 p2 q1 q3 p1 p3 _))))); (refine wpQuiet_nil ?_); (intro W1 hbW); (clear hlat)
          go_wp2_with fail
          go_roundw
          case rel => first | exact ⟨k + 1, by omega, by go_num, by (repeat' (first | (with_reducible exact Below.refl _ _) | (with_reducible assumption) | (with_reducible refine Below.alloc ?_ ?_ _) | (with_reducible refine Below.drew ?_) | (with_reducible refine Below_drewN ?_ _) | (with_reducible refine Below.setCell ?_ ?_ _) | (refine Below.step (B' := ?_) (b := ?_) ?_ ?_ ?_; rotate_left 2; (with_reducible assumption)) | go_size))⟩ | ((repeat apply Exists.intro); exact ⟨⟨k + 1, by omega, by go_num, by (repeat' (first | (with_reducible exact Below.refl _ _) | (with_reducible assumption) | (with_reducible refine Below.alloc ?_ ?_ _) | (with_reducible refine Below.drew ?_) | (with_reducible refine Below_drewN ?_ _) | (with_reducible refine Below.setCell ?_ ?_ _) | (refine Below.step (B' := ?_) (b := ?_) ?_ ?_ ?_; rotate_left 2; (with_reducible assumption)) | go_size))⟩, rfl⟩)
          case measure => simp [intOf]; omega
        · rcases hv2 with hv2 | hv2
          · go_wp2_with fail
            (refine region_later (by kernel_rfl) (by kernel_rfl) ?_); (intro hlat); (repeat (go_big_quiet_step ((go_at_call 16; with_reducible exact later_call (rcmp_c _ _ _ _ q0 q2 p0 p2 q1 q3 p1 p3 _))))); (refine wpQuiet_nil ?_); (intro W1 hbW); (clear hlat)
            go_wp2_with fail
            go_roundw
            case rel => first | exact ⟨k + 1, by omega, by go_num, by (repeat' (first | (with_reducible exact Below.refl _ _) | (with_reducible assumption) | (with_reducible refine Below.alloc ?_ ?_ _) | (with_reducible refine Below.drew ?_) | (with_reducible refine Below_drewN ?_ _) | (with_reducible refine Below.setCell ?_ ?_ _) | (refine Below.step (B' := ?_) (b := ?_) ?_ ?_ ?_; rotate_left 2; (with_reducible assumption)) | go_size))⟩ | ((repeat apply Exists.intro); exact ⟨⟨k + 1, by omega, by go_num, by (repeat' (first | (with_reducible exact Below.refl _ _) | (with_reducible assumption) | (with_reducible refine Below.alloc ?_ ?_ _) | (with_reducible refine Below.drew ?_) | (with_reducible refine Below_drewN ?_ _) | (with_reducible refine Below.setCell ?_ ?_ _) | (refine Below.step (B' := ?_) (b := ?_) ?_ ?_ ?_; rotate_left 2; (with_reducible assumption)) | go_size))⟩, rfl⟩)
            case measure => simp [intOf]; omega
          · have hv3 : (rcV x y u v == 0) = false := by simp; omega
            go_wp2_with fail
            (refine region_later (by kernel_rfl) (by kernel_rfl) ?_); (intro hlat); (repeat (go_big_quiet_step ((go_at_call 16; with_reducible exact later_call (rcmp_c _ _ _ _ q0 q2 p0 p2 q1 q3 p1 p3 _))))); (refine wpQuiet_nil ?_); (intro W1 hbW); (clear hlat)
            go_wp2_with fail
            all_goals
              go_roundw
              case rel => first | exact ⟨k + 1, by omega, by go_num, by (repeat' (first | (with_reducible exact Below.refl _ _) | (with_reducible assumption) | (with_reducible refine Below.alloc ?_ ?_ _) | (with_reducible refine Below.drew ?_) | (with_reducible refine Below_drewN ?_ _) | (with_reducible refine Below.setCell ?_ ?_ _) | (refine Below.step (B' := ?_) (b := ?_) ?_ ?_ ?_; rotate_left 2; (with_reducible assumption)) | go_size))⟩ | ((repeat apply Exists.intro); exact ⟨⟨k + 1, by omega, by go_num, by (repeat' (first | (with_reducible exact Below.refl _ _) | (with_reducible assumption) | (with_reducible refine Below.alloc ?_ ?_ _) | (with_reducible refine Below.drew ?_) | (with_reducible refine Below_drewN ?_ _) | (with_reducible refine Below.setCell ?_ ?_ _) | (refine Below.step (B' := ?_) (b := ?_) ?_ ?_ ?_; rotate_left 2; (with_reducible assumption)) | go_size))⟩, rfl⟩)
              case measure => simp [intOf]; omega
      · obtain rfl : k = n := by omega
        go_wp2_with fail
        go_ret
        exact ⟨rfl, by (repeat' (first | (with_reducible exact Below.refl _ _) | (with_reducible assumption) | (with_reducible refine Below.alloc ?_ ?_ _) | (with_reducible refine Below.drew ?_) | (with_reducible refine Below_drewN ?_ _) | (with_reducible refine Below.setCell ?_ ?_ _) | (refine Below.step (B' := ?_) (b := ?_) ?_ ?_ ?_; rotate_left 2; (with_reducible assumption)) | go_size))⟩

theorem walk_RatioLeast (v0 : Value) (w : World) (o0 : ∃ l, Pairs w v0 l) :
    Calls Try.prog 7 #[v0] w fun e w' => e = .returned (.bool true) ∧ Below w.heap.size w w' := by
  obtain ⟨l, A, n, c, rfl, hcA, hn, hA, hr⟩ := o0
  by_cases hn1 : n ≤ 100
  · rcases hA.2 with h0 | ⟨b, off, rfl, _, _⟩
    · subst h0
      have HS : Hid (∀ W, Below w.heap.size w W → Sees W 2 A 0 (flat l)) := fun W hb => hA.below hb
      have HR := Lib.hid hr
      clear hr
      go_enter Try.func7, Try.ntmps7
      go_wp2_with fail
      with_reducible refine (awake3 _).mono ?_
      rintro e w1 ⟨rfl, hb1⟩
      have hz1 := hb1.size
      go_wp2_with fail
      with_reducible refine (least_t _ _ _ l 0 false rfl HR.out (by omega) _ (HS.out _ (by (repeat' (first | (with_reducible exact Below.refl _ _) | (with_reducible assumption) | (with_reducible refine Below.alloc ?_ ?_ _) | (with_reducible refine Below.drew ?_) | (with_reducible refine Below_drewN ?_ _) | (with_reducible refine Below.setCell ?_ ?_ _) | (refine Below.step (B' := ?_) (b := ?_) ?_ ?_ ?_; rotate_left 2; (with_reducible assumption)) | go_size))))).mono ?_
      rintro e w2 ⟨rfl, hb2⟩
      have hz2 := hb2.size
      go_wp2_with fail
      go_loop [6] (fun s6 => s6 = .int .i64 0) (fun s6 => 0)
      case atStart => rfl
      case round =>
        subst hrel
        go_wp2_with fail
        go_ret
        exact ⟨rfl, by (repeat' (first | (with_reducible exact Below.refl _ _) | (with_reducible assumption) | (with_reducible refine Below.alloc ?_ ?_ _) | (with_reducible refine Below.drew ?_) | (with_reducible refine Below_drewN ?_ _) | (with_reducible refine Below.setCell ?_ ?_ _) | (refine Below.step (B' := ?_) (b := ?_) ?_ ?_ ?_; rotate_left 2; (with_reducible assumption)) | go_size))⟩
    · exact least_walk b off n c l hr hn1 w hA
  · go_enter Try.func7, Try.ntmps7
    go_wp2_with fail
    with_reducible refine (awake3 _).mono ?_
    rintro e w1 ⟨rfl, hb1⟩
    go_wp2_with fail
    go_ret
    exact ⟨rfl, by (repeat' (first | (with_reducible exact Below.refl _ _) | (with_reducible assumption) | (with_reducible refine Below.alloc ?_ ?_ _) | (with_reducible refine Below.drew ?_) | (with_reducible refine Below_drewN ?_ _) | (with_reducible refine Below.setCell ?_ ?_ _) | (refine Below.step (B' := ?_) (b := ?_) ?_ ?_ ?_; rotate_left 2; (with_reducible assumption)) | go_size))⟩
end Go.Proofs.Try
