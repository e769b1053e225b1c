/- The contract of linhayref03.Least. -/
import Derived.Test.YtbiifigiobnkpaaRat4
namespace Go.Proofs.Try
open Go.RowKit
set_option linter.unusedVariables false

theorem rcV_at (an ad bn bd : Int) (h1 : ad ≠ 0) (h2 : bd ≠ 0) : rcV an ad bn bd = cmpI (an * bd) (bn * ad) := by unfold rcV; rw [if_neg (by omega)]
theorem rcV_lt (an ad bn bd : Int) (h1 : ad ≠ 0) (h2 : bd ≠ 0) : rcV an ad bn bd < 0 ↔ an * bd < bn * ad := by
  rw [rcV_at an ad bn bd h1 h2]; unfold cmpI; (repeat' split) <;> omega
theorem cr_trans (an ad bn bd cn cd : Int) (ha : 0 < ad) (hb : 0 < bd) (hc : 0 < cd) (h1 : an * bd < bn * ad) (h2 : bn * cd ≤ cn * bd) : an * cd < cn * ad := by
  have e1 : an * bd * cd < bn * ad * cd := Int.mul_lt_mul_of_pos_right h1 hc
  have e2 : bn * cd * ad ≤ cn * bd * ad := Int.mul_le_mul_of_nonneg_right h2 (by omega)
  have e3 : an * bd * cd = an * cd * bd := by rw [Int.mul_assoc, Int.mul_comm bd cd, ← Int.mul_assoc]
  have e4 : bn * ad * cd = bn * cd * ad := by rw [Int.mul_assoc, Int.mul_comm ad cd, ← Int.mul_assoc]
  have e5 : cn * bd * ad = cn * ad * bd := by rw [Int.mul_assoc, Int.mul_comm bd ad, ← Int.mul_assoc]
  have e6 : an * cd * bd < cn * ad * bd := by rw [← e3, ← e5]; omega
  exact Int.lt_of_mul_lt_mul_right e6 (by omega)

/-- How the j-th ratio stands beside the i-th. -/
def lV (l : List (Int × Int)) (j i : Nat) : Int := rcV (l.getD j (0, 0)).1 (l.getD j (0, 0)).2 (l.getD i (0, 0)).1 (l.getD i (0, 0)).2
def lD (l : List (Int × Int)) (j : Nat) : Int := (l.getD j (0, 0)).2
theorem lV_lt (l : List (Int × Int)) (j i : Nat) (h1 : lD l j ≠ 0) (h2 : lD l i ≠ 0) : lV l j i < 0 ↔ (l.getD j (0, 0)).1 * lD l i < (l.getD i (0, 0)).1 * lD l j := rcV_lt _ _ _ _ h1 h2
theorem lV_self (l : List (Int × Int)) (j : Nat) (h : lD l j ≠ 0) : 0 ≤ lV l j j := by
  have := lV_lt l j j h h
  omega
def LstOk (l : List (Int × Int)) (k : Nat) (s : Nat × Bool) : Prop :=
  (s.2 = false ∧ s.1 = 0 ∧ ∀ j, j < k → lD l j = 0) ∨ (s.2 = true ∧ s.1 < k ∧ lD l s.1 ≠ 0 ∧ (∀ j, j < k → lD l j ≠ 0 → 0 ≤ lV l j s.1) ∧ ∀ j, j < s.1 → lD l j ≠ 0 → lV l s.1 j < 0)
theorem lst_ok (l : List (Int × Int)) (hr : R64 l) (k : Nat) : LstOk l k (lstS l k) := by
  induction k with
  | zero => exact .inl ⟨rfl, rfl, fun j hj => by omega⟩
  | succ k ih =>
    obtain ⟨n1, n2, n3, n4⟩ := lstS_next l k (lstS l k).1 (lstS l k).2 rfl
    have next : ∀ j, j < k + 1 → j < k ∨ j = k := fun j h => by omega
    by_cases hd : lD l k = 0
    · rw [n1 hd]
      rcases ih with ⟨a, b, c⟩ | ⟨a, b, c, d, e⟩
      · exact .inl ⟨a, b, fun j hj => (next j hj).elim (c j) (fun h => by rw [h]; exact hd)⟩
      · exact .inr ⟨a, by omega, c, fun j hj h => (next j hj).elim (fun g => d j g h) (fun g => absurd (g ▸ hd) h), e⟩
    · rcases ih with ⟨a, b, c⟩ | ⟨a, b, c, d, e⟩
      · rw [n2 hd a]
        refine .inr ⟨rfl, by simp, hd, fun j hj h => ?_, fun j hj h => absurd (c j hj) h⟩
        rcases next j hj with g | g
        · exact absurd (c j g) h
        · subst g
          exact lV_self l j h
      · have pos : ∀ j, lD l j ≠ 0 → 0 < lD l j := fun j h => by have := (hr j).2.2.1; unfold lD at *; omega
        by_cases hv : lV l k (lstS l k).1 < 0
        · rw [n3 hd a hv]
          have key : ∀ j, j < k → lD l j ≠ 0 → lV l k j < 0 := fun j hj h => by
            have h1 := (lV_lt l _ _ hd c).1 hv
            have h2 : ¬ lV l j (lstS l k).1 < 0 := by have := d j hj h; omega
            exact (lV_lt l _ _ hd h).2 (cr_trans _ _ _ _ _ _ (pos k hd) (pos _ c) (pos j h) h1 (Int.not_lt.1 fun q => h2 ((lV_lt l _ _ h c).2 q)))
          refine .inr ⟨rfl, by simp, hd, fun j hj h => ?_, fun j hj h => key j hj h⟩
          rcases next j hj with g | g
          · have h1 := (lV_lt l _ _ hd h).1 (key j g h)
            have h2 : ¬ lV l j k < 0 := fun q => by have := (lV_lt l _ _ h hd).1 q; omega
            show 0 ≤ lV l j k
            omega
          · subst g
            exact lV_self l j h
        · rw [n4 hd a hv]
          exact .inr ⟨a, by omega, c, fun j hj h => (next j hj).elim (fun g => d j g h) (fun g => by subst g; show 0 ≤ lV l j (lstS l j).1; omega), e⟩

/-- No one of the first k is below the i-th, which is a ratio. -/
def preB (l : List (Int × Int)) (i : Nat) : Nat → Bool
  | 0 => decide (0 < lD l i)
  | k + 1 => preB l i k && (decide (rcE (lD l k) (lD l i) ≠ 0) || decide (0 ≤ lV l k i))
theorem preB_spec (l : List (Int × Int)) (i k : Nat) : preB l i k = true ↔ 0 < lD l i ∧ ∀ j, j < k → lD l j = 0 ∨ lD l i = 0 ∨ 0 ≤ lV l j i := by
  induction k with
  | zero => simp [preB]
  | succ k ih =>
    have e : rcE (lD l k) (lD l i) ≠ 0 ↔ lD l k = 0 ∨ lD l i = 0 := by unfold rcE; split <;> simp_all
    rw [preB, Bool.and_eq_true, ih, Bool.or_eq_true, decide_eq_true_eq, decide_eq_true_eq, e]
    constructor
    · rintro ⟨⟨h1, h2⟩, h3⟩
      refine ⟨h1, fun j hj => ?_⟩
      rcases (by omega : j < k ∨ j = k) with g | g
      · exact h2 j g
      · subst g; rcases h3 with (h3 | h3) | h3 <;> simp [h3]
    · rintro ⟨h1, h2⟩
      refine ⟨⟨h1, fun j hj => h2 j (by omega)⟩, ?_⟩
      rcases h2 k (by omega) with h | h | h <;> simp [h]
theorem pre_yes (l : List (Int × Int)) (hr : R64 l) (n i : Nat) (hi : i < n) (h : preB l i n = true) (ha : ∀ j, j < i → preB l j n = false) : lstS l n = (i, true) := by
  obtain ⟨p1, p2⟩ := (preB_spec l i n).1 h
  have hs : lstS l n = ((lstS l n).1, (lstS l n).2) := rfl
  rcases lst_ok l hr n with ⟨a, b, c⟩ | ⟨a, b, c, d, e⟩
  · have := c i hi; omega
  · have pos : 0 < lD l (lstS l n).1 := by have := (hr (lstS l n).1).2.2.1; unfold lD at *; omega
    have hfull : preB l (lstS l n).1 n = true := (preB_spec l _ n).2 ⟨pos, fun j hj => by
      by_cases hz : lD l j = 0
      · exact .inl hz
      · exact .inr (.inr (d j hj hz))⟩
    have h1 : ¬ (lstS l n).1 < i := fun q => by have := ha _ q; rw [hfull] at this; cases this
    have h2 : ¬ i < (lstS l n).1 := fun q => by
      have h3 := e i q (by omega)
      rcases p2 (lstS l n).1 b with g | g | g <;> omega
    rw [hs, a, show (lstS l n).1 = i by omega]
theorem pre_no (l : List (Int × Int)) (hr : R64 l) (n : Nat) (ha : ∀ j, j < n → preB l j n = false) : lstS l n = (0, false) := by
  have hs : lstS l n = ((lstS l n).1, (lstS l n).2) := rfl
  rcases lst_ok l hr n with ⟨a, b, c⟩ | ⟨a, b, c, d, e⟩
  · rw [hs, a, b]
  · have pos : 0 < lD l (lstS l n).1 := by have := (hr (lstS l n).1).2.2.1; unfold lD at *; omega
    have hfull : preB l (lstS l n).1 n = true := (preB_spec l _ n).2 ⟨pos, fun j hj => by
      by_cases hz : lD l j = 0
      · exact .inl hz
      · exact .inr (.inr (d j hj hz))⟩
    have := ha _ b
    rw [hfull] at this
    cases this

set_option maxRecDepth 100000 in
set_option maxHeartbeats 4000000 in
theorem rleast_c (b off n c : Nat) (l : List (Int × Int)) (hr : R64 l) (hn : n ≤ 1000000) (w : World) (h : Sees w 2 (some ⟨b, off, none⟩) n (flat l)) :
    Calls Try.prog 19 #[.slice (some ⟨b, off, none⟩) n c] w fun r w' => r = .returned (.tuple #[.int .i64 (lstS l n).1, .bool (lstS l n).2]) ∧ Below w.heap.size w w' := by
  have HR := Lib.hid hr
  clear hr
  go_enter Try.func19, Try.ntmps19
  go_wp2_with fail
  go_loopw [4] (fun s4 wr => ∃ i : Nat, i ≤ n ∧ s4 = .int .i64 i ∧ Hid (∀ j, j < i → preB l j n = false) ∧ Below w.heap.size w wr) (fun s4 _ => n - (intOf s4).toNat)
  case atStart => exact ⟨0, by omega, rfl, fun j hj => by omega, Below.refl _ _⟩
  case round =>
    obtain ⟨i, hi, rfl, HI, hbo⟩ := hrel
    obtain ⟨wo, hwo⟩ : ∃ wo : World, wo = wr := ⟨_, rfl⟩
    subst hwo
    by_cases hlt : i < n
    · have hw := h.below hbo
      obtain ⟨c0, c1, hbl⟩ := hw.pair hlt
      obtain ⟨q0, q1, q2, q3⟩ := HR.out i
      have hz := hbo.size
      have hP0 : Hid (preB l i 0 = decide (0 < (l.getD i (0, 0)).2)) := rfl
      have HX : Hid ((l.getD i (0, 0)).1 = (l.getD i (0, 0)).1) := rfl
      have HD : Hid (lD l i = (l.getD i (0, 0)).2) := rfl
      have HV : Hid (∀ k, lV l k i = rcV (l.getD k (0, 0)).1 (l.getD k (0, 0)).2 (l.getD i (0, 0)).1 (l.getD i (0, 0)).2) := fun k => rfl
      generalize (l.getD i (0, 0)).1 = x at c0 q0 q1 HX HV
      generalize (l.getD i (0, 0)).2 = y at c1 q2 q3 hP0 HD HV
      clear HX
      go_wp2_with fail
      go_loopw [5, 6] (fun s5 s6 wr => ∃ k : Nat, k ≤ n ∧ s6 = .int .i64 k ∧ s5 = .bool (preB l i k) ∧ Below wo.heap.size wo wr) (fun _ s6 _ => n - (intOf s6).toNat)
      case atStart => exact ⟨0, by omega, rfl, by rw [hP0.out], Below.refl _ _⟩
      case round =>
        obtain ⟨k, hk, rfl, rfl, hb⟩ := hrel
        by_cases hlk : k < n
        · have hw2 := hw.below hb
          obtain ⟨d0, d1, hbl2⟩ := hw2.pair hlk
          have e0 := (hb.cell (p := ⟨b, off + i * 2, none⟩) hbl).trans c0
          have e1 := (hb.cell (p := ⟨b, off + i * 2 + 1, none⟩) hbl).trans c1
          obtain ⟨p0, p1, p2, p3⟩ := HR.out k
          have hz2 := hb.size
          have HP : Hid (preB l i (k + 1) = (preB l i k && (decide (rcE (l.getD k (0, 0)).2 y ≠ 0) || decide (0 ≤ rcV (l.getD k (0, 0)).1 (l.getD k (0, 0)).2 x y)))) := by
            show preB l i (k + 1) = _
            rw [preB, HV.out k, HD.out]; rfl
          generalize (l.getD k (0, 0)).1 = u at d0 p0 p1 HP
          generalize (l.getD k (0, 0)).2 = v at d1 p2 p3 HP
          cases hq : preB l i k
          · have HN := Lib.hid (show preB l i (k + 1) = false by rw [HP.out, hq]; rfl)
            clear HP
            go_wp2_with fail
            (refine region_later (by kernel_rfl) (by kernel_rfl) ?_); (intro hlat); (repeat (go_big_quiet_step ((go_at_call 17; with_reducible exact later_call (rrcmp_c _ _ _ _ p0 p2 q0 q2 p1 p3 q1 q3 _))))); (refine wpQuiet_nil ?_); (intro W1 hbW); (clear hlat)
            go_wp2_with fail
            go_roundw
            case rel => exact ⟨k + 1, by omega, by go_num, by rw [HN.out], by (repeat' (first | (with_reducible exact Below.refl _ _) | (with_reducible assumption) | (with_reducible refine Below.alloc ?_ ?_ _) | (with_reducible refine Below.drew ?_) | (with_reducible refine Below_drewN ?_ _) | (with_reducible refine Below.setCell ?_ ?_ _) | (refine Below.step (B' := ?_) (b := ?_) ?_ ?_ ?_; rotate_left 2; (with_reducible assumption)) | go_size))⟩
            case measure => simp [intOf]; omega
          · by_cases hz0 : v = 0 ∨ y = 0
            · have he : rcE v y = 20 := by unfold rcE; rw [if_pos hz0]
              have HN := Lib.hid (show preB l i (k + 1) = true by rw [HP.out, hq, he]; rfl)
              clear HP hz0
              go_wp2_with fail
              (refine region_later (by kernel_rfl) (by kernel_rfl) ?_); (intro hlat); (repeat (go_big_quiet_step ((go_at_call 17; with_reducible exact later_call (rrcmp_c _ _ _ _ p0 p2 q0 q2 p1 p3 q1 q3 _))))); (refine wpQuiet_nil ?_); (intro W1 hbW); (clear hlat)
              go_wp2_with fail
              go_roundw
              case rel => exact ⟨k + 1, by omega, by go_num, by rw [HN.out], by (repeat' (first | (with_reducible exact Below.refl _ _) | (with_reducible assumption) | (with_reducible refine Below.alloc ?_ ?_ _) | (with_reducible refine Below.drew ?_) | (with_reducible refine Below_drewN ?_ _) | (with_reducible refine Below.setCell ?_ ?_ _) | (refine Below.step (B' := ?_) (b := ?_) ?_ ?_ ?_; rotate_left 2; (with_reducible assumption)) | go_size))⟩
              case measure => simp [intOf]; omega
            · have he : rcE v y = 0 := by unfold rcE; rw [if_neg hz0]
              by_cases hv : 0 ≤ rcV u v x y
              · have HN := Lib.hid (show preB l i (k + 1) = true by rw [HP.out, hq, he]; simp [hv])
                clear HP hz0
                go_wp2_with fail
                (refine region_later (by kernel_rfl) (by kernel_rfl) ?_); (intro hlat); (repeat (go_big_quiet_step ((go_at_call 17; with_reducible exact later_call (rrcmp_c _ _ _ _ p0 p2 q0 q2 p1 p3 q1 q3 _))))); (refine wpQuiet_nil ?_); (intro W1 hbW); (clear hlat)
                go_wp2_with fail
                go_roundw
                case rel => exact ⟨k + 1, by omega, by go_num, by rw [HN.out], by (repeat' (first | (with_reducible exact Below.refl _ _) | (with_reducible assumption) | (with_reducible refine Below.alloc ?_ ?_ _) | (with_reducible refine Below.drew ?_) | (with_reducible refine Below_drewN ?_ _) | (with_reducible refine Below.setCell ?_ ?_ _) | (refine Below.step (B' := ?_) (b := ?_) ?_ ?_ ?_; rotate_left 2; (with_reducible assumption)) | go_size))⟩
                case measure => simp [intOf]; omega
              · have HN := Lib.hid (show preB l i (k + 1) = false by rw [HP.out, hq, he]; simp; omega)
                have hv' : decide (0 ≤ rcV u v x y) = false := by simpa using hv
                have hv2 : rcV u v x y < 0 := by omega
                clear HP hz0 hv
                go_wp2_with fail
                (refine region_later (by kernel_rfl) (by kernel_rfl) ?_); (intro hlat); (repeat (go_big_quiet_step ((go_at_call 17; with_reducible exact later_call (rrcmp_c _ _ _ _ p0 p2 q0 q2 p1 p3 q1 q3 _))))); (refine wpQuiet_nil ?_); (intro W1 hbW); (clear hlat)
                go_wp2_with fail
                go_roundw
                case rel => exact ⟨k + 1, by omega, by go_num, by first | (rw [HN.out]; done) | (rw [HN.out]; simp; omega), by (repeat' (first | (with_reducible exact Below.refl _ _) | (with_reducible assumption) | (with_reducible refine Below.alloc ?_ ?_ _) | (with_reducible refine Below.drew ?_) | (with_reducible refine Below_drewN ?_ _) | (with_reducible refine Below.setCell ?_ ?_ _) | (refine Below.step (B' := ?_) (b := ?_) ?_ ?_ ?_; rotate_left 2; (with_reducible assumption)) | go_size))⟩
                case measure => simp [intOf]; omega
        · obtain rfl : k = n := by omega
          cases hq : preB l i k
          · go_wp2_with fail
            go_roundw
            case rel => exact ⟨i + 1, by omega, by go_num, fun j hj => (by omega : j < i ∨ j = i).elim (HI.out j) (fun g => by rw [g]; exact hq), by (repeat' (first | (with_reducible exact Below.refl _ _) | (with_reducible assumption) | (with_reducible refine Below.alloc ?_ ?_ _) | (with_reducible refine Below.drew ?_) | (with_reducible refine Below_drewN ?_ _) | (with_reducible refine Below.setCell ?_ ?_ _) | (refine Below.step (B' := ?_) (b := ?_) ?_ ?_ ?_; rotate_left 2; (with_reducible assumption)) | go_size))⟩
            case measure => simp [intOf]; omega
          · have HY := Lib.hid (pre_yes l HR.out k i hlt hq HI.out)
            go_wp2_with fail
            go_ret2
            exact ⟨by rw [HY.out]; try rfl, by (repeat' (first | (with_reducible exact Below.refl _ _) | (with_reducible assumption) | (with_reducible refine Below.alloc ?_ ?_ _) | (with_reducible refine Below.drew ?_) | (with_reducible refine Below_drewN ?_ _) | (with_reducible refine Below.setCell ?_ ?_ _) | (refine Below.step (B' := ?_) (b := ?_) ?_ ?_ ?_; rotate_left 2; (with_reducible assumption)) | go_size))⟩
    · obtain rfl : i = n := by omega
      have HN := Lib.hid (pre_no l HR.out i HI.out)
      go_wp2_with fail
      go_ret2
      exact ⟨by rw [HN.out]; try rfl, by (repeat' (first | (with_reducible exact Below.refl _ _) | (with_reducible assumption) | (with_reducible refine Below.alloc ?_ ?_ _) | (with_reducible refine Below.drew ?_) | (with_reducible refine Below_drewN ?_ _) | (with_reducible refine Below.setCell ?_ ?_ _) | (refine Below.step (B' := ?_) (b := ?_) ?_ ?_ ?_; rotate_left 2; (with_reducible assumption)) | go_size))⟩

theorem rleast_nil (A : Option Addr) (c : Nat) (l : List (Int × Int)) (w : World) :
    Calls Try.prog 19 #[.slice A 0 c] w fun r w' => r = .returned (.tuple #[.int .i64 (lstS l 0).1, .bool (lstS l 0).2]) ∧ Below w.heap.size w w' := by
  go_enter Try.func19, Try.ntmps19
  go_wp2_with fail
  go_loop [4] (fun i => i = .int .i64 0) (fun _ => 0)
  case atStart => rfl
  case round =>
    subst hrel
    go_wp2_with fail
    go_ret2
    exact ⟨rfl, Below.refl _ _⟩
theorem rleast_s (A : Option Addr) (n c : Nat) (l : List (Int × Int)) (hr : R64 l) (hn : n ≤ 1000000) (w : World) (h : Sees w 2 A n (flat l)) :
    Calls Try.prog 19 #[.slice A n c] w fun r w' => r = .returned (.tuple #[.int .i64 (lstS l n).1, .bool (lstS l n).2]) ∧ Below w.heap.size w w' := by
  rcases h.2 with h0 | ⟨b, off, rfl, _, _⟩
  · subst h0; exact rleast_nil A c l w
  · exact rleast_c b off n c l hr hn w h
end Go.Proofs.Try
