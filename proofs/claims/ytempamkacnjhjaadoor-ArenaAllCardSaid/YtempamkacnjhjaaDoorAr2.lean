/- arena.Check. -/
import Derived.Test.YtempamkacnjhjaaDoorAr
import Derived.Test.YtempamkacnjhjaaDoorCls
namespace Go.Proofs.Tryd
open Go.RowKit
set_option linter.unusedVariables false
set_option linter.unusedSimpArgs false
theorem clsS_sl (c : Int) : clsS c = ((slN c : Nat) : Int) := by
  unfold clsS slN
  repeat' split
  all_goals first | rfl | omega
theorem wrong_fin (K u : Nat) (hk : K ≠ 0) (hu : u ≠ 0) : ((K : Int) == 0 || (u : Int) == 0 || (u : Int) / 2 ^ K != 0) = (u / 2 ^ K != 0) := by
  have e1 : ((K : Int) == 0) = false := by simp; omega
  have e2 : ((u : Int) == 0) = false := by simp; omega
  have e3 : (u : Int) / 2 ^ K = ((u / 2 ^ K : Nat) : Int) := by simp
  rw [e1, e2, e3]
  generalize u / 2 ^ K = z
  cases z with
  | zero => rfl
  | succ n => simp [bne]; omega
theorem shr_zero (u k : Nat) : u / 2 ^ k = 0 ↔ u < 2 ^ k := by
  rw [Nat.div_eq_zero_iff]
  have := Nat.two_pow_pos k
  omega
set_option maxRecDepth 100000 in
set_option maxHeartbeats 2000000 in
theorem wrong_c (c : Int) (u : Nat) (hu : u < 18446744073709551616) (w : World) :
    Calls Tryd.prog 17 #[.agg #[.int .i64 c, .int .u64 (u : Int)]] w fun r w' => r = .returned (.bool (decide ¬okS (c, u))) ∧ Below w.heap.size w w' := by
  have hs := slots_c c
  rw [clsS_sl] at hs
  by_cases hc : c = -1
  · subst hc
    by_cases h0 : u = 0
    · subst h0
      have e : (decide (¬okS (-1, 0))) = false := by decide
      rw [e]
      go_enter Tryd.func17, Tryd.ntmps17
      go_wp2_with fail
      go_ret
      exact ⟨rfl, by (repeat' (first | (with_reducible exact Below.refl _ _) | (with_reducible assumption) | (with_reducible refine Below.alloc ?_ ?_ _) | (with_reducible refine Below.drew ?_) | (with_reducible refine Below_drewN ?_ _) | (with_reducible refine Below.setCell ?_ ?_ _) | (refine Below.step (B' := ?_) (b := ?_) ?_ ?_ ?_; rotate_left 2; (with_reducible assumption)) | go_size))⟩
    · have e : (decide (¬okS (-1, u))) = true := by simp [okS, h0]
      have h0i : (u : Int) ≠ 0 := by omega
      have h0b : ((u : Int) != 0) = true := by simp; omega
      rw [e]
      go_enter Tryd.func17, Tryd.ntmps17
      go_wp2_with fail
      go_ret
      exact ⟨by first | rfl | (simp; omega), by (repeat' (first | (with_reducible exact Below.refl _ _) | (with_reducible assumption) | (with_reducible refine Below.alloc ?_ ?_ _) | (with_reducible refine Below.drew ?_) | (with_reducible refine Below_drewN ?_ _) | (with_reducible refine Below.setCell ?_ ?_ _) | (refine Below.step (B' := ?_) (b := ?_) ?_ ?_ ?_; rotate_left 2; (with_reducible assumption)) | go_size))⟩
  · have hcb : (c == -1) = false := by simp [hc]
    have hkl := slN_le c
    have hok : okS (c, u) ↔ slN c ≠ 0 ∧ u ≠ 0 ∧ u / 2 ^ slN c = 0 := by
      unfold okS
      rw [shr_zero]
      simp only
      constructor
      · rintro (⟨a, b⟩ | ⟨a, b, d, f⟩)
        · exact absurd a hc
        · exact ⟨b, d, f⟩
      · rintro ⟨b, d, f⟩
        exact .inr ⟨hc, b, d, f⟩
    by_cases hk : slN c = 0
    · have e : (decide (¬okS (c, u))) = true := by simp only [decide_eq_true_eq]; rw [hok]; exact fun h => h.1 hk
      rw [e]
      rw [hk] at hs
      go_enter Tryd.func17, Tryd.ntmps17
      go_wp2_with fail
      with_reducible refine (hs _).mono ?_
      rintro e w1 ⟨rfl, rfl⟩
      go_wp2_with fail
      go_ret
      exact ⟨rfl, by (repeat' (first | (with_reducible exact Below.refl _ _) | (with_reducible assumption) | (with_reducible refine Below.alloc ?_ ?_ _) | (with_reducible refine Below.drew ?_) | (with_reducible refine Below_drewN ?_ _) | (with_reducible refine Below.setCell ?_ ?_ _) | (refine Below.step (B' := ?_) (b := ?_) ?_ ?_ ?_; rotate_left 2; (with_reducible assumption)) | go_size))⟩
    · by_cases h0 : u = 0
      · have e : (decide (¬okS (c, u))) = true := by simp only [decide_eq_true_eq]; rw [hok]; exact fun h => h.2.1 h0
        rw [e]
        have hki : ((slN c : Nat) : Int) ≠ 0 := by omega
        have hkp : (0 : Int) < ((slN c : Nat) : Int) := by omega
        subst h0
        generalize slN c = K at *
        go_enter Tryd.func17, Tryd.ntmps17
        go_wp2_with fail
        with_reducible refine (hs _).mono ?_
        rintro e w1 ⟨rfl, rfl⟩
        go_wp2_with fail
        go_ret
        exact ⟨by first | rfl | (simp; done), by (repeat' (first | (with_reducible exact Below.refl _ _) | (with_reducible assumption) | (with_reducible refine Below.alloc ?_ ?_ _) | (with_reducible refine Below.drew ?_) | (with_reducible refine Below_drewN ?_ _) | (with_reducible refine Below.setCell ?_ ?_ _) | (refine Below.step (B' := ?_) (b := ?_) ?_ ?_ ?_; rotate_left 2; (with_reducible assumption)) | go_size))⟩
      · have e : (decide (¬okS (c, u))) = ((u / 2 ^ slN c : Nat) != 0) := by
          have h2 : okS (c, u) ↔ u / 2 ^ slN c = 0 := hok.trans ⟨fun h => h.2.2, fun h => ⟨hk, h0, h⟩⟩
          by_cases hz : u / 2 ^ slN c = 0
          · rw [decide_eq_false (by rw [h2]; exact fun h => h hz), hz]; rfl
          · rw [decide_eq_true (by rw [h2]; exact hz)]; exact (bne_iff_ne.2 hz).symm
        rw [e]
        have hki : ((slN c : Nat) : Int) ≠ 0 := by omega
        have hkp : (0 : Int) < ((slN c : Nat) : Int) := by omega
        have hui : (u : Int) ≠ 0 := by omega
        clear hok e
        generalize slN c = K at *
        go_enter Tryd.func17, Tryd.ntmps17
        go_wp2_with fail
        with_reducible refine (hs _).mono ?_
        rintro e w1 ⟨rfl, rfl⟩
        go_wp2_with fail
        go_ret
        exact ⟨by first | rfl | (congr 2; exact wrong_fin K u hk h0) | (rw [← wrong_fin K u hk h0]; rfl), by (repeat' (first | (with_reducible exact Below.refl _ _) | (with_reducible assumption) | (with_reducible refine Below.alloc ?_ ?_ _) | (with_reducible refine Below.drew ?_) | (with_reducible refine Below_drewN ?_ _) | (with_reducible refine Below.setCell ?_ ?_ _) | (refine Below.step (B' := ?_) (b := ?_) ?_ ?_ ?_; rotate_left 2; (with_reducible assumption)) | go_size))⟩
end Go.Proofs.Tryd
