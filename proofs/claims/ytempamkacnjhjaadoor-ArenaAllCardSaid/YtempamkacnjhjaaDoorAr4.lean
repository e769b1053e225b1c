/- arena.taken, Has. -/
import Derived.Test.YtempamkacnjhjaaDoorAr3
import Derived.Laws.Bits64
import Derived.Laws.Bits64b
namespace Go.Proofs.Tryd
open Go.RowKit
set_option linter.unusedVariables false
set_option linter.unusedSimpArgs false
theorem bit_and' (x k : Nat) (hx : x < 18446744073709551616) : bits .and .u64 ((x : Int) / 2 ^ k) 1 = if x.testBit k then 1 else 0 := by
  have e : (x : Int) / 2 ^ k = ((x / 2 ^ k : Nat) : Int) := by simp
  have hd : x / 2 ^ k ≤ x := Nat.div_le_self _ _
  have h := bits_and_u64_nat (x / 2 ^ k) 1 (by omega) (by omega)
  rw [e]
  rw [show ((1 : Nat) : Int) = 1 from rfl] at h
  rw [h, Nat.and_one_is_mod, Nat.testBit_eq_decide_div_mod_eq]
  rcases Nat.mod_two_eq_zero_or_one (x / 2 ^ k) with h1 | h1 <;> simp [h1]
theorem bit_min (x k : Nat) (hx : x < 18446744073709551616) : x.testBit (min k 64) = x.testBit k := by
  by_cases h : k ≤ 64
  · rw [Nat.min_eq_left h]
  · rw [Nat.min_eq_right (by omega), Nat.testBit_lt_two_pow (show x < 2 ^ 64 by omega), Nat.testBit_lt_two_pow (Nat.lt_of_lt_of_le (show x < 2 ^ 64 by omega) (Nat.pow_le_pow_right (by omega) (by omega)))]
set_option maxRecDepth 100000 in
set_option maxHeartbeats 2000000 in
theorem taken_in (b off n c : Nat) (l : List Sg) (i k : Nat) (hi : i < n) (hn : n ≤ 1000000) (hu : ∀ j, (at' l j).2 < 18446744073709551616) (w : World) (h : Sees w 2 (some ⟨b, off, none⟩) n (segC l)) :
    Calls Tryd.prog 16 #[.slice (some ⟨b, off, none⟩) n c, .agg #[.int .i64 (i : Int), .int .i64 (k : Int)]] w fun e w' => e = .returned (.bool (tkL l i k)) ∧ Below w.heap.size w w' := by
  obtain ⟨c0, c1, hbl⟩ := h.seg hi
  have hA := bit_and' (at' l i).2 (min k 64) (hu i)
  rw [bit_min _ _ (hu i)] at hA
  have hii : (i : Int) < (n : Int) := by omega
  have hi0 : (0 : Int) ≤ (i : Int) := by omega
  have hk0 : (0 : Int) ≤ (k : Int) := by omega
  have hni : decide ((n : Int) ≤ (i : Int)) = false := by simp; omega
  have hnn : decide (n ≤ i) = false := by simp; omega
  have HT := Lib.hid (show tkL l i k = (at' l i).2.testBit k from rfl)
  by_cases hb : (at' l i).2.testBit k = true
  · rw [if_pos hb] at hA
    rw [hb] at HT
    clear hb hu
    generalize (at' l i).1 = x at *
    generalize (at' l i).2 = y at *
    go_enter Tryd.func16, Tryd.ntmps16
    go_wp2_with fail
    go_quiet (fail)
    go_wp2_with fail
    go_ret
    exact ⟨by first | rfl | (rw [HT.out]; rfl), by (repeat' (first | (with_reducible exact Below.refl _ _) | (with_reducible assumption) | (with_reducible refine Below.alloc ?_ ?_ _) | (with_reducible refine Below.drew ?_) | (with_reducible refine Below_drewN ?_ _) | (with_reducible refine Below.setCell ?_ ?_ _) | (refine Below.step (B' := ?_) (b := ?_) ?_ ?_ ?_; rotate_left 2; (with_reducible assumption)) | go_size))⟩
  · rw [if_neg hb] at hA
    rw [Bool.not_eq_true] at hb
    rw [hb] at HT
    clear hb hu
    generalize (at' l i).1 = x at *
    generalize (at' l i).2 = y at *
    go_enter Tryd.func16, Tryd.ntmps16
    go_wp2_with fail
    go_quiet (fail)
    go_wp2_with fail
    go_ret
    exact ⟨by first | rfl | (rw [HT.out]; rfl), by (repeat' (first | (with_reducible exact Below.refl _ _) | (with_reducible assumption) | (with_reducible refine Below.alloc ?_ ?_ _) | (with_reducible refine Below.drew ?_) | (with_reducible refine Below_drewN ?_ _) | (with_reducible refine Below.setCell ?_ ?_ _) | (refine Below.step (B' := ?_) (b := ?_) ?_ ?_ ?_; rotate_left 2; (with_reducible assumption)) | go_size))⟩
theorem taken_no (A : Option Addr) (n c : Nat) (i k : Int) (h : i < 0 ∨ (n : Int) ≤ i ∨ k < 0) (hn : n ≤ 1000000) (w : World) :
    Calls Tryd.prog 16 #[.slice A n c, .agg #[.int .i64 i, .int .i64 k]] w fun e w' => e = .returned (.bool false) ∧ Below w.heap.size w w' := by
  by_cases h1 : i < 0
  · go_enter Tryd.func16, Tryd.ntmps16
    go_wp2_with fail
    go_ret
    exact ⟨rfl, by (repeat' (first | (with_reducible exact Below.refl _ _) | (with_reducible assumption) | (with_reducible refine Below.alloc ?_ ?_ _) | (with_reducible refine Below.drew ?_) | (with_reducible refine Below_drewN ?_ _) | (with_reducible refine Below.setCell ?_ ?_ _) | (refine Below.step (B' := ?_) (b := ?_) ?_ ?_ ?_; rotate_left 2; (with_reducible assumption)) | go_size))⟩
  · have d1 : decide (i < 0) = false := by simp; omega
    by_cases h2 : (n : Int) ≤ i
    · go_enter Tryd.func16, Tryd.ntmps16
      go_wp2_with fail
      go_ret
      exact ⟨rfl, by (repeat' (first | (with_reducible exact Below.refl _ _) | (with_reducible assumption) | (with_reducible refine Below.alloc ?_ ?_ _) | (with_reducible refine Below.drew ?_) | (with_reducible refine Below_drewN ?_ _) | (with_reducible refine Below.setCell ?_ ?_ _) | (refine Below.step (B' := ?_) (b := ?_) ?_ ?_ ?_; rotate_left 2; (with_reducible assumption)) | go_size))⟩
    · have d2 : decide ((n : Int) ≤ i) = false := by simp; omega
      have h3 : k < 0 := by omega
      go_enter Tryd.func16, Tryd.ntmps16
      go_wp2_with fail
      go_ret
      exact ⟨rfl, by (repeat' (first | (with_reducible exact Below.refl _ _) | (with_reducible assumption) | (with_reducible refine Below.alloc ?_ ?_ _) | (with_reducible refine Below.drew ?_) | (with_reducible refine Below_drewN ?_ _) | (with_reducible refine Below.setCell ?_ ?_ _) | (refine Below.step (B' := ?_) (b := ?_) ?_ ?_ ?_; rotate_left 2; (with_reducible assumption)) | go_size))⟩
end Go.Proofs.Tryd
