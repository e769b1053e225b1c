/- expo.Ratio, Below; awake of layer 5. -/
import Derived.Test.YtighjibggjjieaaDoorExpo2
import Derived.Test.YtighjibggjjieaaDoorFix
namespace Go.Proofs.Tryd
open Go.RowKit
set_option linter.unusedVariables false
set_option linter.unusedSimpArgs false

def ratioN (a b : Nat) : Nat := if b = 0 then 0 else if a * 4294967296 / b < 18446744073709551616 then ofx (a * 4294967296 / b) else 0
theorem fl_cases (a b : Nat) : (fl (a : Int) 4294967296 (b : Int) = ((a * 4294967296 / b : Nat) : Int) ∧ flE (a : Int) 4294967296 (b : Int) = 0 ∧ a * 4294967296 / b < 18446744073709551616 ∧ ratioN a b = ofx (a * 4294967296 / b)) ∨ (∃ e, fl (a : Int) 4294967296 (b : Int) = 0 ∧ flE (a : Int) 4294967296 (b : Int) = e ∧ e ≠ 0 ∧ ratioN a b = 0) := by
  unfold fl flE ratioN
  have e : (a : Int) * 4294967296 / (b : Int) = ((a * 4294967296 / b : Nat) : Int) := by simp
  rw [e]
  by_cases hb : b = 0
  · right
    refine ⟨20, ?_, ?_, by omega, ?_⟩
    · rw [if_pos (by omega)]
    · rw [if_pos (by omega)]
    · rw [if_pos hb]
  · by_cases hl : a * 4294967296 / b < 18446744073709551616
    · left
      refine ⟨?_, ?_, hl, ?_⟩
      · rw [if_neg (by omega), if_pos (by omega)]
      · rw [if_neg (by omega), if_pos (by omega)]
      · rw [if_neg hb, if_pos hl]
    · right
      refine ⟨10, ?_, ?_, by omega, ?_⟩
      · rw [if_neg (by omega), if_neg (by omega)]
      · rw [if_neg (by omega), if_neg (by omega)]
      · rw [if_neg hb, if_neg hl]
theorem ratioN_le (a b : Nat) : ratioN a b ≤ 4294967296 := by
  unfold ratioN
  split
  · omega
  · split
    · exact ofx_le _
    · omega
set_option maxRecDepth 100000 in
set_option maxHeartbeats 2000000 in
theorem oratio_c (a b : Nat) (ha : a < 18446744073709551616) (hb : b < 18446744073709551616) (w : World) (hT : Pows w) :
    Calls Tryd.prog 12 #[.int .u64 (a : Int), .int .u64 (b : Int)] w fun r w' => r = .returned (.int .u64 ((ratioN a b : Nat) : Int)) ∧ Below w.heap.size w w' := by
  have HT := Lib.hid hT
  clear hT
  have HF := fof_c (a : Int) (b : Int) (by omega) (by omega) (by omega) (by omega)
  rcases fl_cases a b with ⟨f1, f2, f3, f4⟩ | ⟨e, f1, f2, f3, f4⟩
  · rw [f1, f2] at HF
    have HO := oexpo_c (a * 4294967296 / b) f3
    rw [← f4] at HO
    clear f1 f2 f4
    generalize a * 4294967296 / b = X at *
    generalize ratioN a b = R at *
    go_enter Tryd.func12, Tryd.ntmps12
    go_wp2_with fail
    with_reducible refine (HF _).mono ?_
    rintro e w1 ⟨rfl, hb1⟩
    have HT1 := Lib.hid (HT.out.below hb1)
    go_wp2_with fail
    with_reducible refine (HO _ HT1.out).mono ?_
    rintro e w2 ⟨rfl, hb2⟩
    go_wp2_with fail
    go_ret
    exact ⟨rfl, chain hb1 hb2⟩
  · rw [f1, f2] at HF
    have e0 : (e != 0) = true := by rw [bne_iff_ne]; exact f3
    rw [f4]
    clear f1 f2 f4 f3
    go_enter Tryd.func12, Tryd.ntmps12
    go_wp2_with fail
    with_reducible refine (HF _).mono ?_
    rintro e w1 ⟨rfl, hb1⟩
    go_wp2_with fail
    go_ret
    exact ⟨rfl, hb1⟩
set_option maxRecDepth 100000 in
set_option maxHeartbeats 2000000 in
theorem obelow_c (d a b : Nat) (hd : d < 4294967296) (ha : a < 18446744073709551616) (hb : b < 18446744073709551616) (w : World) (hT : Pows w) :
    Calls Tryd.prog 13 #[.int .u32 (d : Int), .int .u64 (a : Int), .int .u64 (b : Int)] w fun r w' => r = .returned (.bool (decide (d < ratioN a b))) ∧ Below w.heap.size w w' := by
  have HT := Lib.hid hT
  clear hT
  have HO := oratio_c a b ha hb
  go_enter Tryd.func13, Tryd.ntmps13
  go_wp2_with fail
  with_reducible refine (HO _ HT.out).mono ?_
  rintro e w1 ⟨rfl, hb1⟩
  go_wp2_with fail
  go_ret
  exact ⟨ret_b (by first | rfl | simp), hb1⟩
theorem r77 : ratioN 7 7 = 1580030168 := by unfold ratioN; rw [if_neg (by omega), if_pos (by decide), show 7 * 4294967296 / 7 = 4294967296 from rfl, ofx_one]
theorem r70 : ratioN 7 0 = 0 := by unfold ratioN; rw [if_pos rfl]
theorem r07 : ratioN 0 7 = 4294967296 := by unfold ratioN; rw [if_neg (by omega), if_pos (by decide), show 0 * 4294967296 / 7 = 0 from rfl, ofx_zero]
theorem r11 : ratioN 1 1 = 1580030168 := by unfold ratioN; rw [if_neg (by omega), if_pos (by decide), show 1 * 4294967296 / 1 = 4294967296 from rfl, ofx_one]
set_option maxRecDepth 100000 in
set_option maxHeartbeats 2000000 in
theorem awake5 (w : World) (hT : Pows w) :
    Calls Tryd.prog 8 #[] w fun r w' => r = .returned (.bool true) ∧ Below w.heap.size w w' := by
  have HT := Lib.hid hT
  clear hT
  have C1 : ∀ w : World, Pows w → Calls Tryd.prog 10 #[.int .u64 0] w fun r w' => r = .returned (.int .u64 4294967296) ∧ Below w.heap.size w w' := fun w hT => by
    have := oexpo_c 0 (by omega) w hT
    rw [ofx_zero] at this
    exact this
  have C2 : ∀ w : World, Pows w → Calls Tryd.prog 10 #[.int .u64 4294967296] w fun r w' => r = .returned (.int .u64 1580030168) ∧ Below w.heap.size w w' := fun w hT => by
    have := oexpo_c 4294967296 (by omega) w hT
    rw [ofx_one] at this
    exact this
  have C3 : ∀ w : World, Pows w → Calls Tryd.prog 10 #[.int .u64 137438953472] w fun r w' => r = .returned (.int .u64 0) ∧ Below w.heap.size w w' := fun w hT => by
    have := oexpo_c 137438953472 (by omega) w hT
    rw [ofx_big _ (by omega)] at this
    exact this
  have C4 : ∀ w : World, Pows w → Calls Tryd.prog 10 #[.int .u64 18446744073709551615] w fun r w' => r = .returned (.int .u64 0) ∧ Below w.heap.size w w' := fun w hT => by
    have := oexpo_c 18446744073709551615 (by omega) w hT
    rw [ofx_big _ (by omega)] at this
    exact this
  have C5 : ∀ w : World, Pows w → Calls Tryd.prog 12 #[.int .u64 7, .int .u64 7] w fun r w' => r = .returned (.int .u64 1580030168) ∧ Below w.heap.size w w' := fun w hT => by
    have := oratio_c 7 7 (by omega) (by omega) w hT
    rw [r77] at this
    exact this
  have C6 : ∀ w : World, Pows w → Calls Tryd.prog 12 #[.int .u64 7, .int .u64 0] w fun r w' => r = .returned (.int .u64 0) ∧ Below w.heap.size w w' := fun w hT => by
    have := oratio_c 7 0 (by omega) (by omega) w hT
    rw [r70] at this
    exact this
  have C7 : ∀ w : World, Pows w → Calls Tryd.prog 12 #[.int .u64 0, .int .u64 7] w fun r w' => r = .returned (.int .u64 4294967296) ∧ Below w.heap.size w w' := fun w hT => by
    have := oratio_c 0 7 (by omega) (by omega) w hT
    rw [r07] at this
    exact this
  have C8 : ∀ w : World, Pows w → Calls Tryd.prog 13 #[.int .u32 5, .int .u64 1, .int .u64 1] w fun r w' => r = .returned (.bool true) ∧ Below w.heap.size w w' := fun w hT => by
    have := obelow_c 5 1 1 (by omega) (by omega) (by omega) w hT
    rw [r11] at this
    exact this
  have C9 : ∀ w : World, Pows w → Calls Tryd.prog 13 #[.int .u32 2147483648, .int .u64 1, .int .u64 1] w fun r w' => r = .returned (.bool false) ∧ Below w.heap.size w w' := fun w hT => by
    have := obelow_c 2147483648 1 1 (by omega) (by omega) (by omega) w hT
    rw [r11] at this
    exact this
  go_enter Tryd.func8, Tryd.ntmps8
  go_wp2_with fail
  with_reducible refine (C1 _ HT.out).mono ?_
  rintro e w1 ⟨rfl, hb1⟩
  have HT := Lib.hid (HT.out.below hb1)
  go_wp2_with fail
  with_reducible refine (C2 _ HT.out).mono ?_
  rintro e w2 ⟨rfl, hb2⟩
  have HT := Lib.hid (HT.out.below hb2)
  have HB := Lib.hid (chain hb1 hb2)
  clear hb1 hb2
  go_wp2_with fail
  with_reducible refine (C3 _ HT.out).mono ?_
  rintro e w3 ⟨rfl, hb3⟩
  have HT := Lib.hid (HT.out.below hb3)
  have HB := Lib.hid (chain HB.out hb3)
  clear hb3
  go_wp2_with fail
  with_reducible refine (C4 _ HT.out).mono ?_
  rintro e w4 ⟨rfl, hb4⟩
  have HT := Lib.hid (HT.out.below hb4)
  have HB := Lib.hid (chain HB.out hb4)
  clear hb4
  go_wp2_with fail
  with_reducible refine (C5 _ HT.out).mono ?_
  rintro e w5 ⟨rfl, hb5⟩
  have HT := Lib.hid (HT.out.below hb5)
  have HB := Lib.hid (chain HB.out hb5)
  clear hb5
  go_wp2_with fail
  with_reducible refine (C2 _ HT.out).mono ?_
  rintro e w6 ⟨rfl, hb6⟩
  have HT := Lib.hid (HT.out.below hb6)
  have HB := Lib.hid (chain HB.out hb6)
  clear hb6
  go_wp2_with fail
  with_reducible refine (C6 _ HT.out).mono ?_
  rintro e w7 ⟨rfl, hb7⟩
  have HT := Lib.hid (HT.out.below hb7)
  have HB := Lib.hid (chain HB.out hb7)
  clear hb7
  go_wp2_with fail
  with_reducible refine (C7 _ HT.out).mono ?_
  rintro e w8 ⟨rfl, hb8⟩
  have HT := Lib.hid (HT.out.below hb8)
  have HB := Lib.hid (chain HB.out hb8)
  clear hb8
  go_wp2_with fail
  with_reducible refine (C8 _ HT.out).mono ?_
  rintro e w9 ⟨rfl, hb9⟩
  have HT := Lib.hid (HT.out.below hb9)
  have HB := Lib.hid (chain HB.out hb9)
  clear hb9
  go_wp2_with fail
  with_reducible refine (C9 _ HT.out).mono ?_
  rintro e w10 ⟨rfl, hb10⟩
  have HB := Lib.hid (chain HB.out hb10)
  clear hb10
  go_wp2_with fail
  go_ret
  exact ⟨rfl, HB.out⟩
end Go.Proofs.Tryd
