/- expo.Ratio, Below; awake of layer 5. -/
import Derived.Test.YtjcclobnpbgmcaaDoorExpo2
import Derived.Test.YtjcclobnpbgmcaaDoorFix
namespace Go.Proofs.Tryd
open Go.RowKit
set_option linter.unusedVariables false
set_option linter.unusedSimpArgs false

def ratioN (a b : Nat) : Nat := if b = 0 then 0 else if a * 4294967296 / b < 18446744073709551616 then ofx (a * 4294967296 / b) else 0
theorem fl_cases (a b : Nat) : (fl (a : Int) 4294967296 (b : Int) = ((a * 4294967296 / b : Nat) : Int) ∧ flE (a : Int) 4294967296 (b : Int) = 0 ∧ a * 4294967296 / b < 18446744073709551616 ∧ ratioN a b = ofx (a * 4294967296 / b)) ∨ (∃ e, fl (a : Int) 4294967296 (b : Int) = 0 ∧ flE (a : Int) 4294967296 (b : Int) = e ∧ e ≠ 0 ∧ ratioN a b = 0) := by
  unfold fl flE ratioN
  have e : (a : Int) * 4294967296 / (b : Int) = ((a * 4294967296 / b : Nat) : Int) := by simp
  rw [e]
  by_cases hb : b = 0
  · right
    refine ⟨20, ?_, ?_, by omega, ?_⟩
    · rw [if_pos (by omega)]
    · rw [if_pos (by omega)]
    · rw [if_pos hb]
  · by_cases hl : a * 4294967296 / b < 18446744073709551616
    · left
      refine ⟨?_, ?_, hl, ?_⟩
      · rw [if_neg (by omega), if_pos (by omega)]
      · rw [if_neg (by omega), if_pos (by omega)]
      · rw [if_neg hb, if_pos hl]
    · right
      refine ⟨10, ?_, ?_, by omega, ?_⟩
      · rw [if_neg (by omega), if_neg (by omega)]
      · rw [if_neg (by omega), if_neg (by omega)]
      · rw [if_neg hb, if_neg hl]
theorem ratioN_le (a b : Nat) : ratioN a b ≤ 4294967296 := by
  unfold ratioN
  split
  · omega
  · split
    · exact ofx_le _
    · omega
set_option maxRecDepth 100000 in
set_option maxHeartbeats 2000000 in
theorem oratio_c (a b : Nat) (ha : a < 18446744073709551616) (hb : b < 18446744073709551616) (w : World) (hT : Pows w) :
    Calls Tryd.prog 50 #[.int .u64 (a : Int), .int .u64 (b : Int)] w fun r w' => r = .returned (.int .u64 ((ratioN a b : Nat) : Int)) ∧ Below w.heap.size w w' := by
  have HT := Lib.hid hT
  clear hT
  have HF := fof_c (a : Int) (b : Int) (by omega) (by omega) (by omega) (by omega)
  rcases fl_cases a b with ⟨f1, f2, f3, f4⟩ | ⟨e, f1, f2, f3, f4⟩
  · rw [f1, f2] at HF
    have HO := oexpo_c (a * 4294967296 / b) f3
    rw [← f4] at HO
    clear f1 f2 f4
    generalize a * 4294967296 / b = X at *
    generalize ratioN a b = R at *
    go_enter Tryd.func50, Tryd.ntmps50
    go_wp2_with fail
    with_reducible refine (HF _).mono ?_
    rintro e w1 ⟨rfl, hb1⟩
    have HT1 := Lib.hid (HT.out.below hb1)
    go_wp2_with fail
    with_reducible refine (HO _ HT1.out).mono ?_
    rintro e w2 ⟨rfl, hb2⟩
    go_wp2_with fail
    go_ret
    exact ⟨rfl, chain hb1 hb2⟩
  · rw [f1, f2] at HF
    have e0 : (e != 0) = true := by rw [bne_iff_ne]; exact f3
    rw [f4]
    clear f1 f2 f4 f3
    go_enter Tryd.func50, Tryd.ntmps50
    go_wp2_with fail
    with_reducible refine (HF _).mono ?_
    rintro e w1 ⟨rfl, hb1⟩
    go_wp2_with fail
    go_ret
    exact ⟨rfl, hb1⟩
theorem r77 : ratioN 7 7 = 1580030168 := by unfold ratioN; rw [if_neg (by omega), if_pos (by decide), show 7 * 4294967296 / 7 = 4294967296 from rfl, ofx_one]
theorem r70 : ratioN 7 0 = 0 := by unfold ratioN; rw [if_pos rfl]
theorem r07 : ratioN 0 7 = 4294967296 := by unfold ratioN; rw [if_neg (by omega), if_pos (by decide), show 0 * 4294967296 / 7 = 0 from rfl, ofx_zero]
theorem r11 : ratioN 1 1 = 1580030168 := by unfold ratioN; rw [if_neg (by omega), if_pos (by decide), show 1 * 4294967296 / 1 = 4294967296 from rfl, ofx_one]
end Go.Proofs.Tryd
