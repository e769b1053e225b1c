/- The walk of LhdAges. -/
import Derived.Test.YtjkjnpcikddoaaaW19
import Derived.Lib.ItoaNum
namespace Go.Proofs.Try
open Go.RowKit
set_option linter.unusedVariables false
set_option linter.unusedSimpArgs false
def ageN (t : Int) : Int := if t < 1 then 0 else if t < 2 then 1 else if t < 4 then 2 else if t < 8 then 3 else if t < 16 then 4 else if t < 32 then 5 else if t < 64 then 6 else 7
theorem age_eq (t : Int) (h0 : 0 ≤ t) (h1 : t < 18446744073709551616) : min (Lib.bitLen t.toNat : Int) 7 = ageN t := by
  obtain ⟨x, rfl⟩ := Int.eq_ofNat_of_zero_le h0
  rw [Int.toNat_natCast]
  by_cases hx : x = 0
  · subst hx
    decide +kernel
  · obtain ⟨n1, n2, n3⟩ := Lib.bitLenAux_bounds 64 x (by omega) hx
    rw [show Lib.bitLenAux 64 x = Lib.bitLen x from rfl] at n1 n2 n3
    generalize Lib.bitLen x = n at n1 n2 n3
    unfold ageN
    by_cases h7 : n < 7
    · have : n = 1 ∨ n = 2 ∨ n = 3 ∨ n = 4 ∨ n = 5 ∨ n = 6 := by omega
      rcases this with rfl | rfl | rfl | rfl | rfl | rfl <;> simp only [Nat.reduceSub, Nat.reducePow] at n2 n3 <;> (repeat (first | rw [if_neg (by omega)] | rw [if_pos (by omega)])) <;> omega
    · have h64 : 2 ^ 6 ≤ 2 ^ (n - 1) := Nat.pow_le_pow_right (by omega) (by omega)
      have : 64 ≤ x := by
        have : (2 : Nat) ^ 6 = 64 := by decide
        omega
      repeat rw [if_neg (by omega)]
      omega
theorem age_mono (a b : Int) (h : a ≤ b) : ageN a ≤ ageN b := by
  unfold ageN
  repeat' split
  all_goals omega
theorem agec (t : Int) (h0 : 0 ≤ t) (h1 : t < 18446744073709551616) (w : World) : Calls Try.prog 30 #[.int .u64 t] w fun e w' => e = .returned (.int .i64 (ageN t)) ∧ w = w' := by
  rw [← age_eq t h0 h1]
  exact age_c t h0 h1 w
theorem age_class (a : Int) (h0 : 0 ≤ a) : (ageN a = 0 ∧ a = 0) ∨ (ageN a = 1 ∧ 1 ≤ a ∧ a < 2) ∨ (ageN a = 2 ∧ 2 ≤ a ∧ a < 4) ∨ (ageN a = 3 ∧ 4 ≤ a ∧ a < 8) ∨ (ageN a = 4 ∧ 8 ≤ a ∧ a < 16) ∨ (ageN a = 5 ∧ 16 ≤ a ∧ a < 32) ∨ (ageN a = 6 ∧ 32 ≤ a ∧ a < 64) ∨ (ageN a = 7 ∧ 64 ≤ a) := by
  unfold ageN
  repeat' split
  all_goals omega
set_option maxRecDepth 100000 in
set_option maxHeartbeats 4000000 in
theorem walk_LhdAges (a b : Int) (w1 : (Lit.int .u64 a).wf = true) (w2 : (Lit.int .u64 b).wf = true) (w : World) :
    Calls Try.prog 9 #[.int .u64 a, .int .u64 b] w fun e w' => e = .returned (.bool true) ∧ Below w.heap.size w w' := by
  have ba := bounds_u64 w1
  have bb := bounds_u64 w2
  clear w1 w2
  have A := fun W => agec a (by omega) (by omega) W
  have AN := fun W => agec (min a b) (by omega) (by omega) W
  have AX := fun W => agec (max a b) (by omega) (by omega) W
  have hlh := age_mono (min a b) (max a b) (by omega)
  have hc := age_class a (by omega)
  generalize ageN (min a b) = L at *
  generalize ageN (max a b) = H at *
  generalize ageN a = N at *
  have HB := Lib.hid bb
  clear bb
  rcases hc with ⟨rfl, hr⟩ | ⟨rfl, hr⟩ | ⟨rfl, hr⟩ | ⟨rfl, hr⟩ | ⟨rfl, hr⟩ | ⟨rfl, hr⟩ | ⟨rfl, hr⟩ | ⟨rfl, hr⟩
  · subst hr
    go_enter Try.func9, Try.ntmps9
    go_wp2_with fail
    with_reducible refine (awake19 _).mono ?_
    rintro e w1 ⟨rfl, hb1⟩
    go_wp2_with fail
    with_reducible refine (A _).mono ?_
    rintro e w' ⟨rfl, rfl⟩
    go_wp2_with fail
    with_reducible refine (AN _).mono ?_
    rintro e w' ⟨rfl, rfl⟩
    go_wp2_with fail
    with_reducible refine (AX _).mono ?_
    rintro e w' ⟨rfl, rfl⟩
    go_wp2_with fail
    go_ret
    exact ⟨rfl, hb1⟩
  · go_enter Try.func9, Try.ntmps9
    go_wp2_with fail
    with_reducible refine (awake19 _).mono ?_
    rintro e w1 ⟨rfl, hb1⟩
    go_wp2_with fail
    with_reducible refine (A _).mono ?_
    rintro e w' ⟨rfl, rfl⟩
    go_wp2_with fail
    with_reducible refine (AN _).mono ?_
    rintro e w' ⟨rfl, rfl⟩
    go_wp2_with fail
    with_reducible refine (AX _).mono ?_
    rintro e w' ⟨rfl, rfl⟩
    go_wp2_with fail
    go_ret
    exact ⟨rfl, hb1⟩
  · go_enter Try.func9, Try.ntmps9
    go_wp2_with fail
    with_reducible refine (awake19 _).mono ?_
    rintro e w1 ⟨rfl, hb1⟩
    go_wp2_with fail
    with_reducible refine (A _).mono ?_
    rintro e w' ⟨rfl, rfl⟩
    go_wp2_with fail
    with_reducible refine (AN _).mono ?_
    rintro e w' ⟨rfl, rfl⟩
    go_wp2_with fail
    with_reducible refine (AX _).mono ?_
    rintro e w' ⟨rfl, rfl⟩
    go_wp2_with fail
    go_ret
    exact ⟨rfl, hb1⟩
  · go_enter Try.func9, Try.ntmps9
    go_wp2_with fail
    with_reducible refine (awake19 _).mono ?_
    rintro e w1 ⟨rfl, hb1⟩
    go_wp2_with fail
    with_reducible refine (A _).mono ?_
    rintro e w' ⟨rfl, rfl⟩
    go_wp2_with fail
    with_reducible refine (AN _).mono ?_
    rintro e w' ⟨rfl, rfl⟩
    go_wp2_with fail
    with_reducible refine (AX _).mono ?_
    rintro e w' ⟨rfl, rfl⟩
    go_wp2_with fail
    go_ret
    exact ⟨rfl, hb1⟩
  · go_enter Try.func9, Try.ntmps9
    go_wp2_with fail
    with_reducible refine (awake19 _).mono ?_
    rintro e w1 ⟨rfl, hb1⟩
    go_wp2_with fail
    with_reducible refine (A _).mono ?_
    rintro e w' ⟨rfl, rfl⟩
    go_wp2_with fail
    with_reducible refine (AN _).mono ?_
    rintro e w' ⟨rfl, rfl⟩
    go_wp2_with fail
    with_reducible refine (AX _).mono ?_
    rintro e w' ⟨rfl, rfl⟩
    go_wp2_with fail
    go_ret
    exact ⟨rfl, hb1⟩
  · go_enter Try.func9, Try.ntmps9
    go_wp2_with fail
    with_reducible refine (awake19 _).mono ?_
    rintro e w1 ⟨rfl, hb1⟩
    go_wp2_with fail
    with_reducible refine (A _).mono ?_
    rintro e w' ⟨rfl, rfl⟩
    go_wp2_with fail
    with_reducible refine (AN _).mono ?_
    rintro e w' ⟨rfl, rfl⟩
    go_wp2_with fail
    with_reducible refine (AX _).mono ?_
    rintro e w' ⟨rfl, rfl⟩
    go_wp2_with fail
    go_ret
    exact ⟨rfl, hb1⟩
  · go_enter Try.func9, Try.ntmps9
    go_wp2_with fail
    with_reducible refine (awake19 _).mono ?_
    rintro e w1 ⟨rfl, hb1⟩
    go_wp2_with fail
    with_reducible refine (A _).mono ?_
    rintro e w' ⟨rfl, rfl⟩
    go_wp2_with fail
    with_reducible refine (AN _).mono ?_
    rintro e w' ⟨rfl, rfl⟩
    go_wp2_with fail
    with_reducible refine (AX _).mono ?_
    rintro e w' ⟨rfl, rfl⟩
    go_wp2_with fail
    go_ret
    exact ⟨rfl, hb1⟩
  · go_enter Try.func9, Try.ntmps9
    go_wp2_with fail
    with_reducible refine (awake19 _).mono ?_
    rintro e w1 ⟨rfl, hb1⟩
    go_wp2_with fail
    with_reducible refine (A _).mono ?_
    rintro e w' ⟨rfl, rfl⟩
    go_wp2_with fail
    with_reducible refine (AN _).mono ?_
    rintro e w' ⟨rfl, rfl⟩
    go_wp2_with fail
    with_reducible refine (AX _).mono ?_
    rintro e w' ⟨rfl, rfl⟩
    go_wp2_with fail
    go_ret
    exact ⟨rfl, hb1⟩
end Go.Proofs.Try
