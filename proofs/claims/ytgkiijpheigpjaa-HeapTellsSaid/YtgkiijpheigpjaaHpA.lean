/- heap: compare, Less, parent, named. -/
import Derived.Test.YtgkiijpheigpjaaHp2
import Derived.Test.YtgkiijpheigpjaaRw
import Derived.Test.YtgkiijpheigpjaaLater
import Derived.Test.YtgkiijpheigpjaaChain
import Derived.StillTail
namespace Go.Proofs.Try
open Go.RowKit
set_option linter.unusedVariables false
set_option linter.unusedSimpArgs false
/-- What cmp.Compare tells. -/
def cmpZ (a b : Int) : Int := if a < b then -1 else if b < a then 1 else 0
def orZ (x y z : Int) : Int := if x ≠ 0 then x else if y ≠ 0 then y else z
def cmpI (a b : It) : Int := orZ (cmpZ a.2.1 b.2.1) (cmpZ a.2.2 b.2.2) (cmpZ a.1 b.1)
theorem cmpI_lt (a b : It) : cmpI a b < 0 ↔ LtI a b := by
  unfold cmpI orZ cmpZ LtI
  repeat' split
  all_goals omega
theorem cmpI_in (a b : It) : -1 ≤ cmpI a b ∧ cmpI a b ≤ 1 := by
  unfold cmpI orZ cmpZ
  repeat' split
  all_goals omega
theorem nan_u (a : Int) (w : World) : Calls Try.prog 73 #[.int .u64 a] w fun e w' => e = .returned (.bool false) ∧ w = w' := by
  go_enter Try.func73, Try.ntmps73
  go_wp2_with fail
  go_ret
  exact ⟨by first | rfl | (simp; done), rfl⟩
theorem nan_i (a : Int) (w : World) : Calls Try.prog 74 #[.int .i64 a] w fun e w' => e = .returned (.bool false) ∧ w = w' := by
  go_enter Try.func74, Try.ntmps74
  go_wp2_with fail
  go_ret
  exact ⟨by first | rfl | (simp; done), rfl⟩
theorem cmp_u (a b : Int) (w : World) : Calls Try.prog 64 #[.int .u64 a, .int .u64 b] w fun e w' => e = .returned (.int .i64 (cmpZ a b)) ∧ w = w' := by
  by_cases h : a < b
  · have HE := Lib.hid (show cmpZ a b = -1 by unfold cmpZ; rw [if_pos h])
    go_enter Try.func64, Try.ntmps64
    go_wp2_with ((with_reducible refine (nan_u _ _).mono ?_); rintro e w' ⟨rfl, rfl⟩)
    go_ret
    exact ⟨ret_i HE.out.symm, rfl⟩
  · by_cases k : b < a
    · have HE := Lib.hid (show cmpZ a b = 1 by unfold cmpZ; rw [if_neg h, if_pos k])
      go_enter Try.func64, Try.ntmps64
      go_wp2_with ((with_reducible refine (nan_u _ _).mono ?_); rintro e w' ⟨rfl, rfl⟩)
      go_ret
      exact ⟨ret_i HE.out.symm, rfl⟩
    · have HE := Lib.hid (show cmpZ a b = 0 by unfold cmpZ; rw [if_neg h, if_neg k])
      go_enter Try.func64, Try.ntmps64
      go_wp2_with ((with_reducible refine (nan_u _ _).mono ?_); rintro e w' ⟨rfl, rfl⟩)
      go_ret
      exact ⟨ret_i HE.out.symm, rfl⟩
theorem cmp_i (a b : Int) (w : World) : Calls Try.prog 65 #[.int .i64 a, .int .i64 b] w fun e w' => e = .returned (.int .i64 (cmpZ a b)) ∧ w = w' := by
  by_cases h : a < b
  · have HE := Lib.hid (show cmpZ a b = -1 by unfold cmpZ; rw [if_pos h])
    go_enter Try.func65, Try.ntmps65
    go_wp2_with ((with_reducible refine (nan_i _ _).mono ?_); rintro e w' ⟨rfl, rfl⟩)
    go_ret
    exact ⟨ret_i HE.out.symm, rfl⟩
  · by_cases k : b < a
    · have HE := Lib.hid (show cmpZ a b = 1 by unfold cmpZ; rw [if_neg h, if_pos k])
      go_enter Try.func65, Try.ntmps65
      go_wp2_with ((with_reducible refine (nan_i _ _).mono ?_); rintro e w' ⟨rfl, rfl⟩)
      go_ret
      exact ⟨ret_i HE.out.symm, rfl⟩
    · have HE := Lib.hid (show cmpZ a b = 0 by unfold cmpZ; rw [if_neg h, if_neg k])
      go_enter Try.func65, Try.ntmps65
      go_wp2_with ((with_reducible refine (nan_i _ _).mono ?_); rintro e w' ⟨rfl, rfl⟩)
      go_ret
      exact ⟨ret_i HE.out.symm, rfl⟩
theorem or_c (b : Nat) (x y z : Int) (w : World) (h0 : w.cell? ⟨b, 0, none⟩ = some (.int .i64 x)) (h1 : w.cell? ⟨b, 1, none⟩ = some (.int .i64 y)) (h2 : w.cell? ⟨b, 2, none⟩ = some (.int .i64 z)) :
    Calls Try.prog 63 #[.slice (some ⟨b, 0, none⟩) 3 3] w fun e w' => e = .returned (.int .i64 (orZ x y z)) ∧ w = w' := by
  have H0 := Lib.hid h0
  have H1 := Lib.hid h1
  have H2 := Lib.hid h2
  clear h0 h1 h2
  go_enter Try.func63, Try.ntmps63
  go_wp2_with fail
  go_loop [8] (fun i => ∃ k : Nat, k ≤ 3 ∧ i = .int .i64 k ∧ (1 ≤ k → x = 0) ∧ (2 ≤ k → y = 0) ∧ (3 ≤ k → z = 0)) (fun i => 3 - (intOf i).toNat)
  case atStart => exact ⟨0, by omega, rfl, by omega, by omega, by omega⟩
  case round =>
    obtain ⟨k, hk, rfl, e0, e1, e2⟩ := hrel
    have hkk : k = 0 ∨ k = 1 ∨ k = 2 ∨ k = 3 := by omega
    rcases hkk with rfl | rfl | rfl | rfl
    · clear e0 e1 e2
      have h0 := H0.out
      by_cases hx : x = 0
      · have hb : (x != 0) = false := by simp [hx]
        have HX := Lib.hid hx
        clear hx
        go_wp2_with fail
        go_round
        case rel => exact ⟨1, by omega, rfl, fun _ => HX.out, by omega, by omega⟩
        case measure => first | (simp [intOf]; done) | (simp [intOf]; omega)
      · have hb : (x != 0) = true := by simp [hx]
        have HE := Lib.hid (show orZ x y z = x by unfold orZ; rw [if_pos hx])
        clear hx
        go_wp2_with fail
        go_ret
        exact ⟨ret_i HE.out.symm, rfl⟩
    · have HX := Lib.hid (e0 (by omega))
      clear e0 e1 e2
      have h0 := H1.out
      by_cases hx : y = 0
      · have hb : (y != 0) = false := by simp [hx]
        have HY := Lib.hid hx
        clear hx
        go_wp2_with fail
        go_round
        case rel => exact ⟨2, by omega, rfl, fun _ => HX.out, fun _ => HY.out, by omega⟩
        case measure => first | (simp [intOf]; done) | (simp [intOf]; omega)
      · have hb : (y != 0) = true := by simp [hx]
        have HE := Lib.hid (show orZ x y z = y by unfold orZ; rw [if_neg (by rw [HX.out]; simp), if_pos hx])
        clear hx
        go_wp2_with fail
        go_ret
        exact ⟨ret_i HE.out.symm, rfl⟩
    · have HX := Lib.hid (e0 (by omega))
      have HY := Lib.hid (e1 (by omega))
      clear e0 e1 e2
      have h0 := H2.out
      by_cases hx : z = 0
      · have hb : (z != 0) = false := by simp [hx]
        have HZ := Lib.hid hx
        clear hx
        go_wp2_with fail
        go_round
        case rel => exact ⟨3, by omega, rfl, fun _ => HX.out, fun _ => HY.out, fun _ => HZ.out⟩
        case measure => first | (simp [intOf]; done) | (simp [intOf]; omega)
      · have hb : (z != 0) = true := by simp [hx]
        have HE := Lib.hid (show orZ x y z = z by unfold orZ; rw [if_neg (by rw [HX.out]; simp), if_neg (by rw [HY.out]; simp)])
        clear hx
        go_wp2_with fail
        go_ret
        exact ⟨ret_i HE.out.symm, rfl⟩
    · have HE := Lib.hid (show orZ x y z = 0 by unfold orZ; rw [if_neg (by rw [e0 (by omega)]; simp), if_neg (by rw [e1 (by omega)]; simp), e2 (by omega)])
      clear e0 e1 e2
      go_wp2_with fail
      go_ret
      exact ⟨ret_i HE.out.symm, rfl⟩
theorem parent_c (p : Nat) (hp : 1 ≤ p) (hp2 : p ≤ 100000) (w : World) : Calls Try.prog 49 #[.int .i64 (p : Int)] w fun e w' => e = .returned (.int .i64 ((par p : Nat) : Int)) ∧ w = w' := by
  have HE := Lib.hid (show ((par p : Nat) : Int) = ((p : Int) - 1) / 4 by unfold par; omega)
  have h1 : (1 : Int) ≤ (p : Int) := by omega
  have h2 : (p : Int) ≤ 100000 := by omega
  go_enter Try.func49, Try.ntmps49
  go_wp2_with fail
  go_ret
  exact ⟨ret_i HE.out.symm, rfl⟩
theorem named_yes (z : Int) (h0 : 0 ≤ z) (h1 : z < 64) (w : World) : Calls Try.prog 48 #[.int .i64 z] w fun e w' => e = .returned (.bool true) ∧ w = w' := by
  go_enter Try.func48, Try.ntmps48
  go_wp2_with fail
  go_ret
  exact ⟨by first | rfl | (simp; done), rfl⟩
theorem named_no (z : Int) (h : z < 0 ∨ 64 ≤ z) (w : World) : Calls Try.prog 48 #[.int .i64 z] w fun e w' => e = .returned (.bool false) ∧ w = w' := by
  rcases h with h | h
  · have h' : ¬(0 ≤ z) := by omega
    go_enter Try.func48, Try.ntmps48
    go_wp2_with fail
    go_ret
    exact ⟨by first | rfl | (simp; done), rfl⟩
  · have h0 : 0 ≤ z := by omega
    have h' : ¬(z < 64) := by omega
    go_enter Try.func48, Try.ntmps48
    go_wp2_with fail
    go_ret
    exact ⟨by first | rfl | (simp; done), rfl⟩
end Go.Proofs.Try
