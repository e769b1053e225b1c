/- Contracts of the package class and of linhayref10. -/
import Derived.Test.YtempamkacnjhjaaDoorOwn
import Derived.LoopN
import Derived.WalkMore
namespace Go.Proofs.Tryd
open Go.RowKit
set_option linter.unusedVariables false

def clsB (c : Int) : Int := if c = 0 then 8 else if c = 1 then 16 else if c = 2 then 32 else if c = 3 then 64 else 0
def clsS (c : Int) : Int := if c = 0 then 64 else if c = 1 then 32 else if c = 2 then 16 else if c = 3 then 8 else 0
def clsF (n : Int) : Int := if n < 1 then -1 else if n ≤ 8 then 0 else if n ≤ 16 then 1 else if n ≤ 32 then 2 else if n ≤ 64 then 3 else -1
def clsT : List Int → Int
  | [] => 0
  | c :: l => clsB c + clsT l
theorem clsB_in (c : Int) : 0 ≤ clsB c ∧ clsB c ≤ 64 := by unfold clsB; repeat' split <;> omega
theorem clsT_app (xs ys : List Int) : clsT (xs ++ ys) = clsT xs + clsT ys := by
  induction xs with
  | nil => simp [clsT]
  | cons x xs ih => simp [clsT, ih]; omega
theorem clsT_in (xs : List Int) : 0 ≤ clsT xs ∧ clsT xs ≤ 64 * xs.length := by
  induction xs with
  | nil => simp [clsT]
  | cons x xs ih => have := clsB_in x; simp [clsT]; omega
theorem take_more (xs : List Int) (k : Nat) (h : k < xs.length) : xs.take (k + 1) = xs.take k ++ [xs.getD k 0] := by
  rw [List.take_add_one, List.getD_eq_getElem?_getD, List.getElem?_eq_getElem h]
  simp
theorem clsT_more (xs : List Int) (k : Nat) (h : k < xs.length) : clsT (xs.take (k + 1)) = clsT (xs.take k) + clsB (xs.getD k 0) := by
  rw [take_more xs k h, clsT_app]; simp [clsT]

theorem bytes_c (c : Int) (w : World) :
    Calls Tryd.prog 20 #[.int .i64 c] w fun r w' => r = .returned (.int .i64 (clsB c)) ∧ w = w' := by
  by_cases h0 : c = 0
  · subst h0
    go_enter Tryd.func20, Tryd.ntmps20
    go_wp2_with fail
    go_ret
    exact ⟨rfl, rfl⟩
  by_cases h1 : c = 1
  · subst h1
    go_enter Tryd.func20, Tryd.ntmps20
    go_wp2_with fail
    go_ret
    exact ⟨rfl, rfl⟩
  by_cases h2 : c = 2
  · subst h2
    go_enter Tryd.func20, Tryd.ntmps20
    go_wp2_with fail
    go_ret
    exact ⟨rfl, rfl⟩
  by_cases h3 : c = 3
  · subst h3
    go_enter Tryd.func20, Tryd.ntmps20
    go_wp2_with fail
    go_ret
    exact ⟨rfl, rfl⟩
  have e : clsB c = 0 := by unfold clsB; rw [if_neg h0, if_neg h1, if_neg h2, if_neg h3]
  have E0 : (c == 0) = false := by simpa using h0
  have E1 : (c == 1) = false := by simpa using h1
  have E2 : (c == 2) = false := by simpa using h2
  have E3 : (c == 3) = false := by simpa using h3
  have HE := Lib.hid e
  clear e h0 h1 h2 h3
  go_enter Tryd.func20, Tryd.ntmps20
  go_wp2_with fail
  go_ret
  exact ⟨ret_i HE.out.symm, rfl⟩

theorem slots_c (c : Int) (w : World) :
    Calls Tryd.prog 14 #[.int .i64 c] w fun r w' => r = .returned (.int .i64 (clsS c)) ∧ w = w' := by
  by_cases h0 : c = 0
  · subst h0
    have e : clsB 0 = 8 := rfl
    go_enter Tryd.func14, Tryd.ntmps14
    go_wp2_with (go_at_call 20; refine (bytes_c _ _).mono ?_; rintro e w' ⟨rfl, rfl⟩)
    go_ret
    exact ⟨rfl, rfl⟩
  by_cases h1 : c = 1
  · subst h1
    have e : clsB 1 = 16 := rfl
    go_enter Tryd.func14, Tryd.ntmps14
    go_wp2_with (go_at_call 20; refine (bytes_c _ _).mono ?_; rintro e w' ⟨rfl, rfl⟩)
    go_ret
    exact ⟨rfl, rfl⟩
  by_cases h2 : c = 2
  · subst h2
    have e : clsB 2 = 32 := rfl
    go_enter Tryd.func14, Tryd.ntmps14
    go_wp2_with (go_at_call 20; refine (bytes_c _ _).mono ?_; rintro e w' ⟨rfl, rfl⟩)
    go_ret
    exact ⟨rfl, rfl⟩
  by_cases h3 : c = 3
  · subst h3
    have e : clsB 3 = 64 := rfl
    go_enter Tryd.func14, Tryd.ntmps14
    go_wp2_with (go_at_call 20; refine (bytes_c _ _).mono ?_; rintro e w' ⟨rfl, rfl⟩)
    go_ret
    exact ⟨rfl, rfl⟩
  have e : clsB c = 0 := by unfold clsB; rw [if_neg h0, if_neg h1, if_neg h2, if_neg h3]
  have HE := Lib.hid (show clsS c = 0 by unfold clsS; rw [if_neg h0, if_neg h1, if_neg h2, if_neg h3])
  go_enter Tryd.func14, Tryd.ntmps14
  go_wp2_with (go_at_call 20; refine (bytes_c _ _).mono ?_; rintro e w' ⟨rfl, rfl⟩)
  go_ret
  exact ⟨ret_i HE.out.symm, rfl⟩

end Go.Proofs.Tryd
