/- Contracts of the package class and of linhayref10. -/
import Derived.Test.YtgphmjhhfcgnaaaOwn
import Derived.LoopN
import Derived.WalkMore
namespace Go.Proofs.Try
open Go.RowKit
set_option linter.unusedVariables false

def clsB (c : Int) : Int := if c = 0 then 8 else if c = 1 then 16 else if c = 2 then 32 else if c = 3 then 64 else 0
def clsS (c : Int) : Int := if c = 0 then 64 else if c = 1 then 32 else if c = 2 then 16 else if c = 3 then 8 else 0
def clsF (n : Int) : Int := if n < 1 then -1 else if n ≤ 8 then 0 else if n ≤ 16 then 1 else if n ≤ 32 then 2 else if n ≤ 64 then 3 else -1
def clsT : List Int → Int
  | [] => 0
  | c :: l => clsB c + clsT l
theorem clsB_in (c : Int) : 0 ≤ clsB c ∧ clsB c ≤ 64 := by unfold clsB; repeat' split <;> omega
theorem clsT_app (xs ys : List Int) : clsT (xs ++ ys) = clsT xs + clsT ys := by
  induction xs with
  | nil => simp [clsT]
  | cons x xs ih => simp [clsT, ih]; omega
theorem clsT_in (xs : List Int) : 0 ≤ clsT xs ∧ clsT xs ≤ 64 * xs.length := by
  induction xs with
  | nil => simp [clsT]
  | cons x xs ih => have := clsB_in x; simp [clsT]; omega
theorem take_more (xs : List Int) (k : Nat) (h : k < xs.length) : xs.take (k + 1) = xs.take k ++ [xs.getD k 0] := by
  rw [List.take_add_one, List.getD_eq_getElem?_getD, List.getElem?_eq_getElem h]
  simp
theorem clsT_more (xs : List Int) (k : Nat) (h : k < xs.length) : clsT (xs.take (k + 1)) = clsT (xs.take k) + clsB (xs.getD k 0) := by
  rw [take_more xs k h, clsT_app]; simp [clsT]

theorem bytes_c (c : Int) (w : World) :
    Calls Try.prog 11 #[.int .i64 c] w fun r w' => r = .returned (.int .i64 (clsB c)) ∧ w = w' := by
  by_cases h0 : c = 0
  · subst h0
    go_enter Try.func11, Try.ntmps11
    go_wp2_with fail
    go_ret
    exact ⟨rfl, rfl⟩
  by_cases h1 : c = 1
  · subst h1
    go_enter Try.func11, Try.ntmps11
    go_wp2_with fail
    go_ret
    exact ⟨rfl, rfl⟩
  by_cases h2 : c = 2
  · subst h2
    go_enter Try.func11, Try.ntmps11
    go_wp2_with fail
    go_ret
    exact ⟨rfl, rfl⟩
  by_cases h3 : c = 3
  · subst h3
    go_enter Try.func11, Try.ntmps11
    go_wp2_with fail
    go_ret
    exact ⟨rfl, rfl⟩
  have e : clsB c = 0 := by unfold clsB; rw [if_neg h0, if_neg h1, if_neg h2, if_neg h3]
  have E0 : (c == 0) = false := by simpa using h0
  have E1 : (c == 1) = false := by simpa using h1
  have E2 : (c == 2) = false := by simpa using h2
  have E3 : (c == 3) = false := by simpa using h3
  have HE := Lib.hid e
  clear e h0 h1 h2 h3
  go_enter Try.func11, Try.ntmps11
  go_wp2_with fail
  go_ret
  exact ⟨ret_i HE.out.symm, rfl⟩

theorem slots_c (c : Int) (w : World) :
    Calls Try.prog 13 #[.int .i64 c] w fun r w' => r = .returned (.int .i64 (clsS c)) ∧ w = w' := by
  by_cases h0 : c = 0
  · subst h0
    have e : clsB 0 = 8 := rfl
    go_enter Try.func13, Try.ntmps13
    go_wp2_with (go_at_call 11; refine (bytes_c _ _).mono ?_; rintro e w' ⟨rfl, rfl⟩)
    go_ret
    exact ⟨rfl, rfl⟩
  by_cases h1 : c = 1
  · subst h1
    have e : clsB 1 = 16 := rfl
    go_enter Try.func13, Try.ntmps13
    go_wp2_with (go_at_call 11; refine (bytes_c _ _).mono ?_; rintro e w' ⟨rfl, rfl⟩)
    go_ret
    exact ⟨rfl, rfl⟩
  by_cases h2 : c = 2
  · subst h2
    have e : clsB 2 = 32 := rfl
    go_enter Try.func13, Try.ntmps13
    go_wp2_with (go_at_call 11; refine (bytes_c _ _).mono ?_; rintro e w' ⟨rfl, rfl⟩)
    go_ret
    exact ⟨rfl, rfl⟩
  by_cases h3 : c = 3
  · subst h3
    have e : clsB 3 = 64 := rfl
    go_enter Try.func13, Try.ntmps13
    go_wp2_with (go_at_call 11; refine (bytes_c _ _).mono ?_; rintro e w' ⟨rfl, rfl⟩)
    go_ret
    exact ⟨rfl, rfl⟩
  have e : clsB c = 0 := by unfold clsB; rw [if_neg h0, if_neg h1, if_neg h2, if_neg h3]
  have HE := Lib.hid (show clsS c = 0 by unfold clsS; rw [if_neg h0, if_neg h1, if_neg h2, if_neg h3])
  go_enter Try.func13, Try.ntmps13
  go_wp2_with (go_at_call 11; refine (bytes_c _ _).mono ?_; rintro e w' ⟨rfl, rfl⟩)
  go_ret
  exact ⟨ret_i HE.out.symm, rfl⟩

theorem fit_c (n : Int) (w : World) :
    Calls Try.prog 15 #[.int .i64 n] w fun r w' => r = .returned (.int .i64 (clsF n)) ∧ w = w' := by
  have e0 : clsB 0 = 8 := rfl
  have e1 : clsB 1 = 16 := rfl
  have e2 : clsB 2 = 32 := rfl
  have e3 : clsB 3 = 64 := rfl
  by_cases hn : n < 1
  · have HE := Lib.hid (show clsF n = -1 by unfold clsF; rw [if_pos hn])
    go_enter Try.func15, Try.ntmps15
    go_wp2_with fail
    go_ret
    exact ⟨ret_i HE.out.symm, rfl⟩
  · have hn1 : 1 ≤ n := by omega
    clear hn
    go_enter Try.func15, Try.ntmps15
    go_wp2_with fail
    go_loop [6] (fun i => (i = .int .i64 0) ∨ (i = .int .i64 1 ∧ 8 < n) ∨ (i = .int .i64 2 ∧ 16 < n) ∨ (i = .int .i64 3 ∧ 32 < n) ∨ (i = .int .i64 4 ∧ 64 < n)) (fun i => (4 - intOf i).toNat)
    case atStart => exact .inl rfl
    case round =>
      rcases hrel with rfl | ⟨rfl, hx⟩ | ⟨rfl, hx⟩ | ⟨rfl, hx⟩ | ⟨rfl, hx⟩
      · by_cases h : n ≤ 8
        · go_wp2_with (go_at_call 11; refine (bytes_c _ _).mono ?_; rintro e w' ⟨rfl, rfl⟩)
          go_ret
          exact ⟨ret_i (by unfold clsF; rw [if_neg (by omega), if_pos h]), rfl⟩
        · go_wp2_with (go_at_call 11; refine (bytes_c _ _).mono ?_; rintro e w' ⟨rfl, rfl⟩)
          go_round
          case rel => exact .inr (.inl ⟨rfl, by omega⟩)
          case measure => simp [intOf]
      · by_cases h : n ≤ 16
        · go_wp2_with (go_at_call 11; refine (bytes_c _ _).mono ?_; rintro e w' ⟨rfl, rfl⟩)
          go_ret
          exact ⟨ret_i (by unfold clsF; rw [if_neg (by omega), if_neg (by omega), if_pos h]), rfl⟩
        · go_wp2_with (go_at_call 11; refine (bytes_c _ _).mono ?_; rintro e w' ⟨rfl, rfl⟩)
          go_round
          case rel => exact .inr (.inr (.inl ⟨rfl, by omega⟩))
          case measure => simp [intOf]
      · by_cases h : n ≤ 32
        · go_wp2_with (go_at_call 11; refine (bytes_c _ _).mono ?_; rintro e w' ⟨rfl, rfl⟩)
          go_ret
          exact ⟨ret_i (by unfold clsF; rw [if_neg (by omega), if_neg (by omega), if_neg (by omega), if_pos h]), rfl⟩
        · go_wp2_with (go_at_call 11; refine (bytes_c _ _).mono ?_; rintro e w' ⟨rfl, rfl⟩)
          go_round
          case rel => exact .inr (.inr (.inr (.inl ⟨rfl, by omega⟩)))
          case measure => simp [intOf]
      · by_cases h : n ≤ 64
        · go_wp2_with (go_at_call 11; refine (bytes_c _ _).mono ?_; rintro e w' ⟨rfl, rfl⟩)
          go_ret
          exact ⟨ret_i (by unfold clsF; rw [if_neg (by omega), if_neg (by omega), if_neg (by omega), if_neg (by omega), if_pos h]), rfl⟩
        · go_wp2_with (go_at_call 11; refine (bytes_c _ _).mono ?_; rintro e w' ⟨rfl, rfl⟩)
          go_round
          case rel => exact .inr (.inr (.inr (.inr ⟨rfl, by omega⟩)))
          case measure => simp [intOf]
      · have HE := Lib.hid (show clsF n = -1 by unfold clsF; rw [if_neg (by omega), if_neg (by omega), if_neg (by omega), if_neg (by omega), if_neg (by omega)])
        go_wp2_with fail
        go_ret
        exact ⟨ret_i HE.out.symm, rfl⟩

set_option maxHeartbeats 400000 in
theorem room0_c (A : Option Addr) (n c : Nat) (xs : List Int) (w : World) (h : Sees w 1 A n (xs.map (Value.int .i64))) (hn : n ≤ 1000000) :
    Calls Try.prog 20 #[.slice A n c] w fun r w' => r = .returned (.int .i64 (clsT xs)) ∧ w = w' := by
  have hl := h.len
  rcases h.2 with h0 | ⟨b, off, rfl, _, _⟩
  · subst h0
    have hx : xs = [] := List.eq_nil_of_length_eq_zero hl
    subst hx
    clear h hl
    go_enter Try.func20, Try.ntmps20
    go_wp2_with fail
    go_loop [3, 8] (fun v i => i = .int .i64 0 ∧ v = .int .i64 0) (fun _ i => 0)
    case atStart => exact ⟨rfl, rfl⟩
    case round =>
      obtain ⟨rfl, rfl⟩ := hrel
      go_wp2_with fail
      go_ret
      exact ⟨rfl, rfl⟩
  · have HC : Hid (∀ j, j < n → w.cell? ⟨b, off + j, none⟩ = some (.int .i64 (xs.getD j 0))) := fun j hj => h.int hj
    have HL := Lib.hid hl
    clear h hl
    go_enter Try.func20, Try.ntmps20
    go_wp2_with fail
    go_loop [3, 8] (fun v i => ∃ k : Nat, k ≤ n ∧ i = .int .i64 k ∧ v = .int .i64 (clsT (xs.take k))) (fun _ i => n - (intOf i).toNat)
    case atStart => exact ⟨0, by omega, rfl, rfl⟩
    case round =>
      obtain ⟨k, hk, rfl, rfl⟩ := hrel
      obtain ⟨t0, t1⟩ := clsT_in (xs.take k)
      have t2 := List.length_take_le k xs
      obtain ⟨s0, s1⟩ := clsB_in (xs.getD k 0)
      by_cases hlt : k < n
      · have hcell := HC.out k hlt
        have HM : Hid (clsT (xs.take (k + 1)) = clsT (xs.take k) + clsB (xs.getD k 0)) := clsT_more xs k (by rw [HL.out]; exact hlt)
        generalize xs.getD k 0 = x at hcell s0 s1 HM
        go_wp2_with (go_at_call 11; refine (bytes_c _ _).mono ?_; rintro e w' ⟨rfl, rfl⟩)
        go_round
        case rel => exact ⟨k + 1, by omega, by go_num, by rw [HM.out]⟩
        case measure => simp [intOf]; omega
      · have hke : k = n := by omega
        have HM := Lib.hid (show clsT (xs.take k) = clsT xs by rw [hke, ← HL.out, List.take_length])
        subst hke
        go_wp2_with fail
        go_ret
        exact ⟨ret_i HM.out, rfl⟩

theorem room_c (A : Option Addr) (n c : Nat) (xs : List Int) (w : World) (h : Sees w 1 A n (xs.map (Value.int .i64))) (hn : n ≤ 1000000) :
    Calls Try.prog 18 #[.slice A n c] w fun r w' => r = .returned (.int .i64 (clsT xs)) ∧ w = w' := by
  go_enter Try.func18, Try.ntmps18
  go_wp2_with (go_at_call 20; refine (room0_c _ _ _ xs _ h hn).mono ?_; rintro e w' ⟨rfl, rfl⟩)
  go_ret
  exact ⟨rfl, rfl⟩
theorem room_t (A : Option Addr) (n c : Nat) (xs : List Int) (T : Int) (hT : clsT xs = T) (w : World) (h : Sees w 1 A n (xs.map (Value.int .i64))) (hn : n ≤ 1000000) :
    Calls Try.prog 18 #[.slice A n c] w fun r w' => r = .returned (.int .i64 T) ∧ w = w' := by
  subst hT
  exact room_c A n c xs w h hn
end Go.Proofs.Try
