/- Contracts of linhayref10. -/
import Derived.Test.YtempamkacnjhjaaDoorCls2
namespace Go.Proofs.Tryd
open Go.RowKit
set_option linter.unusedVariables false

theorem rbytes_c (c : Int) (w : World) :
    Calls Tryd.prog 8 #[.int .i64 c] w fun r w' => r = .returned (.int .i64 (clsB c)) ∧ w = w' := by
  by_cases h : c < 0 ∨ 3 < c
  · have HE := Lib.hid (show clsB c = 0 by unfold clsB; rw [if_neg (by omega), if_neg (by omega), if_neg (by omega), if_neg (by omega)])
    rcases h with h | h
    · go_enter Tryd.func8, Tryd.ntmps8
      go_wp2_with fail
      go_ret
      exact ⟨ret_i HE.out.symm, rfl⟩
    · go_enter Tryd.func8, Tryd.ntmps8
      go_wp2_with fail
      go_ret
      exact ⟨ret_i HE.out.symm, rfl⟩
  · have h0 : 0 ≤ c := by omega
    have h3 : c ≤ 3 := by omega
    go_enter Tryd.func8, Tryd.ntmps8
    go_wp2_with fail
    go_loop [3, 4] (fun v i => (i = .int .i64 0 ∧ v = .int .i64 8) ∨ (i = .int .i64 1 ∧ v = .int .i64 16 ∧ 1 ≤ c) ∨ (i = .int .i64 2 ∧ v = .int .i64 32 ∧ 2 ≤ c) ∨ (i = .int .i64 3 ∧ v = .int .i64 64 ∧ 3 ≤ c)) (fun _ i => (3 - intOf i).toNat)
    case atStart => exact .inl ⟨rfl, rfl⟩
    case round =>
      rcases hrel with ⟨rfl, rfl⟩ | ⟨rfl, rfl, hx⟩ | ⟨rfl, rfl, hx⟩ | ⟨rfl, rfl, hx⟩
      · by_cases hc : 0 < c
        · go_wp2_with fail
          go_round
          case rel => exact .inr (.inl ⟨rfl, rfl, by omega⟩)
          case measure => simp [intOf]
        · go_wp2_with fail
          go_ret
          exact ⟨ret_i (by rw [show c = 0 by omega]; rfl), rfl⟩
      · by_cases hc : 1 < c
        · go_wp2_with fail
          go_round
          case rel => exact .inr (.inr (.inl ⟨rfl, rfl, by omega⟩))
          case measure => simp [intOf]
        · go_wp2_with fail
          go_ret
          exact ⟨ret_i (by rw [show c = 1 by omega]; rfl), rfl⟩
      · by_cases hc : 2 < c
        · go_wp2_with fail
          go_round
          case rel => exact .inr (.inr (.inr ⟨rfl, rfl, by omega⟩))
          case measure => simp [intOf]
        · go_wp2_with fail
          go_ret
          exact ⟨ret_i (by rw [show c = 2 by omega]; rfl), rfl⟩
      · go_wp2_with fail
        go_ret
        exact ⟨ret_i (by rw [show c = 3 by omega]; rfl), rfl⟩

theorem clsS_div (c : Int) : clsB c = 0 ∧ clsS c = 0 ∨ clsB c ≠ 0 ∧ clsS c = 512 / clsB c := by
  unfold clsS clsB
  (repeat' split) <;> first | (left; exact ⟨rfl, rfl⟩) | (right; exact ⟨by decide, by decide⟩)
end Go.Proofs.Tryd
