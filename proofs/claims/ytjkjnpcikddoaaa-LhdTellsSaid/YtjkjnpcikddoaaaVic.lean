/- Who goes first: what the least ratio tells. -/
import Derived.Test.YtjkjnpcikddoaaaLhd7
import Derived.Test.YtjkjnpcikddoaaaRat5
namespace Go.Proofs.Try
open Go.RowKit
set_option linter.unusedVariables false
set_option linter.unusedSimpArgs false
theorem v_at (l : List Nat) (ages : List Int) (sizes : List Nat) (some : List Int) (k : Nat) (hk : k < some.length) :
    (vsI (vrL l ages sizes some)).getD k (0, 0) = (((vrAt l ages sizes (some.getD k 0)).1 : Int), ((vrAt l ages sizes (some.getD k 0)).2 : Int)) := by
  rw [vsI_at, vr_at l ages sizes some k hk]
theorem vr_ok (l : List Nat) (ages : List Int) (sizes : List Nat) (id : Int) (h : (vrAt l ages sizes id).2 ≠ 0) : (0 ≤ id ∧ id < ages.length ∧ id < sizes.length) ∧ vrAt l ages sizes id = (dens l (ages.getD id.toNat 0), sizes.getD id.toNat 0) := by
  unfold vrAt at h ⊢
  by_cases c : 0 ≤ id ∧ id < ages.length ∧ id < sizes.length
  · rw [if_pos c]; exact ⟨c, rfl⟩
  · rw [if_neg c] at h; exact absurd rfl h
theorem vic_no (l : List Nat) (ages : List Int) (sizes : List Nat) (some : List Int) (hz : ∀ k, sizes.getD k 0 < 18446744073709551616) (a : Nat) (hf : lstS (vsI (vrL l ages sizes some)) some.length = (a, false)) :
    a = 0 ∧ ∀ k, k < some.length → (vrAt l ages sizes (some.getD k 0)).2 = 0 := by
  have := lst_ok (vsI (vrL l ages sizes some)) (vr_64 l ages sizes some hz) some.length
  rw [hf] at this
  rcases this with ⟨_, h1, h2⟩ | ⟨h1, _⟩
  · refine ⟨h1, fun k hk => ?_⟩
    have := h2 k hk
    unfold lD at this
    rw [v_at l ages sizes some k hk] at this
    simpa using this
  · cases h1
theorem vic_yes (l : List Nat) (ages : List Int) (sizes : List Nat) (some : List Int) (hz : ∀ k, sizes.getD k 0 < 18446744073709551616) (a : Nat) (hf : lstS (vsI (vrL l ages sizes some)) some.length = (a, true)) :
    a < some.length ∧ (vrAt l ages sizes (some.getD a 0)).2 ≠ 0 ∧ ∀ k, k < some.length → (vrAt l ages sizes (some.getD k 0)).2 ≠ 0 →
      0 ≤ rcV ((vrAt l ages sizes (some.getD k 0)).1 : Int) ((vrAt l ages sizes (some.getD k 0)).2 : Int) ((vrAt l ages sizes (some.getD a 0)).1 : Int) ((vrAt l ages sizes (some.getD a 0)).2 : Int) ∧
      (k < a → rcV ((vrAt l ages sizes (some.getD k 0)).1 : Int) ((vrAt l ages sizes (some.getD k 0)).2 : Int) ((vrAt l ages sizes (some.getD a 0)).1 : Int) ((vrAt l ages sizes (some.getD a 0)).2 : Int) ≠ 0) := by
  have := lst_ok (vsI (vrL l ages sizes some)) (vr_64 l ages sizes some hz) some.length
  rw [hf] at this
  rcases this with ⟨h1, _⟩ | ⟨_, h1, h2, h3, h4⟩
  · cases h1
  · simp only at h1 h2 h3 h4
    unfold lD at h2 h3 h4
    unfold lV at h3 h4
    rw [v_at l ages sizes some a h1] at h2
    refine ⟨h1, by simpa using h2, fun k hk hne => ?_⟩
    have g3 := h3 k hk (by rw [v_at l ages sizes some k hk]; simpa using hne)
    rw [v_at l ages sizes some k hk, v_at l ages sizes some a h1] at g3
    refine ⟨g3, fun hka e => ?_⟩
    have g4 := h4 k hka (by rw [v_at l ages sizes some k hk]; simpa using hne)
    rw [v_at l ages sizes some k hk, v_at l ages sizes some a h1] at g4
    simp only at g4 h2
    rw [rcV_at _ _ _ _ (by simpa using hne) h2] at e
    rw [rcV_lt _ _ _ _ h2 (by simpa using hne)] at g4
    unfold cmpI at e
    by_cases c1 : ((vrAt l ages sizes (some.getD k 0)).1 : Int) * ((vrAt l ages sizes (some.getD a 0)).2 : Int) < ((vrAt l ages sizes (some.getD a 0)).1 : Int) * ((vrAt l ages sizes (some.getD k 0)).2 : Int)
    · omega
    · rw [if_neg c1] at e
      by_cases c2 : ((vrAt l ages sizes (some.getD k 0)).1 : Int) * ((vrAt l ages sizes (some.getD a 0)).2 : Int) = ((vrAt l ages sizes (some.getD a 0)).1 : Int) * ((vrAt l ages sizes (some.getD k 0)).2 : Int)
      · omega
      · rw [if_neg c2] at e
        omega
end Go.Proofs.Try
