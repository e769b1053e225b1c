/- The walk of HeapTells. -/
import Derived.Test.YtgkiijpheigpjaaStp
import Derived.Test.YtgkiijpheigpjaaHr5
import Derived.Test.YtgkiijpheigpjaaMid
namespace Go.Proofs.Try
open Go.RowKit
set_option linter.unusedVariables false
set_option linter.unusedSimpArgs false
theorem sort_same {l s t : List It} (h : SortP l s) (k : SortP l t) : s = t := by
  rcases h with ⟨h1, rfl⟩ | ⟨h1, h2, h3⟩
  · exact (sort_no k h1).symm
  · exact (sort_yes k h1 h3 h2.symm).symm
theorem find_same {l s : List It} {z : Int} {x y : It} {b d : Bool} (h : SortP l s) (hx : FindP l z x b) (hy : RFindP s z y d) : x = y ∧ b = d := by
  rcases h with ⟨h1, rfl⟩ | ⟨h1, h2, h3⟩
  · obtain ⟨rfl, rfl⟩ := find_no hx (fun h => h1 h.1)
    rcases hy with ⟨h, _⟩ | ⟨_, rfl, rfl⟩
    · simp [hasI] at h
    · exact ⟨rfl, rfl⟩
  · rcases hy with ⟨_, h4, h5, rfl⟩ | ⟨h4, rfl, rfl⟩
    · obtain ⟨rfl, rfl⟩ := find_yes hx h1 (h2.mem_iff.1 h4) h5
      exact ⟨rfl, rfl⟩
    · obtain ⟨rfl, rfl⟩ := find_no hx (fun h => by rw [hasI_perm h2] at h4; rw [h4] at h; exact absurd h.2 (by simp))
      exact ⟨rfl, rfl⟩
theorem min_same {l s : List It} {m : It} {b : Bool} (h : SortP l s) (hm : MinP l m b) : (b = true ∧ 0 < s.length ∧ atI s 0 = m) ∨ (b = false ∧ s = [] ∧ m = (0, 0, 0)) := by
  rcases h with ⟨h1, rfl⟩ | ⟨h1, h2, h3⟩
  · obtain ⟨rfl, rfl⟩ := min_no hm (fun h => h1 h.1)
    exact .inr ⟨rfl, rfl, rfl⟩
  · cases s with
    | nil =>
      have : l = [] := List.Perm.eq_nil h2.symm
      obtain ⟨rfl, rfl⟩ := min_no hm (fun h => h.2 this)
      exact .inr ⟨rfl, rfl, rfl⟩
    | cons y t =>
      obtain ⟨rfl, rfl⟩ := min_yes hm h1 h3 h2.symm
      exact .inl ⟨rfl, by simp, by simp [atI]⟩
theorem sort_len {l s : List It} (h : SortP l s) : s.length ≤ l.length := by
  rcases h with ⟨_, rfl⟩ | ⟨_, h, _⟩
  · simp
  · rw [h.length_eq]; exact Nat.le_refl _
end Go.Proofs.Try
