/- Theory of stage 21: the best candidate. -/
import Derived.Test.YtjcclobnpbgmcaaDoorUn
namespace Go.Proofs.Tryd
set_option linter.unusedVariables false
set_option linter.unusedSimpArgs false
/-- What a state tells of the candidates that were seen. -/
def BestIs (sc : Int → Int) (gs : List Int) (st : Bst) : Prop :=
  (st.2.2 = false ∧ st.1 = 0 ∧ ∀ g ∈ gs, g < 1) ∨ (st.2.2 = true ∧ st.1 ∈ gs ∧ 1 ≤ st.1 ∧ st.2.1 = sc st.1 ∧ ∀ g ∈ gs, 1 ≤ g → sc g < st.2.1 ∨ (sc g = st.2.1 ∧ st.1 ≤ g))
theorem best_step (sc : Int → Int) (gs : List Int) (st : Bst) (g : Int) (h : BestIs sc gs st) : BestIs sc (gs ++ [g]) (stepB sc st g) := by
  obtain ⟨B, S, F⟩ := st
  unfold stepB
  unfold BestIs at h ⊢
  dsimp only at h ⊢
  by_cases hg : g < 1
  · rw [if_pos hg]
    rcases h with ⟨h1, h2, h3⟩ | ⟨h1, h2, h3, h4, h5⟩
    · refine .inl ⟨h1, h2, fun x hx => ?_⟩
      rcases List.mem_append.1 hx with hx | hx
      · exact h3 x hx
      · rw [List.mem_singleton.1 hx]; exact hg
    · refine .inr ⟨h1, List.mem_append.2 (.inl h2), h3, h4, fun x hx hx1 => ?_⟩
      rcases List.mem_append.1 hx with hx | hx
      · exact h5 x hx hx1
      · rw [List.mem_singleton.1 hx] at hx1; omega
  · rw [if_neg hg]
    rcases h with ⟨h1, h2, h3⟩ | ⟨h1, h2, h3, h4, h5⟩
    · rw [if_pos (Or.inl h1)]
      refine .inr ⟨rfl, List.mem_append.2 (.inr (List.mem_singleton.2 rfl)), by show 1 ≤ g; omega, rfl, fun x hx hx1 => ?_⟩
      rcases List.mem_append.1 hx with hx | hx
      · have := h3 x hx; omega
      · rw [List.mem_singleton.1 hx]; exact .inr ⟨rfl, Int.le_refl _⟩
    · by_cases hc : F = false ∨ S < sc g ∨ (sc g = S ∧ g < B)
      · rw [if_pos hc]
        refine .inr ⟨rfl, List.mem_append.2 (.inr (List.mem_singleton.2 rfl)), by show 1 ≤ g; omega, rfl, fun x hx hx1 => ?_⟩
        rcases List.mem_append.1 hx with hx | hx
        · have h6 := h5 x hx hx1
          show sc x < sc g ∨ (sc x = sc g ∧ g ≤ x)
          rcases hc with hc | hc | hc
          · rw [h1] at hc; cases hc
          · omega
          · omega
        · rw [List.mem_singleton.1 hx]; exact .inr ⟨rfl, Int.le_refl _⟩
      · rw [if_neg hc]
        refine .inr ⟨h1, List.mem_append.2 (.inl h2), h3, h4, fun x hx hx1 => ?_⟩
        rcases List.mem_append.1 hx with hx | hx
        · exact h5 x hx hx1
        · rw [List.mem_singleton.1 hx]
          show sc g < S ∨ (sc g = S ∧ B ≤ g)
          by_cases k1 : S < sc g
          · exact absurd (.inr (.inl k1)) hc
          · by_cases k2 : sc g = S ∧ g < B
            · exact absurd (.inr (.inr k2)) hc
            · omega
theorem best_fold (sc : Int → Int) : ∀ (gs done : List Int) (st : Bst), BestIs sc done st → BestIs sc (done ++ gs) (gs.foldl (stepB sc) st)
  | [], done, st, h => by rw [List.append_nil]; exact h
  | g :: gs, done, st, h => by
    have := best_fold sc gs (done ++ [g]) _ (best_step sc done st g h)
    rw [List.append_assoc] at this
    exact this
theorem bestK_is (sc : Int → Int) (gs : List Int) : BestIs sc gs (bestK sc gs) := best_fold sc gs [] (0, 0, false) (.inl ⟨rfl, rfl, fun g hg => by cases hg⟩)
/-- Is the best one among the first k? -/
def fndG (gs : List Int) (B : Int) (k : Nat) : Bool := (gs.take k).any fun g => decide (1 ≤ g) && decide (g = B)
theorem fndG_succ {gs : List Int} (B : Int) {k : Nat} (hk : k < gs.length) : fndG gs B (k + 1) = (fndG gs B k || (decide (1 ≤ gs.getD k 0) && decide (gs.getD k 0 = B))) := by
  unfold fndG
  rw [List.take_add_one, List.getElem?_eq_getElem hk, List.any_append, List.getD_eq_getElem?_getD, List.getElem?_eq_getElem hk]
  simp
theorem getD_memG {gs : List Int} {k : Nat} (hk : k < gs.length) : gs.getD k 0 ∈ gs := by
  rw [List.getD_eq_getElem?_getD, List.getElem?_eq_getElem hk]
  exact List.getElem_mem hk
end Go.Proofs.Tryd
