/- What a table has, behind a put, behind a deletion (stage 13): pure theory. -/
import Derived.Test.YtpjijaljdklpgaaTbB
namespace Go.Proofs.Try
set_option linter.unusedVariables false
section
variable {κ : Type} {N : Nat} {h : κ → Nat}
/-- A key has a number. -/
def hasT (N : Nat) (t : Tab κ) (k : κ) (v : Int) : Prop := ∃ i, i < N ∧ t i = some (k, v)
theorem has_put {t : Tab κ} {q : Nat} (hq : q < N) (hn : t q = none) (k : κ) (v : Int) (k' : κ) (u : Int) : hasT N (setT t q (some (k, v))) k' u ↔ (k' = k ∧ u = v) ∨ hasT N t k' u := by
  constructor
  · rintro ⟨i, hi, ht⟩
    by_cases e : i = q
    · rw [e, setT_same] at ht
      simp only [Option.some.injEq, Prod.mk.injEq] at ht
      exact .inl ⟨ht.1.symm, ht.2.symm⟩
    · rw [setT_other _ _ e] at ht
      exact .inr ⟨i, hi, ht⟩
  · rintro (⟨rfl, rfl⟩ | ⟨i, hi, ht⟩)
    · exact ⟨q, hq, setT_same _ _ _⟩
    · exact ⟨i, hi, by rw [setT_other _ _ (fun e => by rw [e, hn] at ht; cases ht)]; exact ht⟩
/-- A key that has a place has another number. -/
theorem has_over {t : Tab κ} (one : ∀ i j, i < N → j < N → ∀ k v u, t i = some (k, v) → t j = some (k, u) → i = j) {p : Nat} (hp : p < N) {k : κ} {v0 : Int} (hk : t p = some (k, v0)) (v : Int) (k' : κ) (u : Int) : hasT N (setT t p (some (k, v))) k' u ↔ (k' = k ∧ u = v) ∨ (k' ≠ k ∧ hasT N t k' u) := by
  constructor
  · rintro ⟨i, hi, ht⟩
    by_cases e : i = p
    · rw [e, setT_same] at ht
      simp only [Option.some.injEq, Prod.mk.injEq] at ht
      exact .inl ⟨ht.1.symm, ht.2.symm⟩
    · rw [setT_other _ _ e] at ht
      exact .inr ⟨fun e2 => e (one i p hi hp k u v0 (by rw [← e2]; exact ht) hk), i, hi, ht⟩
  · rintro (⟨rfl, rfl⟩ | ⟨hne, i, hi, ht⟩)
    · exact ⟨p, hp, setT_same _ _ _⟩
    · refine ⟨i, hi, ?_⟩
      rw [setT_other _ _ (fun e => ?_)]
      · exact ht
      · rw [e, hk] at ht
        simp only [Option.some.injEq, Prod.mk.injEq] at ht
        exact hne ht.1.symm
theorem over_good {t : Tab κ} (g : GoodT N h t) {p : Nat} (hp : p < N) {k : κ} {v0 : Int} (hk : t p = some (k, v0)) (v : Int) : GoodT N h (setT t p (some (k, v))) := by
  have hfree : ∀ a s, freeT N t a s → freeT N (setT t p (some (k, v))) a s := by
    intro a s hf r hr hn
    by_cases e : posT N a r = p
    · rw [e, setT_same] at hn; cases hn
    · rw [setT_other _ _ e] at hn; exact hf r hr hn
  have back : ∀ i k' u, setT t p (some (k, v)) i = some (k', u) → ∃ u', t i = some (k', u') := by
    intro i k' u ht
    by_cases e : i = p
    · rw [e, setT_same] at ht
      simp only [Option.some.injEq, Prod.mk.injEq] at ht
      exact ⟨v0, by rw [e, hk, ht.1]⟩
    · rw [setT_other _ _ e] at ht; exact ⟨u, ht⟩
  refine ⟨fun i hi k' u ht => ?_, fun i j hi hj k' u u2 ht hu => ?_⟩
  · obtain ⟨u', ht'⟩ := back i k' u ht
    obtain ⟨s, hs, hps, fs⟩ := g.way i hi k' u' ht'
    exact ⟨s, hs, hps, hfree _ _ fs⟩
  · obtain ⟨a, ha⟩ := back i k' u ht
    obtain ⟨b, hb⟩ := back j k' u2 hu
    exact g.one i j hi hj k' a b ha hb
/-- A place is made empty. -/
theorem has_del {t : Tab κ} (one : ∀ i j, i < N → j < N → ∀ k v u, t i = some (k, v) → t j = some (k, u) → i = j) {p : Nat} (hp : p < N) {k : κ} {v0 : Int} (hk : t p = some (k, v0)) (k' : κ) (u : Int) : hasT N (setT t p none) k' u ↔ k' ≠ k ∧ hasT N t k' u := by
  constructor
  · rintro ⟨i, hi, ht⟩
    by_cases e : i = p
    · rw [e, setT_same] at ht; cases ht
    · rw [setT_other _ _ e] at ht
      exact ⟨fun e2 => e (one i p hi hp k u v0 (by rw [← e2]; exact ht) hk), i, hi, ht⟩
  · rintro ⟨hne, i, hi, ht⟩
    refine ⟨i, hi, ?_⟩
    rw [setT_other _ _ (fun e => ?_)]
    · exact ht
    · rw [e, hk] at ht
      simp only [Option.some.injEq, Prod.mk.injEq] at ht
      exact hne ht.1.symm
/-- One that is put anew is there as before, and all others. -/
theorem has_move {t : Tab κ} {c q : Nat} (hc : c < N) (hq : q < N) {k : κ} {v : Int} (hk : t c = some (k, v)) (hn : setT t c none q = none) (k' : κ) (u : Int) : hasT N (setT (setT t c none) q (some (k, v))) k' u ↔ hasT N t k' u := by
  rw [has_put hq hn]
  constructor
  · rintro (⟨rfl, rfl⟩ | ⟨i, hi, ht⟩)
    · exact ⟨c, hc, hk⟩
    · by_cases e : i = c
      · rw [e, setT_same] at ht; cases ht
      · rw [setT_other _ _ e] at ht; exact ⟨i, hi, ht⟩
  · rintro ⟨i, hi, ht⟩
    by_cases e : i = c
    · rw [e, hk] at ht
      simp only [Option.some.injEq, Prod.mk.injEq] at ht
      exact .inl ⟨ht.1.symm, ht.2.symm⟩
    · exact .inr ⟨i, hi, by rw [setT_other _ _ e]; exact ht⟩
end
end Go.Proofs.Try
