/- Tables by places, one behind the other (stage 13): pure theory. -/
import Derived.Test.YtpjijaljdklpgaaBase
namespace Go.Proofs.Try
set_option linter.unusedVariables false
section
variable {κ : Type} (N : Nat) (h : κ → Nat)
/-- The place s behind a. -/
def posT (a s : Nat) : Nat := (a + s) % N
variable {N}
theorem posT_lt (hN : 0 < N) (a s : Nat) : posT N a s < N := Nat.mod_lt _ hN
theorem posT_add (a r s : Nat) : posT N (posT N a r) s = posT N a (r + s) := by unfold posT; rw [Nat.mod_add_mod, Nat.add_assoc]
theorem posT_zero {a : Nat} (ha : a < N) : posT N a 0 = a := by unfold posT; rw [Nat.add_zero, Nat.mod_eq_of_lt ha]
theorem mod_two {N x : Nat} (hx : x < N + N) : x % N = x ∧ x < N ∨ N ≤ x ∧ x % N = x - N := by
  by_cases h1 : x < N
  · exact .inl ⟨Nat.mod_eq_of_lt h1, h1⟩
  · refine .inr ⟨by omega, ?_⟩
    rw [Nat.mod_eq_sub_mod (by omega), Nat.mod_eq_of_lt (by omega)]
/-- Two places behind one that are one. -/
theorem posT_inj (hN : 0 < N) (a : Nat) {r s : Nat} (hr : r < N) (hs : s < N) (e : posT N a r = posT N a s) : r = s := by
  unfold posT at e
  rw [← Nat.mod_add_mod a N r, ← Nat.mod_add_mod a N s] at e
  have ha := Nat.mod_lt a hN
  rcases mod_two (N := N) (x := a % N + r) (by omega) with ⟨h1, _⟩ | ⟨_, h1⟩ <;> rcases mod_two (N := N) (x := a % N + s) (by omega) with ⟨h2, _⟩ | ⟨_, h2⟩ <;> rw [h1, h2] at e <;> omega
/-- Every place stands somewhere behind a. -/
theorem posT_some (hN : 0 < N) (a : Nat) {i : Nat} (hi : i < N) : ∃ s, s < N ∧ posT N a s = i := by
  have ha := Nat.mod_lt a hN
  by_cases h1 : a % N ≤ i
  · refine ⟨i - a % N, by omega, ?_⟩
    unfold posT
    rw [← Nat.mod_add_mod, show a % N + (i - a % N) = i by omega, Nat.mod_eq_of_lt hi]
  · refine ⟨i + N - a % N, by omega, ?_⟩
    unfold posT
    rw [← Nat.mod_add_mod, show a % N + (i + N - a % N) = i + N by omega, Nat.add_mod_right, Nat.mod_eq_of_lt hi]
/-- A table: what stands at each place. -/
abbrev Tab (κ : Type) := Nat → Option (κ × Int)
def setT (t : Tab κ) (i : Nat) (x : Option (κ × Int)) : Tab κ := fun j => if j = i then x else t j
theorem setT_same (t : Tab κ) (i : Nat) (x : Option (κ × Int)) : setT t i x i = x := if_pos rfl
theorem setT_other (t : Tab κ) {i j : Nat} (x : Option (κ × Int)) (hj : j ≠ i) : setT t i x j = t j := if_neg hj
variable (N)
/-- The first s places behind a are not empty. -/
def freeT (t : Tab κ) (a s : Nat) : Prop := ∀ r, r < s → t (posT N a r) ≠ none
structure GoodT (t : Tab κ) : Prop where
  way : ∀ i, i < N → ∀ k v, t i = some (k, v) → ∃ s, s < N ∧ posT N (h k) s = i ∧ freeT N t (h k) s
  one : ∀ i j, i < N → j < N → ∀ k v u, t i = some (k, v) → t j = some (k, u) → i = j
/-- The first empty place behind a. -/
def emptyT (t : Tab κ) (a q : Nat) : Prop := ∃ s, s < N ∧ posT N a s = q ∧ freeT N t a s ∧ t q = none
variable {N} {h}
theorem emptyT_one {t : Tab κ} {a p q : Nat} (hp : emptyT N t a p) (hq : emptyT N t a q) : p = q := by
  obtain ⟨s, hs, rfl, fs, es⟩ := hp
  obtain ⟨r, hr, rfl, fr, er⟩ := hq
  rcases Nat.lt_trichotomy s r with h1 | h1 | h1
  · exact absurd es (fr s h1)
  · rw [h1]
  · exact absurd er (fs r h1)
theorem emptyT_some (hN : 0 < N) {t : Tab κ} (a : Nat) {e : Nat} (he : e < N) (hn : t e = none) : ∃ q, emptyT N t a q := by
  obtain ⟨s, hs, hp⟩ := posT_some hN a he
  have key : ∀ n, ∀ s, s ≤ n → s < N → t (posT N a s) = none → ∃ q, emptyT N t a q := by
    intro n
    induction n with
    | zero =>
      intro s h0 hs hn
      obtain rfl : s = 0 := by omega
      exact ⟨_, 0, hs, rfl, fun r hr => by omega, hn⟩
    | succ n ih =>
      intro s hsn hs hn
      by_cases hf : ∃ r, r < s ∧ t (posT N a r) = none
      · obtain ⟨r, hr, hrn⟩ := hf
        exact ih r (by omega) (by omega) hrn
      · exact ⟨_, s, hs, rfl, fun r hr hrn => hf ⟨r, hr, hrn⟩, hn⟩
  exact key s s (Nat.le_refl _) hs (by rw [hp]; exact hn)
/-- A key that has no place is put. -/
theorem put_good {t : Tab κ} (g : GoodT N h t) {k : κ} (hk : ∀ i, i < N → ∀ v, t i ≠ some (k, v)) {q : Nat} (hq : emptyT N t (h k) q) (v : Int) : GoodT N h (setT t q (some (k, v))) := by
  have mono : ∀ a s, freeT N t a s → freeT N (setT t q (some (k, v))) a s := by
    intro a s hf r hr hn
    by_cases e : posT N a r = q
    · rw [e, setT_same] at hn; cases hn
    · rw [setT_other _ _ e] at hn; exact hf r hr hn
  refine ⟨fun i hi k' v' hv => ?_, fun i j hi hj k' v' u hv hu => ?_⟩
  · by_cases e : i = q
    · subst e
      rw [setT_same] at hv
      simp only [Option.some.injEq, Prod.mk.injEq] at hv
      obtain ⟨rfl, rfl⟩ := hv
      obtain ⟨s, hs, hp, fs, _⟩ := hq
      exact ⟨s, hs, hp, mono _ _ fs⟩
    · rw [setT_other _ _ e] at hv
      obtain ⟨s, hs, hp, fs⟩ := g.way i hi k' v' hv
      exact ⟨s, hs, hp, mono _ _ fs⟩
  · by_cases e : i = q
    · by_cases e' : j = q
      · rw [e, e']
      · rw [setT_other _ _ e'] at hu
        rw [e, setT_same] at hv
        simp only [Option.some.injEq, Prod.mk.injEq] at hv
        exact absurd (by rw [hv.1]; exact hu) (hk j hj u)
    · rw [setT_other _ _ e] at hv
      by_cases e' : j = q
      · rw [e', setT_same] at hu
        simp only [Option.some.injEq, Prod.mk.injEq] at hu
        exact absurd (by rw [hu.1]; exact hv) (hk i hi v')
      · rw [setT_other _ _ e'] at hu
        exact g.one i j hi hj k' v' u hv hu
end
end Go.Proofs.Try
