/- What Check asks of a table, told over tables (stage 13). -/
import Derived.Test.YtpjijaljdklpgaaTe
namespace Go.Proofs.Try
open Go.RowKit
set_option linter.unusedVariables false
theorem toList_inj {a b : ByteArray} (h : a.toList = b.toList) : a = b := by
  rw [ByteArray.toList_eq, ByteArray.toList_eq] at h
  exact ByteArray.ext (Array.ext' h)
theorem key_eq {a b : ByteArray} : (a.toList == b.toList) = true ↔ a = b := by
  rw [beq_iff_eq]
  exact ⟨toList_inj, fun h => by rw [h]⟩
/-- What stands at each place of a list of places. -/
def tabL (l : List Pl) : Tab ByteArray := fun i => if noneS (atP l i).1 = true then none else some (atP l i)
def hN (n : Nat) (k : ByteArray) : Nat := (home k n).toNat
theorem tabL_none {l : List Pl} {i : Nat} : tabL l i = none ↔ noneS (atP l i).1 = true := by
  unfold tabL
  by_cases h : noneS (atP l i).1 = true
  · rw [if_pos h]; simp [h]
  · rw [if_neg h]; simp [h]
theorem tabL_some {l : List Pl} {i : Nat} {k : ByteArray} {v : Int} : tabL l i = some (k, v) ↔ noneS (atP l i).1 = false ∧ atP l i = (k, v) := by
  unfold tabL
  cases h : noneS (atP l i).1 with
  | true => rw [if_pos rfl]; simp
  | false => rw [if_neg (by simp)]; simp
/-- The first place on the way that has the key, or is empty, is the one s behind. -/
def FirstS (l : List Pl) (n : Nat) (k : ByteArray) (a s : Nat) : Prop := s < n ∧ stopB l k (posT n a s) = true ∧ ∀ r, r < s → stopB l k (posT n a r) = false
theorem first_one {l : List Pl} {n : Nat} {k : ByteArray} {a r s : Nat} (hr : FirstS l n k a r) (hs : FirstS l n k a s) : r = s := by
  rcases Nat.lt_trichotomy r s with h | h | h
  · have := hs.2.2 r h; rw [hr.2.1] at this; cases this
  · exact h
  · have := hr.2.2 s h; rw [hs.2.1] at this; cases this
theorem first_some {n : Nat} (hn : 0 < n) (l : List Pl) (k : ByteArray) (a : Nat) {e : Nat} (he : e < n) (hz : noneS (atP l e).1 = true) : ∃ s, FirstS l n k a s := by
  obtain ⟨s, hs, hp⟩ := posT_some hn a he
  have key : ∀ m, ∀ s, s ≤ m → s < n → stopB l k (posT n a s) = true → ∃ s, FirstS l n k a s := by
    intro m
    induction m with
    | zero =>
      intro s h0 hs hst
      obtain rfl : s = 0 := by omega
      exact ⟨0, hs, hst, fun r hr => by omega⟩
    | succ m ih =>
      intro s hsm hs hst
      by_cases hf : ∃ r, r < s ∧ stopB l k (posT n a r) = true
      · obtain ⟨r, hr, hrs⟩ := hf
        exact ih r (by omega) (by omega) hrs
      · exact ⟨s, hs, hst, fun r hr => by
          cases h : stopB l k (posT n a r) with
          | false => rfl
          | true => exact absurd ⟨r, hr, h⟩ hf⟩
  exact key s s (Nat.le_refl _) hs (by rw [hp]; unfold stopB; rw [hz, Bool.or_true])
theorem stop_false {l : List Pl} {k : ByteArray} {i : Nat} : stopB l k i = false ↔ (atP l i).1 ≠ k ∧ noneS (atP l i).1 = false := by
  unfold stopB
  rw [Bool.or_eq_false_iff]
  refine and_congr ⟨fun h e => ?_, fun h => ?_⟩ Iff.rfl
  · rw [key_eq.2 e] at h; cases h
  · cases hb : ((atP l i).1.toList == k.toList) with
    | false => rfl
    | true => exact absurd (key_eq.1 hb) h
/-- Each key is found where it stands: just then the table is right. -/
theorem good_iff {n : Nat} (hn : 0 < n) (l : List Pl) {e : Nat} (he : e < n) (hz : noneS (atP l e).1 = true) :
    (∀ i, i < n → noneS (atP l i).1 = false → ∀ s, FirstS l n (atP l i).1 (hN n (atP l i).1) s → posT n (hN n (atP l i).1) s = i) ↔ GoodT n (hN n) (tabL l) := by
  constructor
  · intro h
    refine ⟨fun i hi k v hv => ?_, fun i j hi hj k v u hv hu => ?_⟩
    · obtain ⟨h1, h2⟩ := tabL_some.1 hv
      have hk : (atP l i).1 = k := by rw [h2]
      obtain ⟨s, hs⟩ := first_some hn l k (hN n k) he hz
      have hp := h i hi h1 s (by rw [hk]; exact hs)
      rw [hk] at hp
      exact ⟨s, hs.1, hp, fun r hr hnn => by
        have := (stop_false.1 (hs.2.2 r hr)).2
        rw [tabL_none.1 hnn] at this
        cases this⟩
    · obtain ⟨h1, h2⟩ := tabL_some.1 hv
      obtain ⟨h3, h4⟩ := tabL_some.1 hu
      have hki : (atP l i).1 = k := by rw [h2]
      have hkj : (atP l j).1 = k := by rw [h4]
      obtain ⟨s, hs⟩ := first_some hn l k (hN n k) he hz
      have hp := h i hi h1 s (by rw [hki]; exact hs)
      have hq := h j hj h3 s (by rw [hkj]; exact hs)
      rw [hki] at hp
      rw [hkj] at hq
      rw [← hp, ← hq]
  · intro g i hi h1 s hs
    obtain ⟨⟨k, v⟩, hkv⟩ : ∃ p, atP l i = p := ⟨_, rfl⟩
    have hv : tabL l i = some (k, v) := tabL_some.2 ⟨h1, hkv⟩
    rw [hkv] at hs ⊢
    dsimp only at hs ⊢
    obtain ⟨s', hs', hp, fs⟩ := g.way i hi k v hv
    have hf : FirstS l n k (hN n k) s' := by
      refine ⟨hs', ?_, fun r hr => stop_false.2 ⟨fun hk => ?_, ?_⟩⟩
      · rw [hp]
        unfold stopB
        rw [key_eq.2 (show (atP l i).1 = k by rw [hkv]), Bool.true_or]
      · have hnz : tabL l (posT n (hN n k) r) ≠ none := fs r hr
        obtain ⟨u, hu⟩ : ∃ u, tabL l (posT n (hN n k) r) = some (k, u) := by
          cases ht : tabL l (posT n (hN n k) r) with
          | none => exact absurd ht hnz
          | some x =>
            obtain ⟨a, b⟩ := x
            have := (tabL_some.1 ht).2
            rw [this] at hk
            exact ⟨b, by rw [← hk]⟩
        have := g.one i _ hi (posT_lt hn _ _) k v u hv hu
        have h2 := posT_inj hn (hN n k) hs' (by omega) (hp.trans this)
        omega
      · have hnz : tabL l (posT n (hN n k) r) ≠ none := fs r hr
        cases hb : noneS (atP l (posT n (hN n k) r)).1 with
        | false => rfl
        | true => exact absurd (tabL_none.2 hb) hnz
    rw [first_one hs hf]
    exact hp
end Go.Proofs.Try
