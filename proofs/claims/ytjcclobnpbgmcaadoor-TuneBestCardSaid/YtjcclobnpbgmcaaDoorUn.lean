/- Theory of stage 21: what rises. -/
import Derived.Test.YtjcclobnpbgmcaaDoorUg
namespace Go.Proofs.Tryd
set_option linter.unusedVariables false
set_option linter.unusedSimpArgs false
theorem wMul_mono {a a' b b' : Int} (ha : 0 ≤ a) (hb : 0 ≤ b) (h1 : a ≤ a') (h2 : b ≤ b') : wMul a b ≤ wMul a' b' := by
  have h3 : a * b ≤ a' * b' := Int.mul_le_mul h1 h2 hb (by omega)
  unfold wMul
  generalize a * b = x at *
  generalize a' * b' = y at *
  split <;> split <;> omega
theorem wAdd_mono {a a' b b' : Int} (h1 : a ≤ a') (h2 : b ≤ b') : wAdd a b ≤ wAdd a' b' := by
  unfold wAdd
  split <;> split <;> omega
theorem oddsF_mono {r r' t t' : Int} (hr : 0 ≤ r) (ht : 0 ≤ t) (h1 : r ≤ r') (h2 : t ≤ t') : oddsF r t ≤ oddsF r' t' := by
  have := wMul_mono hr ht h1 h2
  unfold oddsF
  omega
theorem frac_mono (o o' : Int) (h0 : 0 ≤ o) (h : o ≤ o') : o * 4294967296 / (4294967296 + o) ≤ o' * 4294967296 / (4294967296 + o') := by
  have hp : 0 < 4294967296 + o := by omega
  have hp' : 0 < 4294967296 + o' := by omega
  obtain ⟨q, hq⟩ : ∃ q, o * 4294967296 / (4294967296 + o) = q := ⟨_, rfl⟩
  have h1 : q * (4294967296 + o) ≤ o * 4294967296 := by rw [← hq]; exact Int.ediv_mul_le _ (by omega)
  have hq1 : q ≤ 4294967296 := by
    rw [← hq]
    refine Int.ediv_le_of_le_mul hp ?_
    have : 0 ≤ (4294967296 : Int) * 4294967296 := by decide
    rw [Int.mul_add]
    omega
  rw [hq]
  refine Int.le_ediv_of_mul_le hp' ?_
  have h2 : q * (4294967296 + o') = q * (4294967296 + o) + q * (o' - o) := by rw [← Int.mul_add]; congr 1; omega
  have h3 : q * (o' - o) ≤ 4294967296 * (o' - o) := Int.mul_le_mul_of_nonneg_right hq1 (by omega)
  rw [h2]
  omega
theorem shareF_mono {r r' t t' : Int} (hr : 0 ≤ r) (ht : 0 ≤ t) (h1 : r ≤ r') (h2 : t ≤ t') : shareF r t ≤ shareF r' t' := by
  rw [(share_val r t hr ht).1, (share_val r' t' (by omega) (by omega)).1]
  exact frac_mono _ _ (oddsF_in r t hr ht).1 (oddsF_mono hr ht h1 h2)
theorem rateF_mono (X L : Nat) {Y Y' : Nat} (h : Y ≤ Y') : rateF X L Y ≤ rateF X L Y' := wMul_mono (by omega) (by omega) (Int.le_refl _) (by omega)
theorem partF_in (s : Sn) (L : Nat) (t : Int) (ht : 0 ≤ t) : 0 ≤ partF s L t ∧ partF s L t < 4294967296 := by
  unfold partF
  split
  · omega
  · have := share_val (rateF s.2.1.toNat L s.2.2.toNat) t (rateF_in _ _ _).1 ht
    exact ⟨this.2.1, this.2.2.1⟩
theorem partF_time (s : Sn) (L : Nat) {t t' : Int} (ht : 0 ≤ t) (h : t ≤ t') : partF s L t ≤ partF s L t' := by
  unfold partF
  split
  · omega
  · exact shareF_mono (rateF_in _ _ _).1 ht (Int.le_refl _) h
theorem partF_more (k : ByteArray) (x : Int) (L : Nat) (t : Int) (ht : 0 ≤ t) {y y' : Int} (h : y ≤ y') : partF (k, x, y) L t ≤ partF (k, x, y') L t := by
  unfold partF
  dsimp only
  by_cases h1 : x < 1 ∨ y < 1
  · rw [if_pos h1]
    split
    · omega
    · exact (share_val _ t (rateF_in _ _ _).1 ht).2.1
  · rw [if_neg h1, if_neg (by omega)]
    exact shareF_mono (rateF_in _ _ _).1 ht (rateF_mono _ _ (by omega)) (Int.le_refl _)
theorem rateN_in (s : Sn) (L : Nat) : 0 ≤ rateN s L := (rateF_in _ _ _).1
theorem sumK_mono {F : Sn → Int} {l : List Sn} (hF : ∀ k, k < l.length → 0 ≤ F (atN l k)) (L : Nat) {t t' : Int} (ht : 0 ≤ t) (h : t ≤ t') (k : Nat) (hk : k ≤ l.length) : sumK F l L t k ≤ sumK F l L t' k := by
  induction k with
  | zero => rw [sumK, sumK]; omega
  | succ k ih =>
    rw [sumK_succ, sumK_succ]
    exact wAdd_mono (ih (by omega)) (wMul_mono (hF k (by omega)) (share_val _ _ (rateN_in _ _) ht).2.1 (Int.le_refl _) (shareF_mono (rateN_in _ _) ht (Int.le_refl _) h))
theorem szF_pos {l : List Sn} (hc : chkN l = true) : ∀ k, k < l.length → 0 ≤ szF (atN l k) := fun k hk => by
  obtain ⟨s, X, Y, hp, _⟩ := mem_nat hc hk
  rw [hp, szF_mk]; omega
theorem fillF_in (l : List Sn) (L : Nat) (t : Int) (ht : 0 ≤ t) : 0 ≤ fillF l L t ∧ fillF l L t < 18446744073709551616 := by
  unfold fillF
  by_cases hc : chkN l = true
  · rw [if_pos hc]
    exact sumK_of (szF_pos hc) L t ht
  · rw [if_neg hc]; omega
theorem fillF_mono (l : List Sn) (L : Nat) {t t' : Int} (ht : 0 ≤ t) (h : t ≤ t') : fillF l L t ≤ fillF l L t' := by
  unfold fillF
  by_cases hc : chkN l = true
  · rw [if_pos hc, if_pos hc]
    exact sumK_mono (szF_pos hc) L ht h _ (Nat.le_refl _)
  · rw [if_neg hc, if_neg hc]; omega
theorem pow_mono {j k : Nat} (h : j ≤ k) : (0 : Int) ≤ ((2 ^ j : Nat) : Int) ∧ ((2 ^ j : Nat) : Int) ≤ ((2 ^ k : Nat) : Int) := by
  have := Nat.pow_le_pow_right (n := 2) (by omega) h
  exact ⟨Int.natCast_nonneg _, Int.ofNat_le.2 this⟩
theorem fitB_fill {l : List Sn} (hc : chkN l = true) (L : Nat) (m : Int) (k : Nat) : fitB l L m k = decide (fillF l L ((2 ^ k : Nat) : Int) ≤ wMul m 4294967296) := by
  unfold fitB fillF
  rw [if_pos hc]
theorem fit_down {l : List Sn} (hc : chkN l = true) (L : Nat) (m : Int) {j k : Nat} (h : j ≤ k) (hf : fitB l L m k = true) : fitB l L m j = true := by
  rw [fitB_fill hc] at hf ⊢
  have h1 := of_decide_eq_true hf
  obtain ⟨p1, p2⟩ := pow_mono h
  exact decide_eq_true (Int.le_trans (fillF_mono l L p1 p2) h1)
/-- Where the search ends. -/
theorem goT_spec (l : List Sn) (L : Nat) (m : Int) : ∀ f k, (∀ j, j < k → fitB l L m j = true) → (∀ j, j < k + f → j ≤ goT l L m k f → j < goT l L m k f ∨ k + f = 0 ∨ fitB l L m j = true ∨ j = 0) ∧ (goT l L m k f + 1 < k + f → fitB l L m (goT l L m k f + 1) = true → fitB l L m 0 = false)
  | 0, k, h => by
    rw [goT]
    exact ⟨fun j h1 h2 => .inr (.inr (.inl (h j (by omega)))), fun h1 => by omega⟩
  | f + 1, k, h => by
    rw [goT_succ]
    by_cases hk : fitB l L m k = true
    · rw [if_pos hk]
      have := goT_spec l L m f (k + 1) (fun j hj => by
        by_cases e : j = k
        · rw [e]; exact hk
        · exact h j (by omega))
      rw [show k + 1 + f = k + (f + 1) by omega] at this
      exact this
    · rw [if_neg hk]
      refine ⟨fun j h1 h2 => ?_, fun h1 h2 => ?_⟩
      · by_cases e : j = 0
        · exact .inr (.inr (.inr e))
        · exact .inr (.inr (.inl (h j (by omega))))
      · rcases Nat.eq_zero_or_pos k with e | e
        · subst e
          exact Bool.eq_false_iff.2 hk
        · rw [show k - 1 + 1 = k by omega] at h2
          exact absurd h2 hk
theorem time_fits {l : List Sn} (hc : chkN l = true) (L : Nat) (m : Int) : timeN l L m = 0 ∨ fitB l L m (timeN l L m) = true := by
  have h := (goT_spec l L m 33 0 (fun j hj => by omega)).1 (timeN l L m) (by have := timeN_le l L m; omega)
  unfold timeN at h ⊢
  rw [if_pos hc] at h ⊢
  rcases h (Nat.le_refl _) with h | h | h | h
  · omega
  · omega
  · exact .inr h
  · exact .inl h
theorem time_last {l : List Sn} (hc : chkN l = true) (L : Nat) (m : Int) : timeN l L m = 32 ∨ fitB l L m (timeN l L m + 1) = false := by
  have h := (goT_spec l L m 33 0 (fun j hj => by omega)).2
  have hle := timeN_le l L m
  unfold timeN at hle ⊢
  rw [if_pos hc] at hle ⊢
  by_cases e : goT l L m 0 33 = 32
  · exact .inl e
  · refine .inr ?_
    cases hf : fitB l L m (goT l L m 0 33 + 1) with
    | false => rfl
    | true =>
      have h1 := h (by omega) hf
      have h2 := fit_down hc L m (Nat.zero_le _) hf
      rw [h1] at h2
      cases h2
end Go.Proofs.Tryd
