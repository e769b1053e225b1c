/- A key is taken out of a table (stage 13): who stands behind it is put anew. Pure theory. -/
import Derived.Test.YtpjijaljdklpgaaTbA
namespace Go.Proofs.Try
set_option linter.unusedVariables false
section
variable {κ : Type} (N : Nat) (h : κ → Nat)
/-- m places from c on are still to be put anew; behind them is an empty one; all others are right. -/
structure InvT (t : Tab κ) (c m : Nat) : Prop where
  lt : m < N
  full : ∀ r, r < m → t (posT N c r) ≠ none
  last : t (posT N c m) = none
  out : ∀ i, i < N → (∀ r, r < m → posT N c r ≠ i) → ∀ k v, t i = some (k, v) → ∃ s, s < N ∧ posT N (h k) s = i ∧ freeT N t (h k) s
  one : ∀ i j, i < N → j < N → ∀ k v u, t i = some (k, v) → t j = some (k, u) → i = j
  seg : ∀ r, r < m → ∀ k v, t (posT N c r) = some (k, v) → ∃ s, s < N ∧ posT N (h k) s = posT N c r ∧ ∀ r', r' < s → posT N (h k) r' ≠ posT N c m
variable {N} {h}
theorem inv_done {t : Tab κ} {c : Nat} (I : InvT N h t c 0) : GoodT N h t :=
  ⟨fun i hi k v hv => I.out i hi (fun r hr => absurd hr (Nat.not_lt_zero _)) k v hv, I.one⟩
/-- The one at c is put anew. -/
theorem inv_step (hN : 0 < N) {t : Tab κ} {c m : Nat} (hc : c < N) (I : InvT N h t c (m + 1)) {k : κ} {v : Int} (hp : t c = some (k, v)) {q : Nat} (hq : emptyT N (setT t c none) (h k) q) :
    InvT N h (setT (setT t c none) q (some (k, v))) (posT N c 1) m := by
  have hc0 := posT_zero hc
  have hml := I.lt
  have hlast := I.last
  have hec : posT N c (m + 1) ≠ c := fun e => by rw [e, hp] at hlast; cases hlast
  obtain ⟨s0, hs0, hp0, hne⟩ := I.seg 0 (by omega) k v (by rw [hc0]; exact hp)
  rw [hc0] at hp0
  obtain ⟨sq, hsq, hpq, hfq, hnq⟩ := hq
  have hle : sq ≤ s0 := by
    apply Nat.le_of_not_lt
    intro hlt
    exact hfq s0 hlt (by rw [hp0]; exact setT_same _ _ _)
  have hqe : q ≠ posT N c (m + 1) := by
    intro e
    rcases Nat.lt_or_ge sq s0 with h1 | h1
    · exact hne sq h1 (by rw [hpq, e])
    · have : sq = s0 := by omega
      rw [this, hp0] at hpq
      exact hec (by rw [← e, ← hpq])
  have hsegc : ∀ r, r < m → posT N c (1 + r) ≠ c := fun r hr e => by
    have := posT_inj hN c (r := 1 + r) (s := 0) (by omega) hN (by rw [e, hc0])
    omega
  have hsegq : ∀ r, r < m → posT N c (1 + r) ≠ q := fun r hr e => by
    rw [← e, setT_other _ _ (hsegc r hr)] at hnq
    exact I.full (1 + r) (by omega) hnq
  have old : ∀ j, j ≠ q → j ≠ c → setT (setT t c none) q (some (k, v)) j = t j := fun j h1 h2 => by rw [setT_other _ _ h1, setT_other _ _ h2]
  have back : ∀ j x, j ≠ q → setT (setT t c none) q (some (k, v)) j = some x → j ≠ c ∧ t j = some x := fun j x h1 h2 => by
    rw [setT_other _ _ h1] at h2
    by_cases e : j = c
    · rw [e, setT_same] at h2; cases h2
    · rw [setT_other _ _ e] at h2; exact ⟨e, h2⟩
  have he1 : posT N (posT N c 1) m = posT N c (m + 1) := by rw [posT_add, Nat.add_comm]
  refine ⟨by omega, fun r hr => ?_, ?_, fun i hi hout k' v' hv => ?_, fun i j hi hj k' v' u hv hu => ?_, fun r hr k' v' hv => ?_⟩
  · rw [posT_add, old _ (hsegq r hr) (hsegc r hr)]
    exact I.full (1 + r) (by omega)
  · rw [he1, old _ (Ne.symm hqe) hec]
    exact hlast
  · by_cases e : i = q
    · subst e
      rw [setT_same] at hv
      simp only [Option.some.injEq, Prod.mk.injEq] at hv
      obtain ⟨rfl, rfl⟩ := hv
      refine ⟨sq, hsq, hpq, fun r hr hn => ?_⟩
      by_cases e2 : posT N (h k) r = i
      · rw [e2, setT_same] at hn; cases hn
      · rw [setT_other _ _ e2] at hn; exact hfq r hr hn
    · obtain ⟨hic, hti⟩ := back i _ e hv
      obtain ⟨s, hs, hps, fs⟩ := I.out i hi (fun r hr e2 => by
        cases r with
        | zero => exact hic (by rw [← e2, hc0])
        | succ r => exact hout r (by omega) (by rw [posT_add, Nat.add_comm]; exact e2)) k' v' hti
      refine ⟨s, hs, hps, fun r hr hn => ?_⟩
      by_cases e2 : posT N (h k') r = q
      · rw [e2, setT_same] at hn; cases hn
      · by_cases e3 : posT N (h k') r = c
        · have hd : posT N c (s - r) = i := by rw [← e3, posT_add, show r + (s - r) = s by omega]; exact hps
          have hge : m + 1 ≤ s - r := by
            apply Nat.le_of_not_lt
            intro hlt
            have h1 : s - r - 1 < m := by omega
            exact hout (s - r - 1) h1 (by rw [posT_add, show 1 + (s - r - 1) = s - r by omega]; exact hd)
          have hge2 : posT N (h k') (r + (m + 1)) = posT N c (m + 1) := by rw [← posT_add, e3]
          rcases Nat.lt_or_ge (r + (m + 1)) s with h1 | h1
          · exact fs _ h1 (by rw [hge2]; exact hlast)
          · have : s - r = m + 1 := by omega
            rw [this] at hd
            rw [← hd, hlast] at hti
            cases hti
        · rw [old _ e2 e3] at hn
          exact fs r hr hn
  · by_cases e : i = q
    · by_cases e' : j = q
      · rw [e, e']
      · obtain ⟨hjc, htj⟩ := back j _ e' hu
        rw [e, setT_same] at hv
        simp only [Option.some.injEq, Prod.mk.injEq] at hv
        exact absurd (I.one c j hc hj k v u hp (by rw [hv.1]; exact htj)).symm hjc
    · obtain ⟨hic, hti⟩ := back i _ e hv
      by_cases e' : j = q
      · rw [e', setT_same] at hu
        simp only [Option.some.injEq, Prod.mk.injEq] at hu
        exact absurd (I.one c i hc hi k v v' hp (by rw [hu.1]; exact hti)).symm hic
      · obtain ⟨hjc, htj⟩ := back j _ e' hu
        exact I.one i j hi hj k' v' u hti htj
  · rw [posT_add, old _ (hsegq r hr) (hsegc r hr)] at hv
    obtain ⟨s, hs, hps, hne2⟩ := I.seg (1 + r) (by omega) k' v' hv
    exact ⟨s, hs, by rw [posT_add]; exact hps, fun r' hr' => by rw [he1]; exact hne2 r' hr'⟩
/-- The place is made empty. -/
theorem inv_start (hN : 0 < N) {t : Tab κ} (g : GoodT N h t) {i0 e' : Nat} (hi0 : i0 < N) (he' : e' < N) (hne : e' ≠ i0) (hen : t e' = none) :
    ∃ m, InvT N h (setT t i0 none) (posT N i0 1) m := by
  obtain ⟨q, m, hm, hpq, hf, hnq⟩ := emptyT_some (t := setT t i0 none) hN (posT N i0 1) he' (by rw [setT_other _ _ hne]; exact hen)
  have hqi : q ≠ i0 := by
    intro e
    obtain ⟨s', hs', hps'⟩ := posT_some hN (posT N i0 1) he'
    have h1 : m = N - 1 := by
      rw [e, posT_add] at hpq
      rcases Nat.lt_or_ge (1 + m) N with h2 | h2
      · have := posT_inj hN i0 (r := 1 + m) (s := 0) h2 hN (by rw [hpq, posT_zero hi0])
        omega
      · omega
    have h2 : s' ≠ m := fun e2 => hne (by rw [← hps', e2, hpq, e])
    exact hf s' (by omega) (by rw [hps', setT_other _ _ hne]; exact hen)
  have htq : t q = none := by rw [setT_other _ _ hqi] at hnq; exact hnq
  have back : ∀ j x, setT t i0 none j = some x → j ≠ i0 ∧ t j = some x := fun j x hx => by
    by_cases e : j = i0
    · rw [e, setT_same] at hx; cases hx
    · rw [setT_other _ _ e] at hx; exact ⟨e, hx⟩
  refine ⟨m, hm, hf, by rw [hpq]; exact hnq, fun i hi hout k v hv => ?_, fun i j hi hj k v u hv hu => ?_, fun r hr k v hv => ?_⟩
  · obtain ⟨hii, hti⟩ := back i _ hv
    obtain ⟨s, hs, hps, fs⟩ := g.way i hi k v hti
    refine ⟨s, hs, hps, fun r hr hn => ?_⟩
    by_cases e : posT N (h k) r = i0
    · have hd : posT N (posT N i0 1) (s - r - 1) = i := by rw [← e, posT_add, posT_add, show r + (1 + (s - r - 1)) = s by omega]; exact hps
      have hge : m ≤ s - r - 1 := by
        apply Nat.le_of_not_lt
        intro hlt
        exact hout _ hlt hd
      have hqq : posT N (h k) (r + 1 + m) = q := by rw [← hpq, ← e, posT_add, posT_add, Nat.add_assoc]
      rcases Nat.lt_or_ge (r + 1 + m) s with h1 | h1
      · exact fs _ h1 (by rw [hqq]; exact htq)
      · have : s - r - 1 = m := by omega
        rw [this, hpq] at hd
        rw [← hd, htq] at hti
        cases hti
    · rw [setT_other _ _ e] at hn
      exact fs r hr hn
  · exact g.one i j hi hj k v u (back i _ hv).2 (back j _ hu).2
  · obtain ⟨_, hti⟩ := back _ _ hv
    obtain ⟨s, hs, hps, fs⟩ := g.way _ (posT_lt hN _ _) k v hti
    exact ⟨s, hs, hps, fun r' hr' e => fs r' hr' (by rw [e, hpq]; exact htq)⟩
end
end Go.Proofs.Try
