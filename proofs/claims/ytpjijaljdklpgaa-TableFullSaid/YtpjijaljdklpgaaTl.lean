/- What Put leaves, what Del leaves (stage 13): theory. -/
import Derived.Test.YtpjijaljdklpgaaTk
namespace Go.Proofs.Try
open Go.RowKit
set_option linter.unusedVariables false
theorem spot_lt {l : List Pl} (g : OkL l) (k : ByteArray) : spotL l k < 128 := by
  obtain ⟨s, _, h⟩ := spot_some g k
  rw [← h]
  exact posT_lt (by omega) _ _
theorem spot_there {l : List Pl} (g : OkL l) {k : ByteArray} (hk : noneS k = false) :
    ((atP l (spotL l k)).1 = k ∧ valL l k = some (atP l (spotL l k)).2) ∨ ((atP l (spotL l k)).1 ≠ k ∧ atP l (spotL l k) = noP ∧ valL l k = none ∧ emptyT 128 (tabL l) (hN 128 k) (spotL l k) ∧ ∀ i, i < 128 → ∀ v, tabL l i ≠ some (k, v)) := by
  obtain ⟨s, hs, h⟩ := spot_some g k
  have := first_there g hk hs
  rw [h] at this
  exact this
theorem spot_none {l : List Pl} (g : OkL l) {k : ByteArray} (hk : noneS k = false) : noneS (atP l (spotL l k)).1 = true ↔ valL l k = none := by
  rcases spot_there g hk with ⟨h1, h2⟩ | ⟨_, h1, h2, _⟩
  · rw [h1, h2, hk]; simp
  · rw [h1, h2]; simp [none_noP]
theorem key_of_none {k : ByteArray} (h : noneS k = true) : isKey k = false := by
  cases hk : isKey k with
  | false => rfl
  | true => rw [key_none hk] at h; cases h
theorem put_err {l : List Pl} (g : OkL l) (k : ByteArray) (v : Int) : (putL l k v).2 = if isKey k = false then 90 else if valL l k = none ∧ fullN l = 96 then 110 else 0 := by
  unfold putL
  cases hk : isKey k with
  | false => rw [if_pos rfl, if_pos rfl]
  | true =>
    rw [if_neg (show ¬(true = false) by simp), if_neg (show ¬(true = false) by simp)]
    have := spot_none g (key_none hk)
    by_cases h : valL l k = none ∧ fullN l = 96
    · rw [if_pos h, if_pos ⟨this.2 h.1, h.2⟩]
    · rw [if_neg h, if_neg (fun hh => h ⟨this.1 hh.1, hh.2⟩)]
theorem put_same {l : List Pl} {k : ByteArray} {v : Int} (h : (putL l k v).2 ≠ 0) : (putL l k v).1 = l := by
  unfold putL at h ⊢
  split
  · rfl
  · split
    · rfl
    · rename_i h1 h2
      rw [if_neg h1, if_neg h2] at h
      exact absurd rfl h
theorem put_ok_eq {l : List Pl} {k : ByteArray} {v : Int} (h : (putL l k v).2 = 0) : isKey k = true ∧ (putL l k v).1 = l.set (spotL l k) (k, v) ∧ ¬(noneS (atP l (spotL l k)).1 = true ∧ fullN l = 96) := by
  unfold putL at h ⊢
  by_cases h1 : isKey k = false
  · rw [if_pos h1] at h; simp at h
  · rw [if_neg h1] at h ⊢
    by_cases h2 : noneS (atP l (spotL l k)).1 = true ∧ fullN l = 96
    · rw [if_pos h2] at h; simp at h
    · rw [if_neg h2]
      exact ⟨by simpa using h1, rfl, h2⟩
theorem opt_ext {a b : Option Int} (h : ∀ v, a = some v ↔ b = some v) : a = b := by
  cases a with
  | none =>
    cases b with
    | none => rfl
    | some v => have := (h v).2 rfl; cases this
  | some v => exact ((h v).1 rfl).symm
theorem val_ext {l l' : List Pl} (g : OkL l) (g' : OkL l') (h : ∀ k v, hasT 128 (tabL l) k v ↔ hasT 128 (tabL l') k v) (k : ByteArray) : valL l k = valL l' k := by
  cases hk : noneS k with
  | true => rw [val_empty hk, val_empty hk]
  | false => exact opt_ext fun v => by rw [val_some g hk, val_some g' hk, h]
/-- A place is set, where a key's way ends. -/
theorem set_ok {l : List Pl} (g : OkL l) {k : ByteArray} (hk : isKey k = true) (v : Int) (hr : ¬(noneS (atP l (spotL l k)).1 = true ∧ fullN l = 96)) :
    OkL (l.set (spotL l k) (k, v)) ∧ (∀ k', valL (l.set (spotL l k) (k, v)) k' = if k' = k then some v else valL l k') ∧ fullN (l.set (spotL l k) (k, v)) = fullN l + (if valL l k = none then 1 else 0) := by
  have hz := key_none hk
  have hp := spot_lt g k
  have hpl : spotL l k < l.length := by rw [g.len]; exact hp
  have hfs := full_set hpl (k, v)
  have hsn := spot_none g hz
  have hfew := g.few
  rw [if_neg (show ¬(noneS k = true) by rw [hz]; simp)] at hfs
  have hf : fullN (l.set (spotL l k) (k, v)) = fullN l + (if valL l k = none then 1 else 0) := by
    by_cases h : valL l k = none
    · rw [if_pos h]; rw [if_pos (hsn.2 h)] at hfs; omega
    · rw [if_neg h]; rw [if_neg (fun hh => h (hsn.1 hh))] at hfs; omega
  have hcells : ∀ i, i < 128 → cellP (atP (l.set (spotL l k) (k, v)) i) := fun i hi => by
    rw [atP_set hpl]
    by_cases e : i = spotL l k
    · rw [if_pos e]; exact .inr hk
    · rw [if_neg e]; exact g.cells i hi
  have hlen : (l.set (spotL l k) (k, v)).length = 128 := by rw [List.length_set]; exact g.len
  have htab := tab_set hpl k v hz
  rcases spot_there g hz with ⟨h1, h2⟩ | ⟨h0, h1, h2, h3, h4⟩
  · have ht : tabL l (spotL l k) = some (k, (atP l (spotL l k)).2) := tabL_some.2 ⟨by rw [h1]; exact hz, Prod.ext h1 rfl⟩
    have gd : OkL (l.set (spotL l k) (k, v)) := ⟨hlen, by rw [hf, h2]; simp; exact hfew, hcells, by rw [htab]; exact over_good g.good hp ht v⟩
    refine ⟨gd, fun k' => ?_, hf⟩
    by_cases e : k' = k
    · subst e
      rw [if_pos rfl, val_some gd hz, htab, has_over g.good.one hp ht]
      exact .inl ⟨rfl, rfl⟩
    · rw [if_neg e]
      cases hk' : noneS k' with
      | true => rw [val_empty hk', val_empty hk']
      | false =>
        refine opt_ext fun u => ?_
        rw [val_some gd hk', val_some g hk', htab, has_over g.good.one hp ht]
        constructor
        · rintro (⟨h, _⟩ | ⟨_, h⟩)
          · exact absurd h e
          · exact h
        · exact fun h => .inr ⟨e, h⟩
  · have hn : tabL l (spotL l k) = none := tabL_none.2 (by rw [h1]; exact none_noP)
    have hlt : fullN l ≠ 96 := fun h => hr ⟨by rw [h1]; exact none_noP, h⟩
    have gd : OkL (l.set (spotL l k) (k, v)) := ⟨hlen, by rw [hf, h2]; simp; omega, hcells, by rw [htab]; exact put_good g.good h4 h3 v⟩
    refine ⟨gd, fun k' => ?_, hf⟩
    by_cases e : k' = k
    · subst e
      rw [if_pos rfl, val_some gd hz, htab, has_put hp hn]
      exact .inl ⟨rfl, rfl⟩
    · rw [if_neg e]
      cases hk' : noneS k' with
      | true => rw [val_empty hk', val_empty hk']
      | false =>
        refine opt_ext fun u => ?_
        rw [val_some gd hk', val_some g hk', htab, has_put hp hn]
        constructor
        · rintro (⟨h, _⟩ | h)
          · exact absurd h e
          · exact h
        · exact fun h => .inr h
theorem put_ok {l : List Pl} (g : OkL l) (k : ByteArray) (v : Int) : OkL (putL l k v).1 := by
  by_cases h : (putL l k v).2 = 0
  · obtain ⟨h1, h2, h3⟩ := put_ok_eq h
    rw [h2]
    exact (set_ok g h1 v h3).1
  · rw [put_same h]; exact g
theorem put_val {l : List Pl} (g : OkL l) {k : ByteArray} {v : Int} (h : (putL l k v).2 = 0) (k' : ByteArray) : valL (putL l k v).1 k' = if k' = k then some v else valL l k' := by
  obtain ⟨h1, h2, h3⟩ := put_ok_eq h
  rw [h2]
  exact (set_ok g h1 v h3).2.1 k'
theorem put_full {l : List Pl} (g : OkL l) {k : ByteArray} {v : Int} (h : (putL l k v).2 = 0) : fullN (putL l k v).1 = fullN l + (if valL l k = none then 1 else 0) := by
  obtain ⟨h1, h2, h3⟩ := put_ok_eq h
  rw [h2]
  exact (set_ok g h1 v h3).2.2
/-- The loop of a deletion: m places from c on are still to be put anew. -/
structure LoopT (l0 lr : List Pl) (c m : Nat) : Prop where
  len : lr.length = 128
  lt : c < 128
  cells : ∀ i, i < 128 → cellP (atP lr i)
  inv : InvT 128 (hN 128) (tabL lr) c m
  has : ∀ k v, hasT 128 (tabL lr) k v ↔ hasT 128 (tabL l0) k v
  full : fullN lr = fullN l0
  same : GoodT 128 (hN 128) (tabL l0) → lr = l0
theorem loop_zero {l0 lr : List Pl} {c m : Nat} (I : LoopT l0 lr c m) : noneS (atP lr c).1 = true ↔ m = 0 := by
  rw [← tabL_none]
  constructor
  · intro h
    apply Classical.byContradiction
    intro hm
    have := I.inv.full 0 (by omega)
    rw [posT_zero I.lt] at this
    exact this h
  · rintro rfl
    have := I.inv.last
    rwa [posT_zero I.lt] at this
theorem loop_first {l0 lr : List Pl} {c m : Nat} (I : LoopT l0 lr c m) (k : ByteArray) : ∃ s, FirstS (lr.set c noP) 128 k (hN 128 k) s := by
  refine first_some (by omega) _ _ _ I.lt ?_
  rw [atP_set (by rw [I.len]; exact I.lt), if_pos rfl]
  exact none_noP
theorem loop_step {l0 lr : List Pl} {c m : Nat} (I : LoopT l0 lr c (m + 1)) {k : ByteArray} {x : Int} (hp : atP lr c = (k, x)) {s : Nat} (hs : FirstS (lr.set c noP) 128 k (hN 128 k) s) :
    LoopT l0 ((lr.set c noP).set (posT 128 (hN 128 k) s) (k, x)) (posT 128 c 1) m := by
  have hc := I.lt
  have hcl : c < lr.length := by rw [I.len]; exact hc
  have hz : noneS k = false := by
    cases h : noneS k with
    | false => rfl
    | true =>
      have := (loop_zero I).1 (by rw [hp]; exact h)
      omega
  have ht : tabL lr c = some (k, x) := tabL_some.2 ⟨by rw [hp]; exact hz, hp⟩
  have htn : tabL (lr.set c noP) = setT (tabL lr) c none := tab_unset hcl
  have hq : posT 128 (hN 128 k) s < 128 := posT_lt (by omega) _ _
  obtain ⟨q, hqe⟩ : ∃ q, posT 128 (hN 128 k) s = q := ⟨_, rfl⟩
  rw [hqe] at hq
  have hnq : tabL (lr.set c noP) q = none := by
    have h1 := hs.2.1
    rw [hqe] at h1
    unfold stopB at h1
    rcases Bool.or_eq_true _ _ ▸ h1 with h1 | h1
    · have h2 := key_eq.1 h1
      apply Classical.byContradiction
      intro hne
      have h3 : tabL (lr.set c noP) q = some (k, (atP (lr.set c noP) q).2) := tabL_some.2 ⟨by rw [h2]; exact hz, Prod.ext h2 rfl⟩
      rw [htn] at h3
      by_cases e : q = c
      · rw [e, setT_same] at h3; cases h3
      · rw [setT_other _ _ e] at h3
        exact e (I.inv.one q c hq hc k _ x h3 ht)
    · exact tabL_none.2 h1
  have hE : emptyT 128 (setT (tabL lr) c none) (hN 128 k) q := by
    rw [← htn]
    refine ⟨s, hs.1, hqe, fun r hr hn => ?_, hnq⟩
    have := (stop_false.1 (hs.2.2 r hr)).2
    rw [tabL_none.1 hn] at this
    cases this
  rw [hqe]
  have hql : q < (lr.set c noP).length := by rw [List.length_set, I.len]; exact hq
  have htq := tab_set (l := lr.set c noP) hql k x hz
  rw [htn] at htq hnq
  have hkey : isKey k = true := by
    rcases I.cells c hc with ⟨h, _⟩ | h
    · rw [hp] at h; rw [hz] at h; cases h
    · rw [hp] at h; exact h
  refine ⟨by rw [List.length_set, List.length_set]; exact I.len, posT_lt (by omega) _ _, fun i hi => ?_, ?_, fun k' u => ?_, ?_, fun g => ?_⟩
  · rw [atP_set hql]
    by_cases e : i = q
    · rw [if_pos e]; exact .inr hkey
    · rw [if_neg e, atP_set hcl]
      by_cases e2 : i = c
      · rw [if_pos e2]; exact .inl ⟨none_noP, rfl⟩
      · rw [if_neg e2]; exact I.cells i hi
  · rw [htq]
    exact inv_step (by omega) hc I.inv ht hE
  · rw [htq, has_move hc hq ht hnq, I.has]
  · have h1 := full_set hcl noP
    have h2 := full_set hql (k, x)
    rw [if_neg (show ¬(noneS k = true) by rw [hz]; simp)] at h2
    rw [if_pos none_noP, hp, if_neg (show ¬(noneS k = true) by rw [hz]; simp)] at h1
    have h3 : noneS (atP (lr.set c noP) q).1 = true := by
      rw [← htn] at hnq
      exact tabL_none.1 hnq
    rw [if_pos h3] at h2
    have := I.full
    omega
  · have hl := I.same g
    rw [← hl] at g
    obtain ⟨s', hs', hps, fs⟩ := g.way c hc k x ht
    have hE2 : emptyT 128 (setT (tabL lr) c none) (hN 128 k) c := by
      refine ⟨s', hs', hps, fun r hr hn => ?_, setT_same _ _ _⟩
      by_cases e : posT 128 (hN 128 k) r = c
      · have := posT_inj (N := 128) (by omega) (hN 128 k) (r := r) (s := s') (by omega) hs' (by rw [e, hps])
        omega
      · rw [setT_other _ _ e] at hn
        exact fs r hr hn
    have hqc : q = c := emptyT_one hE hE2
    rw [hqc, List.set_set, ← hl]
    have := List.getElem?_eq_some_iff.1 (atP_get hcl)
    obtain ⟨_, h⟩ := this
    rw [hp] at h
    rw [← h, List.set_getElem_self]
/-- What Del leaves of a key that has a place. -/
structure DelR (l : List Pl) (k : ByteArray) (l' : List Pl) : Prop where
  ok : OkL l'
  val : ∀ k', valL l' k' = if k' = k then none else valL l k'
  full : fullN l' + 1 = fullN l
  same : GoodT 128 (hN 128) (tabL (l.set (spotL l k) noP)) → l' = l.set (spotL l k) noP
theorem loop_start {l : List Pl} (g : OkL l) {k : ByteArray} (hk : noneS k = false) (hv : valL l k ≠ none) : ∃ m, LoopT (l.set (spotL l k) noP) (l.set (spotL l k) noP) (posT 128 (spotL l k) 1) m := by
  have hp := spot_lt g k
  have hpl : spotL l k < l.length := by rw [g.len]; exact hp
  obtain ⟨e, he, hz⟩ := g.empty
  have hne : e ≠ spotL l k := fun h => hv ((spot_none g hk).1 (by rw [← h]; exact hz))
  obtain ⟨m, hm⟩ := inv_start (N := 128) (by omega) g.good hp he hne (tabL_none.2 hz)
  refine ⟨m, by rw [List.length_set]; exact g.len, posT_lt (by omega) _ _, fun i hi => ?_, by rw [tab_unset hpl]; exact hm, fun _ _ => Iff.rfl, rfl, fun _ => rfl⟩
  rw [atP_set hpl]
  by_cases e2 : i = spotL l k
  · rw [if_pos e2]; exact .inl ⟨none_noP, rfl⟩
  · rw [if_neg e2]; exact g.cells i hi
theorem loop_done {l : List Pl} (g : OkL l) {k : ByteArray} (hk : noneS k = false) (hv : valL l k ≠ none) {lr : List Pl} {c : Nat} (I : LoopT (l.set (spotL l k) noP) lr c 0) : DelR l k lr := by
  have hp := spot_lt g k
  have hpl : spotL l k < l.length := by rw [g.len]; exact hp
  have hsn := spot_none g hk
  have hf := full_set hpl noP
  rw [if_pos none_noP, if_neg (fun h => hv (hsn.1 h))] at hf
  have hfl := I.full
  have hfew := g.few
  have gd : OkL lr := ⟨I.len, by omega, I.cells, inv_done I.inv⟩
  rcases spot_there g hk with ⟨h1, h2⟩ | ⟨_, _, h2, _⟩
  · have ht : tabL l (spotL l k) = some (k, (atP l (spotL l k)).2) := tabL_some.2 ⟨by rw [h1]; exact hk, Prod.ext h1 rfl⟩
    refine ⟨gd, fun k' => ?_, by omega, I.same⟩
    cases hk' : noneS k' with
    | true =>
      rw [val_empty hk', val_empty hk']
      split <;> rfl
    | false =>
      refine opt_ext fun u => ?_
      rw [val_some gd hk', I.has, tab_unset hpl, has_del g.good.one hp ht]
      by_cases e : k' = k
      · rw [if_pos e]
        constructor
        · exact fun h => absurd e h.1
        · intro h; cases h
      · rw [if_neg e, val_some g hk']
        exact ⟨fun h => h.2, fun h => ⟨e, h⟩⟩
  · exact absurd h2 hv
end Go.Proofs.Try
