/- A region that draws its order: a head whose operations read what is old and whose calls only make new blocks, in whatever order; then all that waits for its last one, in whatever order it comes. -/
import Derived.Test.YtpjijaljdklpgaaTail
namespace Go.Proofs.Try
open Go.RowKit
set_option linter.unusedVariables false
section
variable {P : Program} {ops : Array Oper} {md : Region.Mode} {C : World → Prop} {n : Nat}
/-- While one of the head has not come, none of the rest may come. -/
structure HeadW (md : Region.Mode) (ops : Array Oper) (n : Nat) : Prop where
  sel : ∀ (j : Nat) (o : Oper) cs b, ops[j]? = some o → o.op ≠ .select cs b
  waits : ∀ ls, HeadInv md ops n ls → ∀ i, i < n → ls.getD i true = false → ∀ t, n ≤ t → t ∉ Region.ready md ops ls
theorem headW_take (H : HeadW md ops n) {i : Nat} {oi : Oper} {v : Value} {L : Array Bool → Act → Prop} (hi : ops[i]? = some oi) (hin : i < n) (hL : ∀ ls a, L ls a → ∀ j ∈ Region.ready md ops ls, n ≤ j) (f : Nat) :
    ∀ (ls : Array Bool) (a : Act), HeadInv md ops n ls →
      (∀ j oj, ops[j]? = some oj → j ≠ i → ls.getD j true = false → (∀ e ∈ oj.after, Region.binds md e = true → e.on ≠ i) → oi.apart ops oj = true) →
      i ∈ Region.ready md ops ls → YieldsIn P ops C oi v a → headQ P md ops C n L f (ls.setIfInBounds i true) (a.put oi.dst v) → headQ P md ops C n L (f + 1) ls a := by
  have inHead : ∀ ls, HeadInv md ops n ls → i ∈ Region.ready md ops ls → ∀ j ∈ Region.ready md ops ls, j < n := fun ls inv hr j hj => by
    apply Nat.lt_of_not_le
    intro hle
    exact H.waits ls inv i hin (mem_ready.1 hr).1 j hle hj
  induction f with
  | zero =>
    intro ls a inv _ hr hy hk
    refine ⟨fun e => (by rw [e] at hr; cases hr), fun j hj => ⟨inHead ls inv hr j hj, ?_⟩⟩
    by_cases e : j = i
    · rw [e]; exact hy.qOp hi hk
    · have h1 := inHead ls inv hr j hj
      have h2 := hL _ _ hk j (ready_mono hj e)
      omega
  | succ f ih =>
    intro ls a inv free hr hy hk
    refine ⟨fun e => (by rw [e] at hr; cases hr), fun j hj => ⟨inHead ls inv hr j hj, ?_⟩⟩
    by_cases e : j = i
    · rw [e]; exact hy.qOp hi hk
    · obtain ⟨hju, oj, hoj, hall⟩ := mem_ready.1 hj
      have hno : ∀ x ∈ oj.after, Region.binds md x = true → x.on ≠ i := fun x hx hb hxi => by
        have h1 := hall x hx hb
        rw [hxi, getD_both (mem_ready.1 hr).1] at h1
        cases h1
      have step := qOp_put hoj (free j oj hoj e hju hno) (fun cs b => H.sel i oi cs b hi) (fun cs b => H.sel j oj cs b hoj) hy (hk.2 j (ready_mono hj e)).2
      refine qOp_mono (fun a' h3 => ih _ a' (inv.set hj (inHead ls inv hr j hj)) (fun k ok hk hki hun hn => free k ok hk hki ?_ hn) (ready_mono hr (Ne.symm e)) h3.1 ?_) step
      · by_cases hjk : j = k
        · rw [← hjk]; exact hju
        · rwa [getD_set_ne true hjk] at hun
      · rw [Array.setIfInBounds_comm _ _ e]
        exact h3.2
/-- The first f from k on have come. -/
def setR (ls : Array Bool) (k : Nat) : Nat → Array Bool
  | 0 => ls
  | f + 1 => setR (ls.setIfInBounds k true) (k + 1) f
/-- The head, in the text's order, and then none of it is left. -/
def lexOnly (md : Region.Mode) (ops : Array Oper) : Nat → Nat → Array Bool → Bool
  | 0, k, ls => (Region.ready md ops ls).all (fun j => decide (k ≤ j))
  | f + 1, k, ls => (Region.ready md ops ls).contains k && Region.free md ops ls k && lexOnly md ops f (k + 1) (ls.setIfInBounds k true)
theorem headW_text (H : HeadW md ops n) {K : Act → Prop} : ∀ (l : List Oper) (k : Nat) (ls : Array Bool) (a : Act), (∀ j, j < l.length → l[j]? = ops[k + j]?) → k + l.length = n → HeadInv md ops n ls →
    lexOnly md ops l.length k ls = true → wpQuiet P ops C K l a → headQ P md ops C n (fun ls' a' => (∀ j ∈ Region.ready md ops ls', n ≤ j) ∧ ls' = setR ls k l.length ∧ K a') l.length ls a
  | [], k, ls, a, _, hk, _, hB, h => by
    obtain rfl : k = n := by simpa using hk
    refine ⟨fun j hj => ?_, rfl, h⟩
    simp only [List.length_nil, lexOnly, List.all_eq_true, decide_eq_true_eq] at hB
    exact hB j hj
  | o :: l, k, ls, a, hl, hk, inv, hB, h => by
    have h0 : ops[k]? = some o := (hl 0 (by simp)).symm
    simp only [List.length_cons, lexOnly, Bool.and_eq_true] at hB
    simp only [List.length_cons] at hk
    have hr : k ∈ Region.ready md ops ls := by simpa using hB.1.1
    obtain ⟨v, hy, hK⟩ := yieldsIn_of_qOp (C := C) (K := wpQuiet P ops C K l) h0 (by unfold qOp; simp only [h0]; exact h)
    refine headW_take H h0 (by omega) (fun ls' a' hL => hL.1) l.length ls a inv (Region.free_spec h0 hB.1.2) hr hy ?_
    exact headW_text H l (k + 1) _ _ (fun j hj => by have := hl (j + 1) (by simp; omega); rw [show k + 1 + j = k + (j + 1) by omega, ← this]; rfl) (by omega) (inv.set hr (by omega)) hB.2 hK
/-- t waits for j. -/
def aftB (md : Region.Mode) (ops : Array Oper) (t j : Nat) : Bool := ((ops[t]?).map fun o => o.after.any fun e => Region.binds md e && e.on == j).getD false
theorem aftB_spec {t j : Nat} (h : aftB md ops t j = true) : ∃ o, ops[t]? = some o ∧ ∃ e ∈ o.after, Region.binds md e = true ∧ e.on = j := by
  unfold aftB at h
  cases ho : ops[t]? with
  | none => rw [ho] at h; cases h
  | some o =>
    rw [ho] at h
    simp only [Option.map_some, Option.getD_some] at h
    obtain ⟨e, he, hb⟩ := Array.any_eq_true'.1 h
    simp only [Bool.and_eq_true, beq_iff_eq] at hb
    exact ⟨o, rfl, e, he, hb.1, hb.2⟩
/-- Each of the head but its last has one behind it in the head that waits for it; each of the rest waits for one that is not ahead of the head's last. -/
def midB (md : Region.Mode) (ops : Array Oper) (n : Nat) : Bool :=
  Region.noSelect ops && decide (0 < n) && ((List.range (n - 1)).all fun i => (List.range n).any fun j => decide (i < j) && aftB md ops j i) &&
    ((List.range ops.size).all fun t => decide (t < n) || (List.range t).any fun j => decide (n - 1 ≤ j) && aftB md ops t j)
theorem headW_of (h : midB md ops n = true) : HeadW md ops n := by
  simp only [midB, Bool.and_eq_true, decide_eq_true_eq] at h
  obtain ⟨⟨⟨hsel, hn⟩, hs⟩, hc⟩ := h
  refine ⟨Region.noSelect_spec hsel, fun ls inv i hi hun t ht hr => ?_⟩
  -- the last one of the head has come: then all of it has
  have down : ∀ d i, n - 1 - i = d → i < n → ls.getD (n - 1) false = true → ls.getD i false = true := by
    intro d
    induction d using Nat.strongRecOn with
    | _ d ih =>
      intro i hd hi hl
      by_cases e : i = n - 1
      · rw [e]; exact hl
      · have h1 := List.all_eq_true.1 hs i (List.mem_range.2 (by omega))
        obtain ⟨j, hj, hb⟩ := List.any_eq_true.1 h1
        rw [List.mem_range] at hj
        simp only [Bool.and_eq_true, decide_eq_true_eq] at hb
        obtain ⟨oj, hoj, e, he, hbe, hei⟩ := aftB_spec hb.2
        have := inv.closed j oj hoj (ih (n - 1 - j) (by omega) j rfl hj hl) e he hbe
        rwa [hei] at this
  obtain ⟨_, ot, hot, hall⟩ := mem_ready.1 hr
  have htl : t < ops.size := (Array.getElem?_eq_some_iff.1 hot).1
  have h1 := List.all_eq_true.1 hc t (List.mem_range.2 htl)
  simp only [Bool.or_eq_true, decide_eq_true_eq] at h1
  rcases h1 with h1 | h1
  · omega
  · obtain ⟨j, hj, hb⟩ := List.any_eq_true.1 h1
    rw [List.mem_range] at hj
    simp only [Bool.and_eq_true, decide_eq_true_eq] at hb
    obtain ⟨o', ho', e, he, hbe, hei⟩ := aftB_spec hb.2
    rw [hot] at ho'
    obtain rfl := Option.some.inj ho'
    have hl := hall e he hbe
    rw [hei] at hl
    by_cases hjn : n ≤ j
    · have := getD_both (inv.tail j hjn (by omega))
      rw [this] at hl
      cases hl
    · have hje : j = n - 1 := by omega
      rw [hje] at hl
      have := down _ i rfl hi hl
      rw [getD_both hun] at this
      cases this
/-- From a state on: a head over a class of worlds, and then whatever. -/
theorem any_head {Q : Exit → Act → World → Prop} {g m k : Nat} {ls : Array Bool} {a : Act} {w : World} (l : List Oper) (hB : midB md ops n = true) (hi : HeadInv md ops n ls) (hl : ∀ j, j < l.length → l[j]? = ops[k + j]?) (hk : k + l.length = n)
    (hx : lexOnly md ops l.length k ls = true) (hm : m = l.length + g) (hC : C w)
    (h : wpQuiet P ops C (fun a' => ∀ W, C W → wpAny P md ops Q g (setR ls k l.length) a' W) l a) : wpAny P md ops Q m ls a w := by
  subst hm
  have hh := headW_text (headW_of hB) l k ls a hl hk hi hx h
  exact headQ_any (fun ls' a' w' hw' hL => by rw [hL.2.1]; exact hL.2.2 w' hw') _ _ _ _ hC hh
/-- What a state that is written out keeps. -/
def invB (md : Region.Mode) (ops : Array Oper) (n : Nat) (ls : Array Bool) : Bool :=
  decide (ls.size = ops.size) && ((List.range ops.size).all fun j => !ls.getD j false || ((ops[j]?).map fun o => o.after.all fun e => !Region.binds md e || ls.getD e.on false).getD true) && ((List.range ops.size).all fun t => decide (t < n) || !ls.getD t true)
theorem inv_of {ls : Array Bool} (h : invB md ops n ls = true) : HeadInv md ops n ls := by
  simp only [invB, Bool.and_eq_true, decide_eq_true_eq] at h
  obtain ⟨⟨h1, h2⟩, h3⟩ := h
  refine ⟨h1, fun j oj hj hl e he hb => ?_, fun t ht htl => ?_⟩
  · have h4 := List.all_eq_true.1 h2 j (List.mem_range.2 (Array.getElem?_eq_some_iff.1 hj).1)
    rw [hj, hl] at h4
    simp only [Bool.not_true, Bool.false_or, Option.map_some, Option.getD_some] at h4
    have h5 := Array.all_eq_true'.1 h4 e he
    rw [hb] at h5
    simpa using h5
  · have h4 := List.all_eq_true.1 h3 t (List.mem_range.2 htl)
    simp only [Bool.or_eq_true, decide_eq_true_eq] at h4
    rcases h4 with h4 | h4
    · omega
    · simpa using h4
theorem class_eq {P : Program} {Q : Exit → Act → World → Prop} {w : World} {ops : Array Oper} {g : Nat} {ls : Array Bool} :
    (fun a' => ∀ W, (∃ p, W = later w p) → wpAny P md ops Q g ls a' W) = (fun a' => ∀ W, Below w.heap.size w W → wpAny P md ops Q g ls a' W) := by
  funext a'
  exact propext ⟨fun k W hW => k W ⟨⟨W, hW⟩, rfl⟩, fun k W ⟨p, hp⟩ => hp ▸ k _ p.ok⟩
theorem any_mid {Q : Exit → Act → World → Prop} {l : List Oper} {m : Nat} {ls : Array Bool} {a : Act} {w : World} (k n g : Nat) (hB : midB .any l.toArray n = true) (hi : invB .any l.toArray n ls = true) (hx : lexOnly .any l.toArray (n - k) k ls = true)
    (hk : k ≤ n) (hn : n ≤ l.length) (hm : m = (n - k) + g)
    (h : (∀ (p : After w) (b o : Nat), b < w.heap.size → (later w p).cell? ⟨b, o, none⟩ = w.cell? ⟨b, o, none⟩) → wpQuiet P l.toArray (fun W => ∃ p, W = later w p) (fun a' => ∀ W, Below w.heap.size w W → wpAny P .any l.toArray Q g (setR ls k (n - k)) a' W) ((l.drop k).take (n - k)) a) : wpAny P .any l.toArray Q m ls a w := by
  have hlen : ((l.drop k).take (n - k)).length = n - k := by rw [List.length_take, List.length_drop]; omega
  refine any_head (n := n) (k := k) (g := g) (C := fun W => ∃ p, W = later w p) ((l.drop k).take (n - k)) hB (inv_of hi) (fun j hj => ?_) (by rw [hlen]; omega) (by rw [hlen]; exact hx) (by rw [hlen]; exact hm) ⟨⟨w, Below.refl _ _⟩, rfl⟩ ?_
  · rw [hlen] at hj
    rw [List.getElem?_take_of_lt hj, List.getElem?_drop]
    simp
  · rw [hlen, class_eq]
    exact h (later_cell w)
theorem region_mid {id : Nat} {Q : Exit → Act → World → Prop} {l : List Oper} {a : Act} {w : World} (n g : Nat) (hm : P.follows .mixedOrders = true) (hB : midB .any l.toArray n = true) (hi : invB .any l.toArray n (Array.replicate l.length false) = true) (hx : lexOnly .any l.toArray n 0 (Array.replicate l.length false) = true)
    (hn : n ≤ l.length) (hg : l.length = n + g)
    (h : (∀ (p : After w) (b o : Nat), b < w.heap.size → (later w p).cell? ⟨b, o, none⟩ = w.cell? ⟨b, o, none⟩) → wpQuiet P l.toArray (fun W => ∃ p, W = later w p) (fun a' => ∀ W, Below w.heap.size w W → wpAny P .any l.toArray Q g (setR (Array.replicate l.length false) 0 n) a' W) (l.take n) a) : (Code.region id l.toArray true).wp P Q a w := by
  refine wp_region_any hm ?_
  have hlen : (l.take n).length = n := by rw [List.length_take]; omega
  have hh := any_head (P := P) (Q := Q) (a := a) (n := n) (k := 0) (g := g) (m := l.length) (ls := Array.replicate l.length false) (w := w.drew) (C := fun W => ∃ p, W = later w p) (l.take n) hB (inv_of hi) (fun j hj => by rw [hlen] at hj; rw [List.getElem?_take_of_lt hj]; simp) (by rw [hlen]; omega) (by rw [hlen]; exact hx) (by rw [hlen]; exact hg) ⟨⟨_, (Below.refl _ w).drew⟩, rfl⟩ (by rw [hlen, class_eq]; exact h (later_cell w))
  simpa using hh
end
end Go.Proofs.Try
