/- A region that draws its order: a head of reads, and of calls that only make new blocks, in whatever order; then one operation that waits for all of it (a call, say, whose answer hangs on the world); then all that is left, quiet again. -/
import Derived.Test.YtpjijaljdklpgaaMid
namespace Go.Proofs.Try
open Go.RowKit
set_option linter.unusedVariables false
section
variable {P : Program} {ops : Array Oper} {md : Region.Mode} {C : World → Prop} {n : Nat}
/-- Each of the head has one behind it, in the head or the gate, that waits for it; each behind the gate waits for one that isn't of the head. -/
def gateB (md : Region.Mode) (ops : Array Oper) (n : Nat) : Bool :=
  Region.noSelect ops && ((List.range n).all fun i => (List.range (n + 1)).any fun j => decide (i < j) && aftB md ops j i) &&
    ((List.range ops.size).all fun t => decide (t ≤ n) || (List.range t).any fun j => decide (n ≤ j) && aftB md ops t j)
theorem headW_gate (h : gateB md ops n = true) : HeadW md ops n := by
  simp only [gateB, Bool.and_eq_true] at h
  obtain ⟨⟨hsel, hs⟩, hc⟩ := h
  refine ⟨Region.noSelect_spec hsel, fun ls inv i hi hun t ht hr => ?_⟩
  obtain ⟨_, ot, hot, hall⟩ := mem_ready.1 hr
  have htl : t < ops.size := (Array.getElem?_eq_some_iff.1 hot).1
  rcases Nat.lt_or_ge n t with hlt | hge
  · have h1 := List.all_eq_true.1 hc t (List.mem_range.2 htl)
    simp only [Bool.or_eq_true, decide_eq_true_eq] at h1
    rcases h1 with h1 | h1
    · omega
    · obtain ⟨j, hj, hb⟩ := List.any_eq_true.1 h1
      rw [List.mem_range] at hj
      simp only [Bool.and_eq_true, decide_eq_true_eq] at hb
      obtain ⟨o', ho', e, he, hbe, hei⟩ := aftB_spec hb.2
      rw [hot] at ho'
      obtain rfl := Option.some.inj ho'
      have hl := hall e he hbe
      rw [hei] at hl
      have := getD_both (inv.tail j hb.1 (by omega))
      rw [this] at hl
      cases hl
  · have hte : t = n := by omega
    subst hte
    have down : ∀ d i, t - i = d → i < t → ls.getD i false = true := by
      intro d
      induction d using Nat.strongRecOn with
      | _ d ih =>
        intro i hd hi
        have h1 := List.all_eq_true.1 hs i (List.mem_range.2 hi)
        obtain ⟨j, hj, hb⟩ := List.any_eq_true.1 h1
        rw [List.mem_range] at hj
        simp only [Bool.and_eq_true, decide_eq_true_eq] at hb
        obtain ⟨oj, hoj, e, he, hbe, hei⟩ := aftB_spec hb.2
        by_cases hjt : j = t
        · subst hjt
          rw [hot] at hoj
          obtain rfl := Option.some.inj hoj
          have := hall e he hbe
          rw [hei] at this
          exact this
        · have := inv.closed j oj hoj (ih (t - j) (by omega) j rfl (by omega)) e he hbe
          rwa [hei] at this
    have := down _ i rfl hi
    rw [getD_both hun] at this
    cases this
theorem headW_all (h : Region.noSelect ops = true) : HeadW md ops ops.size :=
  ⟨Region.noSelect_spec h, fun ls inv i hi hun t ht hr => by
    obtain ⟨_, ot, hot, _⟩ := mem_ready.1 hr
    have := (Array.getElem?_eq_some_iff.1 hot).1
    omega⟩
theorem any_headH {Q : Exit → Act → World → Prop} {g m k : Nat} {ls : Array Bool} {a : Act} {w : World} (l : List Oper) (hB : HeadW md ops n) (hi : HeadInv md ops n ls) (hl : ∀ j, j < l.length → l[j]? = ops[k + j]?) (hk : k + l.length = n)
    (hx : lexOnly md ops l.length k ls = true) (hm : m = l.length + g) (hC : C w)
    (h : wpQuiet P ops C (fun a' => ∀ W, C W → wpAny P md ops Q g (setR ls k l.length) a' W) l a) : wpAny P md ops Q m ls a w := by
  subst hm
  have hh := headW_text hB l k ls a hl hk hi hx h
  exact headQ_any (fun ls' a' w' hw' hL => by rw [hL.2.1]; exact hL.2.2 w' hw') _ _ _ _ hC hh
theorem region_gate {id : Nat} {Q : Exit → Act → World → Prop} {l : List Oper} {a : Act} {w : World} (n g : Nat) (hm : P.follows .mixedOrders = true) (hB : gateB .any l.toArray n = true) (hi : invB .any l.toArray n (Array.replicate l.length false) = true) (hx : lexOnly .any l.toArray n 0 (Array.replicate l.length false) = true)
    (hn : n ≤ l.length) (hg : l.length = n + g)
    (h : (∀ (p : After w) (b o : Nat), b < w.heap.size → (later w p).cell? ⟨b, o, none⟩ = w.cell? ⟨b, o, none⟩) → wpQuiet P l.toArray (fun W => ∃ p, W = later w p) (fun a' => ∀ W, Below w.heap.size w W → wpAny P .any l.toArray Q g (setR (Array.replicate l.length false) 0 n) a' W) (l.take n) a) : (Code.region id l.toArray true).wp P Q a w := by
  refine wp_region_any hm ?_
  have hlen : (l.take n).length = n := by rw [List.length_take]; omega
  have hh := any_headH (P := P) (Q := Q) (a := a) (n := n) (k := 0) (g := g) (m := l.length) (ls := Array.replicate l.length false) (w := w.drew) (C := fun W => ∃ p, W = later w p) (l.take n) (headW_gate hB) (inv_of hi) (fun j hj => by rw [hlen] at hj; rw [List.getElem?_take_of_lt hj]; simp) (by rw [hlen]; omega) (by rw [hlen]; exact hx) (by rw [hlen]; exact hg) ⟨⟨_, (Below.refl _ w).drew⟩, rfl⟩ (by rw [hlen, class_eq]; exact h (later_cell w))
  simpa using hh
/-- From a state on all that is left is quiet. -/
theorem any_rest {Q : Exit → Act → World → Prop} {l : List Oper} {m : Nat} {ls : Array Bool} {a : Act} {w : World} (k : Nat) (hs : Region.noSelect l.toArray = true) (hi : invB .any l.toArray l.length ls = true) (hx : lexOnly .any l.toArray (l.length - k) k ls = true)
    (hk : k ≤ l.length) (hm : m = l.length - k) (hd : Region.ready .any l.toArray (setR ls k (l.length - k)) = [])
    (h : (∀ (p : After w) (b o : Nat), b < w.heap.size → (later w p).cell? ⟨b, o, none⟩ = w.cell? ⟨b, o, none⟩) → wpQuiet P l.toArray (fun W => ∃ p, W = later w p) (fun a' => ∀ W, Below w.heap.size w W → Q .normal a' W) (l.drop k) a) : wpAny P .any l.toArray Q m ls a w := by
  have hlen : (l.drop k).length = l.length - k := by rw [List.length_drop]
  refine any_headH (n := l.length) (k := k) (g := 0) (C := fun W => ∃ p, W = later w p) (l.drop k) ?_ (inv_of hi) (fun j hj => ?_) (by rw [hlen]; omega) (by rw [hlen]; exact hx) (by rw [hlen]; omega) ⟨⟨w, Below.refl _ _⟩, rfl⟩ ?_
  · have := headW_all (md := .any) hs
    simpa using this
  · rw [List.getElem?_drop]
    simp
  · rw [hlen]
    have e : (fun a' => ∀ W, (∃ p, W = later w p) → wpAny P .any l.toArray Q 0 (setR ls k (l.length - k)) a' W) = (fun a' => ∀ W, Below w.heap.size w W → Q .normal a' W) := by
      funext a'
      exact propext ⟨fun k W hW => (k W ⟨⟨W, hW⟩, rfl⟩).2, fun k W ⟨p, hp⟩ => hp ▸ wpAny_done hd (k _ p.ok) 0⟩
    rw [e]
    exact h (later_cell w)
end
end Go.Proofs.Try
