/- A region that draws its order, whose operations read what is old, and whose calls only make new blocks: one walk, in the order of the text. -/
import Derived.Test.YtjcclobnpbgmcaaDoorBase
namespace Go.Proofs.Tryd
open Go.RowKit
set_option linter.unusedVariables false

/-- The worlds in which all that was there is as it was. -/
structure After (w : World) where
  at_ : World
  ok : Below w.heap.size w at_
instance afterNonempty (w : World) : Nonempty (After w) := ⟨⟨w, Below.refl _ _⟩⟩
def later (w : World) (p : After w) : World := p.at_
theorem later_cell (w : World) : ∀ (p : After w) (b o : Nat), b < w.heap.size → (later w p).cell? ⟨b, o, none⟩ = w.cell? ⟨b, o, none⟩ :=
  fun p b o h => p.ok.cell (p := ⟨b, o, none⟩) h
theorem later_size (w : World) (p : After w) : w.heap.size ≤ (later w p).heap.size := p.ok.size
theorem later_below (w : World) (p : After w) : Below w.heap.size w (later w p) := p.ok

section
variable {P : Program}
theorem region_later {id : Nat} {Q : Exit → Act → World → Prop} {a : Act} {w : World} {l : List Oper} (hm : P.follows .mixedOrders = true) (hB : Region.lexB .any l.toArray = true)
    (h : (∀ (p : After w) (b o : Nat), b < w.heap.size → (later w p).cell? ⟨b, o, none⟩ = w.cell? ⟨b, o, none⟩) → wpQuiet P l.toArray (fun W => ∃ p, W = later w p) (fun a' => ∀ W, Below w.heap.size w W → Q .normal a' W) l a) : (Code.region id l.toArray true).wp P Q a w := by
  refine wp_region_quiet (C := fun W => ∃ p, W = later w p) hm hB ⟨⟨_, (Below.refl _ w).drew⟩, rfl⟩ ?_
  have e : (fun a' => ∀ w', (∃ p, w' = later w p) → Q .normal a' w') = (fun a' => ∀ W, Below w.heap.size w W → Q .normal a' W) := by
    funext a'
    exact propext ⟨fun k W hW => k W ⟨⟨W, hW⟩, rfl⟩, fun k W ⟨p, hp⟩ => hp ▸ k _ p.ok⟩
  rw [e]
  simpa using h (later_cell w)
/-- A call that only makes new blocks. -/
theorem later_call {f : FuncId} {args : Array Value} {w : World} {p : After w} {v : Value}
    (h : Calls P f args (later w p) fun e w' => e = .returned v ∧ Below (later w p).heap.size (later w p) w') : Calls P f args (later w p) fun e w'' => e = .returned v ∧ ∃ q, w'' = later w q :=
  h.mono fun _ w' ⟨he, hb⟩ => ⟨he, ⟨w', p.ok.trans (hb.mono p.ok.size)⟩, rfl⟩
/-- A call that leaves all as it is. -/
theorem later_same {f : FuncId} {args : Array Value} {w : World} {p : After w} {v : Value}
    (h : Calls P f args (later w p) fun e w' => e = .returned v ∧ later w p = w') : Calls P f args (later w p) fun e w'' => e = .returned v ∧ ∃ q, w'' = later w q :=
  h.mono fun _ _ ⟨he, hw⟩ => ⟨he, p, hw.symm⟩
end
end Go.Proofs.Tryd
