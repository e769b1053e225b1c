/- A block of the call's own that holds two cells (a variable of a struct type), and may be written. -/
import Derived.Test.YtempamkacnjhjaaDoorChain
namespace Go.Proofs.Tryd
open Go.RowKit
set_option linter.unusedVariables false
set_option linter.unusedSimpArgs false
theorem frozen_new (w : World) (cs : Array Value) (T : TypeId) (j : Nat) : (w.alloc (.cells cs T)).frozen? ⟨w.heap.size, j, none⟩ = false := by
  have h : (w.alloc (.cells cs T)).heap[w.heap.size]? = some (.cells cs T (0, 0)) := heap_alloc_new w _
  unfold World.frozen?
  simp only
  rw [h]
  simp
def pairAt (W : World) (b : Nat) (x y : Value) : Prop := W.cell? ⟨b, 0, none⟩ = some x ∧ W.cell? ⟨b, 1, none⟩ = some y ∧ W.frozen? ⟨b, 0, none⟩ = false ∧ W.frozen? ⟨b, 1, none⟩ = false
section
variable {W W' : World} {b : Nat} {x y : Value}
theorem pairAt.lt (h : pairAt W b x y) : b < W.heap.size := World.block_lt_of_cell? W _ h.1
theorem pairAt.below (h : pairAt W b x y) (hb : Below W.heap.size W W') : pairAt W' b x y :=
  ⟨(hb.cell (p := ⟨b, 0, none⟩) h.lt).trans h.1, (hb.cell (p := ⟨b, 1, none⟩) h.lt).trans h.2.1, (hb.frozen (p := ⟨b, 0, none⟩) h.lt).trans h.2.2.1, (hb.frozen (p := ⟨b, 1, none⟩) h.lt).trans h.2.2.2⟩
theorem pairAt.new (w : World) (x y : Value) (T : TypeId) : pairAt (w.alloc (.cells #[x, y] T)) w.heap.size x y := ⟨by simp, by simp, frozen_new _ _ _ _, frozen_new _ _ _ _⟩
theorem pairAt.new' (hb : b = W.heap.size) (x y : Value) (T : TypeId) : pairAt (W.alloc (.cells #[x, y] T)) b x y := by subst hb; exact pairAt.new W x y T
theorem pairAt.alloc (h : pairAt W b x y) (o : Obj) : pairAt (W.alloc o) b x y := h.below ((Below.refl _ _).alloc (Nat.le_refl _) _)
theorem pairAt.set (h : pairAt W b x y) (x' y' : Value) : pairAt ((W.setCell ⟨b, 0, none⟩ x').setCell ⟨b, 1, none⟩ y') b x' y' := by
  obtain ⟨h0, h1, f0, f1⟩ := h
  have e1 : (W.setCell ⟨b, 0, none⟩ x').cell? ⟨b, 1, none⟩ = some y := (World.cell?_setCell_other _ _ _ _ (by simp)).trans h1
  refine ⟨(World.cell?_setCell_other _ _ _ _ (by simp)).trans (World.cell?_setCell_same _ _ _ h0), World.cell?_setCell_same _ _ _ e1, ?_, ?_⟩
  · rw [World.frozen?_setCell, World.frozen?_setCell, f0]
  · rw [World.frozen?_setCell, World.frozen?_setCell, f1]
theorem pairAt.other (h : pairAt W b x y) {a : Addr} (hne : a.block ≠ b) (v : Value) : pairAt (W.setCell a v) b x y :=
  ⟨(World.cell?_setCell_other _ _ _ _ (by intro e; exact hne (by rw [e]))).trans h.1, (World.cell?_setCell_other _ _ _ _ (by intro e; exact hne (by rw [e]))).trans h.2.1, (World.frozen?_setCell _ _ _ _).trans h.2.2.1, (World.frozen?_setCell _ _ _ _).trans h.2.2.2⟩
end
end Go.Proofs.Tryd
