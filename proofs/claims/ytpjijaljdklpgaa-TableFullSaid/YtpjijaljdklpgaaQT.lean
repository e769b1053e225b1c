/- A region that draws its order: a head that reads and calls quietly, in whatever order; then a tail that waits for all of it: the world behind the head is the old one but for draws. What has grown by blocks. Marks in an array of 64 bools. -/
import Derived.Test.YtpjijaljdklpgaaTail
import Derived.Test.YtpjijaljdklpgaaChain
import Derived.Sort.Grow
namespace Go.Proofs.Try
open Go.RowKit Go.Sort
set_option linter.unusedVariables false
section
variable {P : Program}
theorem region_quiet_tail {id : Nat} {Q : Exit → Act → World → Prop} {a : Act} {w : World} {l : List Oper} (n : Nat) (hm : P.follows .mixedOrders = true) (hB : Region.lexTailB .any l.toArray n = true)
    (h : wpQuiet P l.toArray (fun W => ∃ m, W = w.drewN m) (fun a' => ∀ m, wpList P l.toArray Q (l.drop n) a' (w.drewN m)) (l.take n) a) : (Code.region id l.toArray true).wp P Q a w := by
  refine region_head_tail (C := fun W => ∃ m, W = w.drewN m) n hm hB ⟨1, rfl⟩ ?_
  have e : (fun a' => ∀ W, (∃ m, W = w.drewN m) → wpList P l.toArray Q (l.drop n) a' W) = (fun a' => ∀ m, wpList P l.toArray Q (l.drop n) a' (w.drewN m)) := by
    funext a'
    exact propext ⟨fun k m => k _ ⟨m, rfl⟩, fun k W ⟨m, hm⟩ => hm ▸ k m⟩
  rw [e]
  exact h
end
/-- All that was is as it was, but for draws; blocks lie behind. -/
def Grew (w w' : World) : Prop := ∃ q os', w' = grow (w.drewN q) os'
theorem Grew.refl (w : World) : Grew w w := ⟨0, #[], by simp [grow, World.drewN]⟩
theorem Grew.trans {a b c : World} (h : Grew a b) (k : Grew b c) : Grew a c := by
  obtain ⟨q, os, rfl⟩ := h
  obtain ⟨q', os', rfl⟩ := k
  refine ⟨q + q', os ++ os', ?_⟩
  simp [grow, World.drewN, Array.append_assoc, Nat.add_assoc]
theorem Grew.alloc (w : World) (o : Obj) : Grew w (w.alloc o) := ⟨0, #[o], by rw [alloc_eq_grow]; rfl⟩
theorem Grew.drewN (w : World) (n : Nat) : Grew w (w.drewN n) := ⟨n, #[], by simp [grow, World.drewN]⟩
theorem Grew.drew (w : World) : Grew w w.drew := Grew.drewN w 1
theorem Grew.below {w w' : World} (h : Grew w w') : Below w.heap.size w w' := by
  obtain ⟨q, os, rfl⟩ := h
  refine ⟨rfl, rfl, rfl, by simp [grow, World.drewN], fun k hk => ?_⟩
  simp only [grow, World.drewN]
  rw [Array.getElem?_append_left hk]
/-- The marks of an array of 64 bools, which may be written. -/
def marks (W : World) (b : Nat) (S : Nat → Bool) : Prop := ∀ i, i < 64 → W.cell? ⟨b, i, none⟩ = some (.bool (S i)) ∧ W.frozen? ⟨b, i, none⟩ = false
theorem marks.below {W W' : World} {b B : Nat} {S : Nat → Bool} (h : marks W b S) (hb : Below B W W') (hlt : b < B) : marks W' b S := fun j hj =>
  ⟨(hb.cell (p := ⟨b, j, none⟩) hlt).trans (h j hj).1, (hb.frozen (p := ⟨b, j, none⟩) hlt).trans (h j hj).2⟩
theorem marks.set {W : World} {b : Nat} {S : Nat → Bool} (h : marks W b S) (i : Nat) (hi : i < 64) (v : Bool) {S' : Nat → Bool} (hS : ∀ j, j < 64 → S' j = if j = i then v else S j) : marks (W.setCell ⟨b, i, none⟩ (.bool v)) b S' := fun k hk => by
  refine ⟨?_, (World.frozen?_setCell _ _ _ _).trans (h k hk).2⟩
  rw [hS k hk]
  by_cases e : k = i
  · subst e
    rw [World.cell?_setCell_same _ _ _ (h k hk).1, if_pos rfl]
  · rw [World.cell?_setCell_other _ _ _ _ (by first | (simp; done) | (simp; omega)), (h k hk).1, if_neg e]
theorem marks.lt {W : World} {b : Nat} {S : Nat → Bool} (h : marks W b S) : b < W.heap.size := World.block_lt_of_cell? W _ (h 0 (by omega)).1
theorem marks.congr {W : World} {b : Nat} {S S' : Nat → Bool} (h : marks W b S) (hS : ∀ j, j < 64 → S' j = S j) : marks W b S' := fun j hj => ⟨by rw [hS j hj]; exact (h j hj).1, (h j hj).2⟩
theorem marks.new (w : World) (cs : Array Value) (e : TypeId) (h : cs = Array.replicate 64 (.bool false)) : marks (w.alloc (.cells cs e)) w.heap.size (fun _ => false) := fun j hj => by
  refine ⟨?_, ?_⟩
  · rw [cell_of_row _ _ j _ e (0, 0) (heap_alloc_new w _), h]
    simp [hj]
  · go_simp
end Go.Proofs.Try
