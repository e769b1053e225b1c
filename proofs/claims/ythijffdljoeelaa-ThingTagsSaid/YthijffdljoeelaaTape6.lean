/- The contract of linhayref08.Some. -/
import Derived.Test.YthijffdljoeelaaTape4
namespace Go.Proofs.Try
open Go.RowKit
set_option linter.unusedVariables false

/-- The places that are not taken, from a place on. -/
def untaken : List Bool → Nat → List Int
  | [], _ => []
  | b :: T, i => if b then untaken T (i + 1) else (i : Int) :: untaken T (i + 1)
theorem untaken_split : ∀ (T : List Bool) (i k : Nat), i ≤ T.length → untaken T k = untaken (T.take i) k ++ untaken (T.drop i) (k + i)
  | T, 0, k, _ => by rw [List.take_zero, List.drop_zero, untaken]; rfl
  | [], i + 1, k, h => by simp at h
  | b :: T, i + 1, k, h => by
    rw [List.take_succ_cons, List.drop_succ_cons, untaken, untaken, untaken_split T i (k + 1) (by simpa using h), show k + 1 + i = k + (i + 1) by omega]
    split <;> simp
theorem untaken_step (T : List Bool) (i : Nat) (h : i < T.length) : untaken (T.drop i) i = if T.getD i false then untaken (T.drop (i + 1)) (i + 1) else (i : Int) :: untaken (T.drop (i + 1)) (i + 1) := by
  rw [List.drop_eq_getElem_cons h, untaken, List.getD_eq_getElem?_getD, List.getElem?_eq_getElem h]
  rfl
theorem untaken_more (T : List Bool) (i : Nat) (h : i < T.length) (ht : T.getD i false = true) : untaken (T.take (i + 1)) 0 = untaken (T.take i) 0 := by
  rw [untaken_split (T.take (i + 1)) i 0 (by simp; omega), List.take_take, show min i (i + 1) = i by omega, List.drop_take, show i + 1 - i = 1 by omega, List.drop_eq_getElem_cons h, List.take_succ_cons, List.take_zero]
  rw [List.getD_eq_getElem?_getD, List.getElem?_eq_getElem h] at ht
  simp only [Option.getD_some] at ht
  rw [ht]; simp [untaken]
theorem untaken_more' (T : List Bool) (i : Nat) (h : i < T.length) (ht : T.getD i false = false) : untaken (T.take (i + 1)) 0 = untaken (T.take i) 0 ++ [(i : Int)] := by
  rw [untaken_split (T.take (i + 1)) i 0 (by simp; omega), List.take_take, show min i (i + 1) = i by omega, List.drop_take, show i + 1 - i = 1 by omega, List.drop_eq_getElem_cons h, List.take_succ_cons, List.take_zero]
  rw [List.getD_eq_getElem?_getD, List.getElem?_eq_getElem h] at ht
  simp only [Option.getD_some] at ht
  rw [ht]; simp [untaken]
theorem untaken_take (T : List Bool) (i a : Nat) (h : i < T.length) (ht : T.getD i false = false) (ha : (untaken (T.take i) 0).length = a) :
    untaken (T.set i true) 0 = (untaken T 0).eraseIdx a ∧ (untaken T 0).getD a 0 = i := by
  have e1 : untaken T 0 = untaken (T.take i) 0 ++ ((i : Int) :: untaken (T.drop (i + 1)) (i + 1)) := by
    rw [untaken_split T i 0 (by omega), Nat.zero_add, untaken_step T i h, ht]; rfl
  have e2 : untaken (T.set i true) 0 = untaken (T.take i) 0 ++ untaken (T.drop (i + 1)) (i + 1) := by
    rw [untaken_split (T.set i true) i 0 (by rw [List.length_set]; omega), Nat.zero_add, untaken_step _ i (by rw [List.length_set]; exact h), List.take_set_of_le (Nat.le_refl _), List.drop_set_of_lt (by omega), List.getD_eq_getElem?_getD, List.getElem?_set_self h]
    rfl
  rw [e2, e1]
  subst ha
  refine ⟨?_, ?_⟩
  · rw [List.eraseIdx_append_of_length_le (Nat.le_refl _), Nat.sub_self]; rfl
  · rw [List.getD_eq_getElem?_getD, List.getElem?_append_right (Nat.le_refl _), Nat.sub_self]; rfl
theorem untaken_free : ∀ (n k : Nat), untaken (List.replicate n false) k = (List.range' k n).map Int.ofNat
  | 0, _ => rfl
  | n + 1, k => by rw [List.replicate_succ, untaken, untaken_free n (k + 1), List.range'_succ, List.map_cons]; rfl
theorem untaken_all (n : Nat) : untaken (List.replicate n false) 0 = (List.range n).map Int.ofNat := by rw [untaken_free, List.range_eq_range']

/-- A block holds these marks, and they may be written. -/
def boolAt (W : World) (b : Nat) (T : List Bool) : Prop := ∀ j, j < T.length → W.cell? ⟨b, j, none⟩ = some (.bool (T.getD j false)) ∧ W.frozen? ⟨b, j, none⟩ = false
section
variable {W W' : World} {b b' B : Nat} {T : List Bool}
theorem boolAt.below (h : boolAt W b T) (hb : Below B W W') (hlt : b < B) : boolAt W' b T := fun j hj =>
  ⟨(hb.cell (p := ⟨b, j, none⟩) hlt).trans (h j hj).1, (hb.frozen (p := ⟨b, j, none⟩) hlt).trans (h j hj).2⟩
theorem boolAt.other (h : boolAt W b T) (hne : b' ≠ b) (o : Nat) (v : Value) : boolAt (W.setCell ⟨b', o, none⟩ v) b T := fun j hj =>
  ⟨(World.cell?_setCell_other _ _ _ _ (by first | (simp; done) | (simp; omega))).trans (h j hj).1, (World.frozen?_setCell _ _ _ _).trans (h j hj).2⟩
theorem boolAt.set (h : boolAt W b T) (j : Nat) (hj : j < T.length) (v : Bool) : boolAt (W.setCell ⟨b, j, none⟩ (.bool v)) b (T.set j v) := fun k hk => by
  rw [List.length_set] at hk
  refine ⟨?_, (World.frozen?_setCell _ _ _ _).trans (h k hk).2⟩
  by_cases e : j = k
  · subst e
    rw [World.cell?_setCell_same _ _ _ (h j hj).1, List.getD_eq_getElem?_getD, List.getElem?_set_self (by omega)]
    rfl
  · rw [World.cell?_setCell_other _ _ _ _ (by first | (simp; done) | (simp; omega)), (h k hk).1, List.getD_eq_getElem?_getD, List.getD_eq_getElem?_getD, List.getElem?_set_ne e]
theorem tapeAt.belowB {s : ByteArray} {i : Int} (h : tapeAt W b s i) (hb : Below B W W') (hlt : b < B) : tapeAt W' b s i :=
  ⟨(hb.cell (p := ⟨b, 0, none⟩) hlt).trans h.1, (hb.cell (p := ⟨b, 1, none⟩) hlt).trans h.2.1, (hb.frozen (p := ⟨b, 0, none⟩) hlt).trans h.2.2.1, (hb.frozen (p := ⟨b, 1, none⟩) hlt).trans h.2.2.2⟩
theorem own_keep {base : Nat} {e : TypeId} {k n : Nat} {v : Value} {xs : List Value} (h : W.ownsRow base e k v n xs) (hk : ∀ g, base ≤ g → g < W.heap.size → W'.heap[g]? = W.heap[g]?) : W'.ownsRow base e k v n xs := by
  obtain ⟨hl, h⟩ := h
  refine ⟨hl, h.imp id ?_⟩
  rintro ⟨g, cap, cur, rfl, hb, hg, rest⟩
  exact ⟨g, cap, cur, rfl, hb, (hk g hb (Array.getElem?_eq_some_iff.1 hg).1).trans hg, rest⟩
end
theorem boolAt.made (w : World) (n : Nat) (e : TypeId) : boolAt (w.alloc (.cells (madeCells #[.bool false] n) e)) w.heap.size (List.replicate n false) := fun j hj => by
  rw [List.length_replicate] at hj
  refine ⟨?_, ?_⟩
  · rw [cell_of_row _ _ j _ e (0, 0) (heap_alloc_new w _), madeCells]
    simp [hj, Nat.mod_one]
  · go_simp
theorem bool_info : (Try.prog.info? 4).map (fun i => (i.zero, i.size, i.bytes)) = some (some (.bool false), 1, 1) := by kernel_rfl
theorem make_bools (n : Nat) (h : n ≤ 1000000) (W : World) : (Instr.makeSlice 61 (.int .i64 (n : Int)) (.int .i64 (n : Int))).run Try.prog W = .ok (.slice (some ⟨W.heap.size, 0, none⟩) n n) (W.alloc (.cells (madeCells #[.bool false] n) 4)) := by
  obtain ⟨i0, hi, hz0, hz1, hz2⟩ := info_parts bool_info
  have hmk := run_make (P := Try.prog) W 61 4 i0 _ Try.underlying61 hi hz0 .i64 .i64 n n (by omega) (by omega) (by rw [hz2]; omega) (by omega)
  rw [hz1] at hmk
  simpa [Value.cells] using hmk
theorem rsome_step (s : ByteArray) (O T : List Int) (L : List Int) (ii x : Int) (m j a : Nat) (hj : j < m) (ha : pickN s ii L.length = a) (hx : L.getD a 0 = x) (h : O ++ someL s (m - j) ii L = T) :
    (O ++ [x]) ++ someL s (m - (j + 1)) (pickA s ii L.length) (L.eraseIdx a) = T := by
  rw [← h, show m - j = (m - (j + 1)) + 1 by omega, someL, ha, Int.toNat_natCast, hx]
  simp
end Go.Proofs.Try
