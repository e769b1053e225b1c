/- linhayref14.With. -/
import Derived.Test.YtgkiijpheigpjaaHr1
namespace Go.Proofs.Try
open Go.RowKit
set_option linter.unusedVariables false
set_option linter.unusedSimpArgs false
/-- One more among items: those ahead of it, it, and those behind. -/
def insI (l : List It) (x : It) : List It := l.takeWhile (fun y => decide (LtI y x)) ++ x :: l.dropWhile (fun y => decide (LtI y x))
theorem insI_at {l : List It} {x : It} {k : Nat} (hk : k ≤ l.length) (h1 : ∀ j, j < k → LtI (atI l j) x) (h2 : k < l.length → ¬LtI (atI l k) x) : insI l x = l.take k ++ ([x] ++ l.drop k) := by
  induction l generalizing k with
  | nil => simp [insI]
  | cons y l ih =>
    have e0 : atI (y :: l) 0 = y := by simp [atI]
    have es : ∀ j, atI (y :: l) (j + 1) = atI l j := fun j => by simp [atI]
    cases k with
    | zero =>
      have := h2 (by simp)
      rw [e0] at this
      simp [insI, List.takeWhile_cons, List.dropWhile_cons, this]
    | succ k =>
      have hy := h1 0 (by omega)
      rw [e0] at hy
      have := ih (k := k) (by simpa using hk) (fun j hj => by have := h1 (j + 1) (by omega); rwa [es] at this) (fun hkl => by have := h2 (by simpa using hkl); rwa [es] at this)
      unfold insI at this ⊢
      simp only [List.takeWhile_cons, List.dropWhile_cons, decide_eq_true hy, if_true, List.take_succ_cons, List.drop_succ_cons, List.cons_append]
      rw [this]
      rfl
theorem insI_perm (l : List It) (x : It) : (insI l x).Perm (x :: l) := by
  unfold insI
  have h := List.takeWhile_append_dropWhile (p := fun y => decide (LtI y x)) (l := l)
  conv => rhs; rw [← h]
  exact List.perm_middle
theorem insI_rises {l : List It} {x : It} (h : rises l) (hx : ∀ y ∈ l, y ≠ x) : rises (insI l x) := by
  induction l with
  | nil => simp [insI, rises]
  | cons y l ih =>
    unfold rises at h
    rw [List.pairwise_cons] at h
    by_cases hy : LtI y x
    · have ih' := ih h.2 (fun z hz => hx z (List.mem_cons_of_mem _ hz))
      have e : insI (y :: l) x = y :: insI l x := by simp [insI, List.takeWhile_cons, List.dropWhile_cons, hy]
      rw [e]
      unfold rises at ih' ⊢
      rw [List.pairwise_cons]
      refine ⟨fun z hz => ?_, ih'⟩
      have := (insI_perm l x).mem_iff.1 hz
      rw [List.mem_cons] at this
      rcases this with rfl | h1
      · exact hy
      · exact h.1 z h1
    · have e : insI (y :: l) x = x :: y :: l := by simp [insI, List.takeWhile_cons, List.dropWhile_cons, hy]
      have hxy : LtI x y := Classical.byContradiction fun hn => hx y (List.mem_cons_self ..) (LtI.tot hy hn)
      rw [e]
      unfold rises
      rw [List.pairwise_cons, List.pairwise_cons]
      refine ⟨fun z hz => ?_, h⟩
      rw [List.mem_cons] at hz
      rcases hz with rfl | h1
      · exact hxy
      · exact hxy.tr (h.1 z h1)
theorem sub_from (b o k n c j : Nat) (xs : List Value) (hj : j ≤ n) (hc : n ≤ c) : ∃ X, (if c = j then some (⟨b, o, none⟩ : Addr) else some ⟨b, o + j * k, none⟩) = some ⟨b, X, none⟩ ∧ ∀ W, Sees W k (some ⟨b, o, none⟩) n xs → Sees W k (some ⟨b, X, none⟩) (n - j) (xs.drop (j * k)) := by
  by_cases h : c = j
  · refine ⟨o, by rw [if_pos h], fun W hW => ?_⟩
    have hn : n = j := by omega
    rw [show n - j = 0 by omega, List.drop_of_length_le (by rw [hW.1, hn]; exact Nat.le_refl _)]
    exact Sees.empty _ _ _
  · refine ⟨o + j * k, by rw [if_neg h], fun W hW => ?_⟩
    have hjk : j * k ≤ n * k := Nat.mul_le_mul_right k hj
    refine ⟨by rw [List.length_drop, hW.1, Nat.sub_mul], ?_⟩
    rcases hW.2 with h0 | ⟨b', off', hA, hb, hcc⟩
    · exact .inl (by omega)
    · injection hA with hA
      injection hA with e1 e2
      subst e1 e2
      refine .inr ⟨b, o + j * k, rfl, hb, fun i hi => ?_⟩
      rw [List.length_drop] at hi
      rw [Nat.add_assoc, hcc _ (by omega), List.getElem?_drop]
theorem sees_from {W : World} {b o k n j : Nat} {xs : List Value} (hj : j ≤ n) (hW : Sees W k (some ⟨b, o, none⟩) n xs) : Sees W k (some ⟨b, o + j * k, none⟩) (n - j) (xs.drop (j * k)) := by
  have hjk : j * k ≤ n * k := Nat.mul_le_mul_right k hj
  refine ⟨by rw [List.length_drop, hW.1, Nat.sub_mul], ?_⟩
  rcases hW.2 with h0 | ⟨b', off', hA, hb, hcc⟩
  · exact .inl (by omega)
  · injection hA with hA
    injection hA with e1 e2
    subst e1 e2
    refine .inr ⟨b, o + j * k, rfl, hb, fun i hi => ?_⟩
    rw [List.length_drop] at hi
    rw [Nat.add_assoc, hcc _ (by omega), List.getElem?_drop]
theorem own_made1 (w : World) (o : Obj) (e : TypeId) : ((w.alloc o).alloc (.cells #[] e)).ownsRow w.heap.size e 3 (.slice (some ⟨w.heap.size + 1, 0, none⟩) 0 0) 0 [] := by
  have h := World.ownsRow_made (w.alloc o) (e := e) (size := 3) #[] 0 (base := w.heap.size) (by simp) (Nat.zero_le _) rfl
  rwa [World.size_alloc] at h
theorem sees_blk2 (w : World) (o : Obj) (cs : Array Value) (t : TypeId) (k n : Nat) (h : cs.size = n * k) : Sees ((w.alloc o).alloc (.cells cs t)) k (some ⟨w.heap.size + 1, 0, none⟩) n cs.toList := by
  have h := sees_blk (w.alloc o) cs t k n h
  rwa [World.size_alloc] at h
theorem sees_take {w : World} {k n : Nat} {xs : List Value} {A : Option Addr} (h : Sees w k A n xs) (m : Nat) (hm : m ≤ n) : Sees w k A m (xs.take (m * k)) := by
  have hmk : m * k ≤ n * k := Nat.mul_le_mul_right k hm
  refine ⟨by rw [List.length_take, h.1]; omega, ?_⟩
  rcases h.2 with h0 | ⟨b, off, hA, hb, hc⟩
  · exact .inl (by omega)
  · refine .inr ⟨b, off, hA, hb, fun j hj => ?_⟩
    rw [List.length_take] at hj
    rw [hc j (by omega), List.getElem?_take_of_lt (by omega)]
theorem sees_grown {w w' : World} {k n : Nat} {xs : List Value} {b off : Nat} {row : Option Nat} (h : Sees w k (some ⟨b, off, none⟩) n xs) (hg : w.grownBy w' row) (hne : some b ≠ row) : Sees w' k (some ⟨b, off, none⟩) n xs := by
  refine ⟨h.1, h.2.imp id ?_⟩
  rintro ⟨b', off', hA, hb, hc⟩
  injection hA with hA
  injection hA with e1 e2
  subst e1 e2
  exact ⟨b, off, rfl, Nat.lt_of_lt_of_le hb hg.size, fun j hj => (World.cell?_of_block (a := ⟨b, off + j, none⟩) (hg.block b hb hne)).trans (hc j hj)⟩
theorem sees_grown2 {w W w' : World} {k n : Nat} {xs : List Value} {b off : Nat} {row : Option Nat} (h : Sees w k (some ⟨b, off, none⟩) n xs) (hg : W.grownBy w' row) (e : w.heap = W.heap) (hne : some b ≠ row) : Sees w' k (some ⟨b, off, none⟩) n xs := by
  refine sees_grown (w := W) ⟨h.1, h.2.imp id ?_⟩ hg hne
  rintro ⟨b', off', hA, hb, hc⟩
  exact ⟨b', off', hA, by rw [← e]; exact hb, fun j hj => (World.cell?_of_block (a := ⟨b', off' + j, none⟩) (by rw [e])).trans (hc j hj)⟩
end Go.Proofs.Try
