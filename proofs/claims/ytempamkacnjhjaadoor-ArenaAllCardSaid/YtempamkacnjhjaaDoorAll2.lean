/- ArenaAll: rows of slots and of classes. -/
import Derived.Test.YtempamkacnjhjaaDoorAll
import Derived.Test.YtempamkacnjhjaaDoorOwn2
import Derived.Test.YtempamkacnjhjaaDoorOpenA
namespace Go.Proofs.Tryd
open Go.RowKit
set_option linter.unusedVariables false
set_option linter.unusedSimpArgs false
/-- The cells of slots, one behind the other; the classes. -/
def slC : List Tk → List Value
  | [] => []
  | p :: l => .int .i64 (p.1 : Int) :: .int .i64 (p.2.1 : Int) :: slC l
def clC (ps : List Tk) : List Value := ps.map fun p => .int .i64 p.2.2
theorem slC_len (l : List Tk) : (slC l).length = l.length * 2 := by
  induction l with
  | nil => rfl
  | cons p l ih => simp [slC, ih]; omega
theorem slC_app (l m : List Tk) : slC (l ++ m) = slC l ++ slC m := by
  induction l with
  | nil => rfl
  | cons p l ih => simp [slC, ih]
theorem slC_take (l : List Tk) (k : Nat) : (slC l).take (k * 2) = slC (l.take k) := by
  induction l generalizing k with
  | nil => simp [slC]
  | cons p l ih =>
    cases k with
    | zero => simp [slC]
    | succ k => rw [show (k + 1) * 2 = k * 2 + 1 + 1 by omega]; simp [slC, ih]
theorem slC_drop (l : List Tk) (k : Nat) : (slC l).drop (k * 2) = slC (l.drop k) := by
  induction l generalizing k with
  | nil => simp [slC]
  | cons p l ih =>
    cases k with
    | zero => simp [slC]
    | succ k => rw [show (k + 1) * 2 = k * 2 + 1 + 1 by omega]; simp [slC, ih]
theorem slC_one (l : List Tk) : ∀ u ∈ slC l, u.oneCell' = true := by
  induction l with
  | nil => simp [slC]
  | cons p l ih =>
    intro u hu
    simp only [slC, List.mem_cons] at hu
    rcases hu with rfl | rfl | hu
    · rfl
    · rfl
    · exact ih u hu
theorem clC_one (l : List Tk) : ∀ u ∈ clC l, u.oneCell' = true := by
  intro u hu
  unfold clC at hu
  rw [List.mem_map] at hu
  obtain ⟨p, _, rfl⟩ := hu
  rfl
theorem slC_at (l : List Tk) (j : Nat) (p : Tk) (h : l[j]? = some p) : (slC l)[j * 2]? = some (.int .i64 (p.1 : Int)) ∧ (slC l)[j * 2 + 1]? = some (.int .i64 (p.2.1 : Int)) := by
  induction l generalizing j with
  | nil => simp at h
  | cons q l ih =>
    cases j with
    | zero => simp at h; subst h; simp [slC]
    | succ j =>
      have := ih j (by simpa using h)
      rw [show (j + 1) * 2 = j * 2 + 1 + 1 by omega]
      simpa [slC] using this
section
variable {w : World} {k n : Nat} {xs : List Value}
theorem Sees.takeN {A : Option Addr} (h : Sees w k A n xs) (m : Nat) (hm : m ≤ n) : Sees w k A m (xs.take (m * k)) := by
  have hmk : m * k ≤ n * k := Nat.mul_le_mul_right k hm
  refine ⟨by rw [List.length_take, h.1]; omega, ?_⟩
  rcases h.2 with h0 | ⟨b, off, hA, hb, hc⟩
  · exact .inl (by omega)
  · refine .inr ⟨b, off, hA, hb, fun j hj => ?_⟩
    rw [List.length_take] at hj
    rw [hc j (by omega), List.getElem?_take_of_lt (by omega)]
theorem Sees.dropN {b off : Nat} (h : Sees w k (some ⟨b, off, none⟩) n xs) (m : Nat) (hm : m ≤ n) : Sees w k (some ⟨b, off + m * k, none⟩) (n - m) (xs.drop (m * k)) := by
  have hmk : m * k ≤ n * k := Nat.mul_le_mul_right k hm
  refine ⟨by rw [List.length_drop, h.1, Nat.sub_mul], ?_⟩
  rcases h.2 with h0 | ⟨b', off', hA, hb, hc⟩
  · exact .inl (by omega)
  · injection hA with hA
    injection hA with e1 e2
    subst e1 e2
    refine .inr ⟨b, off + m * k, rfl, hb, fun j hj => ?_⟩
    rw [List.length_drop] at hj
    rw [Nat.add_assoc, hc _ (by omega), List.getElem?_drop]
/-- Behind an append to one row, what lies in another block is as it was. -/
theorem Sees.grown {w' : World} {b off : Nat} {row : Option Nat} (h : Sees w k (some ⟨b, off, none⟩) n xs) (hg : w.grownBy w' row) (hne : some b ≠ row) : Sees w' k (some ⟨b, off, none⟩) n xs := by
  refine ⟨h.1, h.2.imp id ?_⟩
  rintro ⟨b', off', hA, hb, hc⟩
  injection hA with hA
  injection hA with e1 e2
  subst e1 e2
  exact ⟨b, off, rfl, Nat.lt_of_lt_of_le hb hg.size, fun j hj => (World.cell?_of_block (a := ⟨b, off + j, none⟩) (hg.block b hb hne)).trans (hc j hj)⟩
end
end Go.Proofs.Tryd
