/- Steps on heaps; the walk of HeapSets. -/
import Derived.Test.YtgkiijpheigpjaaW14
import Derived.Test.YtgkiijpheigpjaaOpenI
namespace Go.Proofs.Try
open Go.RowKit
set_option linter.unusedVariables false
set_option linter.unusedSimpArgs false
/-- What a step makes. -/
def StepP (l : List It) (d : Bool) (x : It) (l' : List It) (E : Int) : Prop := (d = true ∧ DropP l x.1 l' E) ∨ (d = false ∧ SetP l x l' E)
theorem step_chk {l l' : List It} {d : Bool} {x : It} {E : Int} (h : StepP l d x l' E) (hc : chkI l) : chkI l' := by
  rcases h with ⟨_, h⟩ | ⟨_, h⟩
  · rcases h with ⟨_, h, _⟩ | ⟨_, _, _, h, _⟩
    · rw [h]; exact hc
    · exact h
  · rcases h with ⟨_, h, _⟩ | ⟨_, _, h, _⟩ | ⟨_, _, _, h, _⟩
    · rw [h]; exact hc
    · rw [h]; exact hc
    · exact h
def atS (l : List Stp) (j : Nat) : Stp := l.getD j (false, (0, 0, 0))
theorem atS_some {l : List Stp} {j : Nat} (h : j < l.length) : l[j]? = some (atS l j) := by
  unfold atS
  rw [List.getD_eq_getElem?_getD, List.getElem?_eq_getElem h]; rfl
theorem Sees.step {w : World} {n b off : Nat} {l : List Stp} (h : Sees w 4 (some ⟨b, off, none⟩) n (flat encS l)) {j : Nat} (hj : j < n) :
    w.cell? ⟨b, off + j * 4, none⟩ = some (.bool (atS l j).1) ∧ w.cell? ⟨b, off + j * 4 + 1, none⟩ = some (.int .i64 (atS l j).2.1) ∧ w.cell? ⟨b, off + j * 4 + 2, none⟩ = some (.int .u64 (atS l j).2.2.1) ∧ w.cell? ⟨b, off + j * 4 + 3, none⟩ = some (.int .u64 (atS l j).2.2.2) ∧ b < w.heap.size := by
  have hl := h.elen encS_len (by omega)
  have hx := atS_some (l := l) (j := j) (by omega)
  have h0 := h.el encS_len hx (i := 0) rfl
  have h1 := h.el encS_len hx (i := 1) rfl
  have h2 := h.el encS_len hx (i := 2) rfl
  have h3 := h.el encS_len hx (i := 3) rfl
  rw [Nat.add_zero] at h0
  exact ⟨h0, h1, h2, h3, World.block_lt_of_cell? w _ h0⟩
set_option maxRecDepth 100000 in
set_option maxHeartbeats 4000000 in
theorem do14_c (v : Value) (n : Nat) (l : List It) (d : Bool) (x0 x1 x2 : Int) (hn : n ≤ 1000) (w : World) (h : Rows encI 3 w v n l) :
    Calls Try.prog 28 #[v, .agg #[.bool d, .int .i64 x0, .int .u64 x1, .int .u64 x2]] w (SetE (StepP l d (x0, x1, x2)) w) := by
  have HS := Lib.hid (h.below ((Below.refl w.heap.size w).alloc (Nat.le_refl _) (.cells #[.bool d, .int .i64 x0, .int .u64 x1, .int .u64 x2] 41)))
  have hb0 := chain1 (Below.refl w.heap.size w) (.cells #[.bool d, .int .i64 x0, .int .u64 x1, .int .u64 x2] 41)
  clear h
  cases d with
  | true =>
    have DC := fun W h => drop_c v n l x0 hn W h
    go_enter Try.func28, Try.ntmps28
    go_wp2_with fail
    refine (DC _ HS.out).mono ?_
    rintro e w1 ⟨v1, l1, E1, rfl, hP, hR, hb1⟩
    go_wp2_with fail
    go_ret2
    exact ⟨_, l1, E1, rfl, .inl ⟨rfl, hP⟩, hR, chain hb0 hb1⟩
  | false =>
    have DC := fun W h => set_c v n l x0 x1 x2 hn W h
    go_enter Try.func28, Try.ntmps28
    go_wp2_with fail
    refine (DC _ HS.out).mono ?_
    rintro e w1 ⟨v1, l1, E1, rfl, hP, hR, hb1⟩
    go_wp2_with fail
    go_ret2
    exact ⟨_, l1, E1, rfl, .inr ⟨rfl, hP⟩, hR, chain hb0 hb1⟩
theorem tri.new' {w : World} {b : Nat} (hb : b = w.heap.size) (x y z : Value) (T : TypeId) : tri (w.alloc (.cells #[x, y, z] T)) b x y z := by subst hb; exact tri.new w x y z T
theorem steps_at {n : Nat} {steps : List Stp} {w wr : World} {A : Option Addr} {k : Nat} (hs : Sees w 4 A n (flat encS steps)) (hb : Below w.heap.size w wr) (hlt : k < n) :
    ∃ (bA oA : Nat) (d : Bool) (x0 x1 x2 : Int), A = some ⟨bA, oA, none⟩ ∧ wr.cell? ⟨bA, oA + k * 4, none⟩ = some (.bool d) ∧ wr.cell? ⟨bA, oA + k * 4 + 1, none⟩ = some (.int .i64 x0) ∧ wr.cell? ⟨bA, oA + k * 4 + 2, none⟩ = some (.int .u64 x1) ∧ wr.cell? ⟨bA, oA + k * 4 + 3, none⟩ = some (.int .u64 x2) ∧ bA < wr.heap.size ∧ atS steps k = (d, x0, x1, x2) := by
  have h := hs.below hb
  rcases h.2 with h0 | ⟨bA, oA, rfl, hbA, _⟩
  · omega
  · obtain ⟨s0, s1, s2, s3, _⟩ := h.step hlt
    exact ⟨bA, oA, _, _, _, _, rfl, s0, s1, s2, s3, hbA, rfl⟩
theorem wo_len (l : List It) (z : Int) : (wo l z).length ≤ l.length := List.length_filter_le _ _
end Go.Proofs.Try
