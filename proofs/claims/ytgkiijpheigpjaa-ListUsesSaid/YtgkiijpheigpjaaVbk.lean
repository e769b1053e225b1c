/- A block that is known whole: cells of any kinds (a struct of arrays of numbers and of bools). As XBlk. -/
import Derived.Test.YtgkiijpheigpjaaChain
import Derived.Test.YtgkiijpheigpjaaOwn
import Derived.Deep.MidRow
import Derived.Laws.Tables
import Derived.Great.Walk
import Derived.Laws.CopyOwn
namespace Go.Proofs.Try
open Go.RowKit
set_option linter.unusedVariables false
set_option linter.unusedSimpArgs false
/-- These cells. -/
@[irreducible] def celV (l : List Value) : Array Value := l.toArray
theorem celV_size (l : List Value) : (celV l).size = l.length := by unfold celV; simp
theorem celV_at (l : List Value) (k : Nat) (h : k < l.length) : (celV l)[k]? = some (l.getD k undef) := by
  unfold celV
  rw [List.getElem?_toArray, List.getD_eq_getElem?_getD, List.getElem?_eq_getElem h]
  rfl
theorem celV_one {l : List Value} (h : ∀ v ∈ l, v.oneCell' = true) : (celV l).all (·.oneCell') = true := by
  unfold celV
  rw [Array.all_eq_true_iff_forall_mem]
  intro v hv
  exact h v (by simpa using hv)
theorem celV_set (l : List Value) (k : Nat) (v : Value) : (celV l).setIfInBounds k v = celV (l.set k v) := by
  unfold celV
  apply Array.ext'
  simp
theorem celV_inj {a b : List Value} (h : celV a = celV b) : a = b := by
  unfold celV at h
  have h1 := congrArg Array.toList h
  simpa using h1
/-- The block holds these cells, and no more, and may be written. -/
def vbk (W : World) (b : Nat) (T : TypeId) (l : List Value) : Prop := W.heap[b]? = some (.cells (celV l) T (0, 0))
section
variable {W W' : World} {b : Nat} {T : TypeId} {l : List Value}
theorem vbk.lt (h : vbk W b T l) : b < W.heap.size := (Array.getElem?_eq_some_iff.1 h).1
theorem vbk.below (h : vbk W b T l) (hb : Below W.heap.size W W') : vbk W' b T l := (hb.block b h.lt).trans h
theorem vbk.new (w : World) (l : List Value) (T : TypeId) : vbk (w.alloc (.cells (celV l) T)) w.heap.size T l := heap_alloc_new w _
theorem vbk.new' (hb : b = W.heap.size) : vbk (W.alloc (.cells (celV l) T)) b T l := by subst hb; exact heap_alloc_new W _
theorem vbk.alloc (h : vbk W b T l) (o : Obj) : vbk (W.alloc o) b T l := h.below ((Below.refl _ _).alloc (Nat.le_refl _) _)
theorem vbk.cell (h : vbk W b T l) {k : Nat} (hk : k < l.length) : W.cell? ⟨b, k, none⟩ = some (l.getD k undef) :=
  (cell_of_row W b k _ T (0, 0) h).trans (celV_at l k hk)
theorem vbk.frozen (h : vbk W b T l) (k : Nat) : W.frozen? ⟨b, k, none⟩ = false := by
  unfold World.frozen?
  simp only
  rw [h]
  simp
theorem vbk.setRow (h : vbk W b T l) (l' : List Value) : vbk (W.setRow b (celV l')) b T l' := setRow_heap W b _ _ T (0, 0) h
theorem vbk.set (h : vbk W b T l) (k : Nat) (v : Value) : vbk (W.setCell ⟨b, k, none⟩ v) b T (l.set k v) := by
  rw [setCell_eq_setRow W b k _ T (0, 0) _ h, celV_set]
  exact h.setRow _
theorem vbk.otherRow (h : vbk W b T l) {g : Nat} (hne : b ≠ g) (cs : Array Value) : vbk (W.setRow g cs) b T l := (setRow_other W g b cs hne).trans h
theorem vbk.other (h : vbk W b T l) {a : Addr} (hne : b ≠ a.block) (v : Value) : vbk (W.setCell a v) b T l := by
  unfold vbk
  rw [Below.heap_setCell W a v b hne]
  exact h
theorem vbk.range (h : vbk W b T l) : W.rangeAt b 0 (celV l).toList := fun j v hv => by
  rw [Nat.zero_add, cell_of_row W b j _ T (0, 0) h, ← hv]
  simp
end
section
variable {P : Program}
/-- The whole block is loaded. -/
theorem wpList_load_vbk {ops : Array Oper} {rest : List Oper} {op : Oper} {a : Act} {w : World} {Q : Exit → Act → World → Prop} (hgd : op.guard = none) (ty : TypeId) (x : Operand) (ho : op.op = .load ty x)
    (b : Nat) (T : TypeId) (l : List Value) (hx : a.eval x = .pointer (some ⟨b, 0, none⟩)) (hc : vbk w b T l) (d : TypeDesc)
    (hu : P.underlying ty = some d) (hd : d.isRow = true) (hi : (P.info? ty).map (·.size) = some l.length)
    (h : wpList P ops Q rest (a.put op.dst (.agg (celV l))) w) : wpList P ops Q (op :: rest) a w := by
  refine wpList_load_mid hgd ty x ho b 0 hx (celV l).toList d hc.range hu hd (by rw [hi]; simp [celV_size]) ?_
  simpa using h
/-- The whole block is stored. -/
theorem wpList_store_vbk {ops : Array Oper} {rest : List Oper} {op : Oper} {a : Act} {w : World} {Q : Exit → Act → World → Prop} (hgd : op.guard = none) (ty : TypeId) (x y : Operand) (ho : op.op = .store ty x y)
    (b : Nat) (T : TypeId) (l l' : List Value) (hx : a.eval x = .pointer (some ⟨b, 0, none⟩)) (hy : a.eval y = .agg (celV l')) (hc : vbk w b T l) (hl : l.length = l'.length) (h1 : ∀ v ∈ l', v.oneCell' = true)
    (hi : (P.info? ty).map (·.size) = some l'.length)
    (h : wpList P ops Q rest (a.put op.dst undef) (w.setRow b (celV l'))) : wpList P ops Q (op :: rest) a w :=
  wpList_store_row hgd ty x y ho b (celV l') hx hy T (celV l) hc (by rw [hi, celV_size]) (by rw [celV_size, celV_size, hl]) (celV_one h1) h
/-- At the return of what lies in a block. -/
theorem run_loadVar_vbk (w : World) (b : Nat) (ty T : TypeId) (l : List Value) (d : TypeDesc) (hc : vbk w b T l)
    (hu : P.underlying ty = some d) (hd : d.isRow = true) (hi : (P.info? ty).map (·.size) = some l.length) : (loadVar ty ⟨b, 0, none⟩).run P w = .ok (.agg (celV l)) w := by
  have := run_loadVar_mid (P := P) w b 0 ty (celV l).toList d hc.range hu hd (by rw [hi]; simp [celV_size])
  simpa using this
theorem run_loadAt_vbk (w : World) (b : Nat) (ty T : TypeId) (l : List Value) (d : TypeDesc) (hc : vbk w b T l)
    (hu : P.underlying ty = some d) (hd : d.isRow = true) (hi : (P.info? ty).map (·.size) = some l.length) : (Instr.loadAt ty (.pointer (some ⟨b, 0, none⟩))).run P w = .ok (.agg (celV l)) w := by
  have := run_loadAt_mid (P := P) w b 0 ty (celV l).toList d hc.range hu hd (by rw [hi]; simp [celV_size])
  simpa using this
/-- A function whose one result lies in a block. -/
theorem results_vbk {fn : Func} {tmps : Array Value} {a : Tmp} {ty : TypeId} (hr : fn.results = #[.cell a ty]) {b : Nat} (ht : tmps.getD a undef = .pointer (some ⟨b, 0, none⟩)) {w : World} {T : TypeId} {l : List Value} {d : TypeDesc} (hc : vbk w b T l)
    (hu : P.underlying ty = some d) (hd : d.isRow = true) (hi : (P.info? ty).map (·.size) = some l.length) : (results fn tmps).run P w = .ok (.agg (celV l)) w := by
  have h := run_loadVar_vbk (P := P) w b ty T l d hc hu hd hi
  unfold results
  rw [hr]
  have ht' : tmps[a]?.getD undef = .pointer (some ⟨b, 0, none⟩) := by rw [← ht]; simp
  simp [ht', asAddr, h]
end
end Go.Proofs.Try
