/- A block that is known whole: a row of numbers (an array, or a struct of arrays). -/
import Derived.Test.YtjkjnpcikddoaaaChain
import Derived.Test.YtjkjnpcikddoaaaOwn
import Derived.Deep.MidRow
import Derived.Laws.Tables
import Derived.Great.Walk
import Derived.Laws.CopyOwn
namespace Go.Proofs.Try
open Go.RowKit
set_option linter.unusedVariables false
set_option linter.unusedSimpArgs false
/-- The cells of these numbers. -/
@[irreducible] def u64V (l : List Nat) : Array Value := (l.map fun (n : Nat) => Value.int .u64 (n : Int)).toArray
theorem u64V_size (l : List Nat) : (u64V l).size = l.length := by unfold u64V; simp
theorem u64V_at (l : List Nat) (k : Nat) (h : k < l.length) : (u64V l)[k]? = some (.int .u64 ((l.getD k 0 : Nat) : Int)) := by
  unfold u64V
  rw [List.getElem?_toArray, List.getElem?_map, List.getD_eq_getElem?_getD, List.getElem?_eq_getElem h]
  rfl
theorem u64V_one (l : List Nat) : (u64V l).all (·.oneCell') = true := by
  unfold u64V
  rw [Array.all_eq_true_iff_forall_mem]
  intro v hv
  simp at hv
  obtain ⟨n, _, rfl⟩ := hv
  rfl
theorem u64V_set (l : List Nat) (k v : Nat) : (u64V l).setIfInBounds k (.int .u64 (v : Int)) = u64V (l.set k v) := by
  unfold u64V
  apply Array.ext'
  simp [List.map_set]
theorem u64V_inj {a b : List Nat} (h : u64V a = u64V b) : a = b := by
  unfold u64V at h
  have h1 := congrArg Array.toList h
  simp only [List.toList_toArray] at h1
  apply List.ext_getElem?
  intro i
  have h2 := congrArg (fun l => l[i]?) h1
  simp only [List.getElem?_map] at h2
  cases ha : a[i]? <;> cases hb : b[i]? <;> simp_all
  omega
/-- The block holds these numbers, and no more, and may be written. -/
def blk (W : World) (b : Nat) (T : TypeId) (l : List Nat) : Prop := W.heap[b]? = some (.cells (u64V l) T (0, 0))
section
variable {W W' : World} {b : Nat} {T : TypeId} {l : List Nat}
theorem blk.lt (h : blk W b T l) : b < W.heap.size := (Array.getElem?_eq_some_iff.1 h).1
theorem blk.below (h : blk W b T l) (hb : Below W.heap.size W W') : blk W' b T l := (hb.block b h.lt).trans h
theorem blk.new (w : World) (l : List Nat) (T : TypeId) : blk (w.alloc (.cells (u64V l) T)) w.heap.size T l := heap_alloc_new w _
theorem blk.new' (hb : b = W.heap.size) : blk (W.alloc (.cells (u64V l) T)) b T l := by subst hb; exact heap_alloc_new W _
theorem blk.alloc (h : blk W b T l) (o : Obj) : blk (W.alloc o) b T l := h.below ((Below.refl _ _).alloc (Nat.le_refl _) _)
theorem blk.cell (h : blk W b T l) {k : Nat} (hk : k < l.length) : W.cell? ⟨b, k, none⟩ = some (.int .u64 ((l.getD k 0 : Nat) : Int)) :=
  (cell_of_row W b k _ T (0, 0) h).trans (u64V_at l k hk)
theorem blk.frozen (h : blk W b T l) (k : Nat) : W.frozen? ⟨b, k, none⟩ = false := by
  unfold World.frozen?
  simp only
  rw [h]
  simp
theorem blk.setRow (h : blk W b T l) (l' : List Nat) : blk (W.setRow b (u64V l')) b T l' := setRow_heap W b _ _ T (0, 0) h
theorem blk.set (h : blk W b T l) (k v : Nat) : blk (W.setCell ⟨b, k, none⟩ (.int .u64 (v : Int))) b T (l.set k v) := by
  rw [setCell_eq_setRow W b k _ T (0, 0) _ h, u64V_set]
  exact h.setRow _
theorem blk.otherRow (h : blk W b T l) {g : Nat} (hne : b ≠ g) (cs : Array Value) : blk (W.setRow g cs) b T l := (setRow_other W g b cs hne).trans h
theorem blk.other (h : blk W b T l) {a : Addr} (hne : b ≠ a.block) (v : Value) : blk (W.setCell a v) b T l := by
  unfold blk
  rw [Below.heap_setCell W a v b hne]
  exact h
theorem blk.range (h : blk W b T l) : W.rangeAt b 0 (u64V l).toList := fun j v hv => by
  rw [Nat.zero_add, cell_of_row W b j _ T (0, 0) h, ← hv]
  simp
end
section
variable {P : Program}
/-- The whole block is loaded. -/
theorem wpList_load_blk {ops : Array Oper} {rest : List Oper} {op : Oper} {a : Act} {w : World} {Q : Exit → Act → World → Prop} (hgd : op.guard = none) (ty : TypeId) (x : Operand) (ho : op.op = .load ty x)
    (b : Nat) (T : TypeId) (l : List Nat) (hx : a.eval x = .pointer (some ⟨b, 0, none⟩)) (hc : blk w b T l) (d : TypeDesc)
    (hu : P.underlying ty = some d) (hd : d.isRow = true) (hi : (P.info? ty).map (·.size) = some l.length)
    (h : wpList P ops Q rest (a.put op.dst (.agg (u64V l))) w) : wpList P ops Q (op :: rest) a w := by
  refine wpList_load_mid hgd ty x ho b 0 hx (u64V l).toList d hc.range hu hd (by rw [hi]; simp [u64V_size]) ?_
  simpa using h
/-- The whole block is stored. -/
theorem wpList_store_blk {ops : Array Oper} {rest : List Oper} {op : Oper} {a : Act} {w : World} {Q : Exit → Act → World → Prop} (hgd : op.guard = none) (ty : TypeId) (x y : Operand) (ho : op.op = .store ty x y)
    (b : Nat) (T : TypeId) (l l' : List Nat) (hx : a.eval x = .pointer (some ⟨b, 0, none⟩)) (hy : a.eval y = .agg (u64V l')) (hc : blk w b T l) (hl : l.length = l'.length)
    (hi : (P.info? ty).map (·.size) = some l'.length)
    (h : wpList P ops Q rest (a.put op.dst undef) (w.setRow b (u64V l'))) : wpList P ops Q (op :: rest) a w :=
  wpList_store_row hgd ty x y ho b (u64V l') hx hy T (u64V l) hc (by rw [hi, u64V_size]) (by rw [u64V_size, u64V_size, hl]) (u64V_one l') h
/-- At the return of what lies in a block. -/
theorem run_loadVar_blk (w : World) (b : Nat) (ty T : TypeId) (l : List Nat) (d : TypeDesc) (hc : blk w b T l)
    (hu : P.underlying ty = some d) (hd : d.isRow = true) (hi : (P.info? ty).map (·.size) = some l.length) : (loadVar ty ⟨b, 0, none⟩).run P w = .ok (.agg (u64V l)) w := by
  have := run_loadVar_mid (P := P) w b 0 ty (u64V l).toList d hc.range hu hd (by rw [hi]; simp [u64V_size])
  simpa using this
theorem run_loadAt_blk (w : World) (b : Nat) (ty T : TypeId) (l : List Nat) (d : TypeDesc) (hc : blk w b T l)
    (hu : P.underlying ty = some d) (hd : d.isRow = true) (hi : (P.info? ty).map (·.size) = some l.length) : (Instr.loadAt ty (.pointer (some ⟨b, 0, none⟩))).run P w = .ok (.agg (u64V l)) w := by
  have := run_loadAt_mid (P := P) w b 0 ty (u64V l).toList d hc.range hu hd (by rw [hi]; simp [u64V_size])
  simpa using this
/-- A function whose one result lies in a block. -/
theorem results_blk {fn : Func} {tmps : Array Value} {a : Tmp} {ty : TypeId} (hr : fn.results = #[.cell a ty]) {b : Nat} (ht : tmps.getD a undef = .pointer (some ⟨b, 0, none⟩)) {w : World} {T : TypeId} {l : List Nat} {d : TypeDesc} (hc : blk w b T l)
    (hu : P.underlying ty = some d) (hd : d.isRow = true) (hi : (P.info? ty).map (·.size) = some l.length) : (results fn tmps).run P w = .ok (.agg (u64V l)) w := by
  have h := run_loadVar_blk (P := P) w b ty T l d hc hu hd hi
  unfold results
  rw [hr]
  have ht' : tmps[a]?.getD undef = .pointer (some ⟨b, 0, none⟩) := by rw [← ht]; simp
  simp [ht', asAddr, h]
end
end Go.Proofs.Try
