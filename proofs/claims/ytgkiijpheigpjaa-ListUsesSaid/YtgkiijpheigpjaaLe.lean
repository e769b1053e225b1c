/- Arrays of one-cell elements, and lists' cells, compared (stage 15). -/
import Derived.Test.YtgkiijpheigpjaaLq
namespace Go.Proofs.Try
open Go.RowKit
set_option linter.unusedVariables false
set_option linter.unusedSimpArgs false
section
variable {P : Program}
theorem forIn_allB (q : Nat → Bool) (W : World) (body : Nat → Option Bool × Unit → Sem (ForInStep (Option Bool × Unit))) : ∀ (js : List Nat), (∀ j ∈ js, (body j (none, ())).run P W = .ok (if q j = true then .yield (none, ()) else .done (some false, ())) W) →
    (forIn js (none, ()) body).run P W = .ok (if js.all q = true then (none, ()) else (some false, ())) W
  | [], _ => by simp [Sem.run_pure]
  | j :: js, h => by
    have h0 := h j (by simp)
    have ih := forIn_allB q W body js (fun k hk => h k (by simp [hk]))
    rw [List.forIn_cons, Sem.run_bind, h0, Result.andThen_ok]
    cases e : q j
    · simp [e]
    · simp only [if_true, ih, List.all_cons, e, Bool.true_and]
theorem part_one (W : World) (e : TypeId) (l : List Value) (j : Nat) (hag : ∀ W, (isAgg e).run P W = .ok false W) (hj : j < l.length) : (part e (celV l) j).run P W = .ok (l.getD j undef) W := by
  unfold part
  rw [Sem.run_bind, hag, Result.andThen_ok]
  simp [celV_at l j hj]
theorem part_arr (W : World) (t : TypeId) (l : List Value) (o n : Nat) (hag : ∀ W, (isAgg t).run P W = .ok true W) (hs : ∀ w, (Go.sizeOf t).run P w = .ok n w) : (part t (celV l) o).run P W = .ok (.agg (celV ((l.drop o).take n))) W := by
  have hx : (celV l).extract o (o + n) = celV ((l.drop o).take n) := by
    unfold celV
    apply Array.ext'
    simp [List.take_drop]
  unfold part
  rw [Sem.run_bind, hag, Result.andThen_ok]
  simp [hs, hx]
/-- Two arrays of elements of one cell each. -/
theorem eq_arr (d : Nat) (t e : TypeId) (n : Nat) (ht : P.underlying t = some (.array n e)) (hs : ∀ w, (Go.sizeOf e).run P w = .ok 1 w) (hag : ∀ W, (isAgg e).run P W = .ok false W) (a b : List Value) (ha : a.length = n) (hb : b.length = n) (q : Nat → Bool)
    (he : ∀ j, j < n → ∀ w, (Op.equalIn d e (a.getD j undef) (b.getD j undef)).run P w = .ok (q j) w) (W : World) : (Op.equalIn (d + 1) t (.agg (celV a)) (.agg (celV b))).run P W = .ok ((List.range n).all q) W := by
  rw [Op.equalIn]
  simp only [Sem.run_bind, run_underlying ht, Result.andThen_ok, hs]
  rw [Std.Legacy.Range.forIn_eq_forIn_range', show List.range' ([:n] : Std.Legacy.Range).start ([:n] : Std.Legacy.Range).size ([:n] : Std.Legacy.Range).step = List.range n from by simp [Std.Legacy.Range.size, List.range_eq_range']]
  rw [forIn_allB q W _ _ ?_, Result.andThen_ok]
  · cases (List.range n).all q <;> rfl
  · intro j hj
    have hjn : j < n := List.mem_range.1 hj
    simp only [Nat.mul_one, Sem.run_bind, part_one _ e a j hag (by omega), part_one _ e b j hag (by omega), Result.andThen_ok, he j hjn]
    cases q j <;> simp
end
/-- 64 bools. -/
def mkC (S : Nat → Bool) : List Value := (List.range 64).map fun j => .bool (S j)
theorem mkC_len (S : Nat → Bool) : (mkC S).length = 64 := by simp [mkC]
theorem mkC_at (S : Nat → Bool) {j : Nat} (hj : j < 64) : (mkC S).getD j undef = .bool (S j) := by
  rw [List.getD_eq_getElem?_getD, mkC, List.getElem?_map, List.getElem?_range hj]; rfl
theorem mkC_one (S : Nat → Bool) : ∀ v ∈ mkC S, v.oneCell' = true := by
  intro v hv
  simp only [mkC, List.mem_map] at hv
  obtain ⟨j, _, rfl⟩ := hv
  rfl
theorem mkC_set (S : Nat → Bool) (k : Nat) (v : Bool) : (mkC S).set k (.bool v) = mkC (fun j => if j = k then v else S j) := by
  unfold mkC
  rw [set_map_range]
  refine List.map_congr_left (fun j _ => ?_)
  by_cases h : j = k <;> simp [h]
theorem mkC_none : (celV (mkC (fun _ => false))) = Array.replicate 64 (.bool false) := by
  unfold celV mkC
  apply Array.ext'
  rfl
theorem mkC_congr {S T : Nat → Bool} (h : ∀ j, j < 64 → S j = T j) : mkC S = mkC T := List.map_congr_left (fun j hj => by rw [h j (List.mem_range.1 hj)])
/-- The same marks. -/
def sameM (S T : Nat → Bool) : Bool := (List.range 64).all fun j => S j == T j
theorem sameM_iff {S T : Nat → Bool} : sameM S T = true ↔ ∀ j, j < 64 → S j = T j := by
  unfold sameM
  rw [List.all_eq_true]
  exact ⟨fun h j hj => by simpa using h j (List.mem_range.2 hj), fun h j hj => by simpa using h j (List.mem_range.1 hj)⟩
theorem eqM (d : Nat) (S T : Nat → Bool) (W : World) : (Op.equalIn (d + 1 + 1) 53 (.agg (celV (mkC S))) (.agg (celV (mkC T)))).run Try.prog W = .ok (sameM S T) W :=
  eq_arr (d + 1) _ 4 64 Try.underlying53 (fun w => by kernel_rfl) (fun w => by kernel_rfl) _ _ (mkC_len S) (mkC_len T) _ (fun j hj w => by
    rw [mkC_at S hj, mkC_at T hj, run_equalIn_bool' w d _ _ _ Try.underlying4]) W
/-- 64 numbers. -/
def nuC (f : Nat → Int) : List Value := (List.range 64).map fun j => .int .i64 (f j)
theorem nuC_len (f : Nat → Int) : (nuC f).length = 64 := by simp [nuC]
theorem nuC_at (f : Nat → Int) {j : Nat} (hj : j < 64) : (nuC f).getD j undef = .int .i64 (f j) := by
  rw [List.getD_eq_getElem?_getD, nuC, List.getElem?_map, List.getElem?_range hj]; rfl
def sameN (f g : Nat → Int) : Bool := (List.range 64).all fun j => f j == g j
theorem sameN_iff {S T : Nat → Int} : sameN S T = true ↔ ∀ j, j < 64 → S j = T j := by
  unfold sameN
  rw [List.all_eq_true]
  exact ⟨fun h j hj => by simpa using h j (List.mem_range.2 hj), fun h j hj => by simpa using h j (List.mem_range.1 hj)⟩
theorem eqN (d : Nat) (S T : Nat → Int) (W : World) : (Op.equalIn (d + 1 + 1) 52 (.agg (celV (nuC S))) (.agg (celV (nuC T)))).run Try.prog W = .ok (sameN S T) W :=
  eq_arr (d + 1) _ 3 64 Try.underlying52 (fun w => by kernel_rfl) (fun w => by kernel_rfl) _ _ (nuC_len S) (nuC_len T) _ (fun j hj w => by
    rw [nuC_at S hj, nuC_at T hj, run_equalIn_int w d _ _ _ _ _ Try.underlying3]) W
theorem ext_at {a b : List Value} (n : Nat) (ha : a.length = n) (hb : b.length = n) (h : ∀ j, j < n → a.getD j undef = b.getD j undef) : a = b := by
  apply List.ext_getElem (by omega)
  intro i h1 h2
  have := h i (by omega)
  rwa [List.getD_eq_getElem?_getD, List.getD_eq_getElem?_getD, List.getElem?_eq_getElem h1, List.getElem?_eq_getElem h2] at this
theorem getD_part (l : List Value) (o n j : Nat) (hj : j < n) : ((l.drop o).take n).getD j undef = l.getD (o + j) undef := by
  rw [List.getD_eq_getElem?_getD, List.getElem?_take_of_lt hj, List.getElem?_drop, ← List.getD_eq_getElem?_getD]
theorem lsC_p0 (x : Ls) : ((lsC x).drop 0).take 64 = nuC x.nx := ext_at 64 (by rw [List.length_take, List.length_drop, lsC_len]; rfl) (nuC_len _) (fun j hj => by rw [getD_part _ _ _ _ hj, Nat.zero_add, lsC_nx x hj, nuC_at _ hj])
theorem lsC_p1 (x : Ls) : ((lsC x).drop 64).take 64 = nuC x.pv := ext_at 64 (by rw [List.length_take, List.length_drop, lsC_len]; rfl) (nuC_len _) (fun j hj => by rw [getD_part _ _ _ _ hj, lsC_pv x hj, nuC_at _ hj])
theorem lsC_p2 (x : Ls) : ((lsC x).drop 128).take 64 = mkC x.inn := ext_at 64 (by rw [List.length_take, List.length_drop, lsC_len]; rfl) (mkC_len _) (fun j hj => by rw [getD_part _ _ _ _ hj, lsC_in x hj, mkC_at _ hj])
/-- The same cells, told by a test. -/
def sameB (x y : Ls) : Bool := sameN x.nx y.nx && (sameN x.pv y.pv && (sameM x.inn y.inn && (x.hd == y.hd && x.tl == y.tl)))
theorem sameB_iff {x y : Ls} : sameB x y = true ↔ x.same y := by
  unfold sameB Ls.same
  simp only [Bool.and_eq_true, sameN_iff, sameM_iff, beq_iff_eq]
  exact ⟨fun ⟨a, b, c, d, e⟩ => ⟨fun j hj => ⟨a j hj, b j hj, c j hj⟩, d, e⟩, fun ⟨a, d, e⟩ => ⟨fun j hj => (a j hj).1, fun j hj => (a j hj).2.1, fun j hj => (a j hj).2.2, d, e⟩⟩
theorem eqS (x y : Ls) (W : World) : (Op.equalIn 10000 55 (.agg (celV (lsC x))) (.agg (celV (lsC y)))).run Try.prog W = .ok (sameB x y) W := by
  have hst : Try.prog.underlying 55 = some (.struct (Try.prog.fieldsOf 55)) := by kernel_rfl
  rw [show (10000 : Nat) = 9999 + 1 from rfl, run_equalIn_struct W 9999 55 _ _ hst (by kernel_rfl)]
  have hf : (Try.prog.fieldsOf 55).toList.map (fun f => (f.type, f.offset, f.name == "_")) = [(52, 0, false), (52, 64, false), (53, 128, false), (3, 192, false), (3, 193, false)] := by kernel_rfl
  generalize (Try.prog.fieldsOf 55).toList = fs at hf
  obtain ⟨f0, f1, f2, f3, f4, rfl⟩ : ∃ f0 f1 f2 f3 f4, fs = [f0, f1, f2, f3, f4] := by
    rcases fs with _ | ⟨f0, _ | ⟨f1, _ | ⟨f2, _ | ⟨f3, _ | ⟨f4, _ | ⟨f5, r⟩⟩⟩⟩⟩⟩ <;> simp at hf
    exact ⟨f0, f1, f2, f3, f4, rfl⟩
  simp only [List.map_cons, List.map_nil, List.cons.injEq, Prod.mk.injEq, and_true, beq_eq_false_iff_ne] at hf
  obtain ⟨⟨t0, o0, n0⟩, ⟨t1, o1, n1⟩, ⟨t2, o2, n2⟩, ⟨t3, o3, n3⟩, t4, o4, n4⟩ := hf
  have pn := fun (W : World) (l : List Value) (o : Nat) => part_arr (P := Try.prog) W 52 l o 64 (fun W => by kernel_rfl) (fun W => by kernel_rfl)
  have pm := fun (W : World) (l : List Value) (o : Nat) => part_arr (P := Try.prog) W 53 l o 64 (fun W => by kernel_rfl) (fun W => by kernel_rfl)
  have pi := fun (W : World) (l : List Value) (o : Nat) (ho : o < l.length) => part_one (P := Try.prog) W 3 l o (fun W => by kernel_rfl) ho
  have ei := fun (W : World) (a b : Int) => run_equalIn_int (P := Try.prog) W 9998 3 .i64 .i64 a b Try.underlying3
  have p192 := fun (z : Ls) (W : World) => pi W (lsC z) 192 (by rw [lsC_len]; omega)
  have p193 := fun (z : Ls) (W : World) => pi W (lsC z) 193 (by rw [lsC_len]; omega)
  have en := fun (W : World) (S T : Nat → Int) => eqN 9997 S T W
  have em := fun (W : World) (S T : Nat → Bool) => eqM 9997 S T W
  unfold sameB Op.eqFields Op.eqFields Op.eqFields Op.eqFields Op.eqFields Op.eqFields
  rw [if_pos n0, if_pos n1, if_pos n2, if_pos n3, if_pos n4]
  simp only [t0, o0, t1, o1, t2, o2, t3, o3, t4, o4, Sem.run_bind, pn, lsC_p0, lsC_p1, Result.andThen_ok, en]
  cases sameN x.nx y.nx
  · rfl
  simp only [Bool.not_true, Bool.false_eq_true, if_false, Sem.run_bind, pn, lsC_p0, lsC_p1, Result.andThen_ok, en]
  cases sameN x.pv y.pv
  · rfl
  simp only [Bool.not_true, Bool.false_eq_true, if_false, Sem.run_bind, pm, lsC_p2, Result.andThen_ok, em]
  cases sameM x.inn y.inn
  · rfl
  simp only [Bool.not_true, Bool.false_eq_true, if_false, Sem.run_bind, p192, lsC_hd, Result.andThen_ok, ei]
  cases x.hd == y.hd
  · rfl
  simp only [Bool.not_true, Bool.false_eq_true, if_false, Sem.run_bind, p193, lsC_tl, Result.andThen_ok, ei]
  cases x.tl == y.tl <;> rfl
theorem eqS_eql (x y : Ls) (W : World) : (binOp .eql 55 (.agg (celV (lsC x))) (.agg (celV (lsC y)))).run Try.prog W = .ok (.bool (sameB x y)) W := by rw [run_eql_struct, eqS]; rfl
theorem eqS_neq (x y : Ls) (W : World) : (binOp .neq 55 (.agg (celV (lsC x))) (.agg (celV (lsC y)))).run Try.prog W = .ok (.bool (!sameB x y)) W := by rw [run_neq_struct, eqS]; rfl
theorem eqM_neq (S T : Nat → Bool) (W : World) : (binOp .neq 53 (.agg (celV (mkC S))) (.agg (celV (mkC T)))).run Try.prog W = .ok (.bool (!sameM S T)) W := by rw [run_neq_struct, eqM 9998 S T W]; rfl
end Go.Proofs.Try
