/- lhd: two ranks, compared; Fade. -/
import Derived.Test.YtjkjnpcikddoaaaLhd
namespace Go.Proofs.Try
open Go.RowKit
set_option linter.unusedVariables false
set_option linter.unusedSimpArgs false
theorem forIn_all (f g : Nat → Nat) (W : World) (body : Nat → Option Bool × Unit → Sem (ForInStep (Option Bool × Unit))) : ∀ (js : List Nat), (∀ j ∈ js, (body j (none, ())).run Try.prog W = .ok (if f j = g j then .yield (none, ()) else .done (some false, ())) W) →
    (forIn js (none, ()) body).run Try.prog W = .ok (if (∀ j, j ∈ js → f j = g j) then (none, ()) else (some false, ())) W
  | [], _ => by simp [Sem.run_pure]
  | j :: js, h => by
    have h0 := h j (by simp)
    have ih := forIn_all f g W body js (fun k hk => h k (by simp [hk]))
    rw [List.forIn_cons, Sem.run_bind, h0, Result.andThen_ok]
    by_cases e : f j = g j
    · rw [if_pos e]
      simp only [ih]
      simp [e]
    · rw [if_neg e, if_neg (fun h => e (h j (by simp)))]
      rfl
theorem eq_getD (n : Nat) (a b : List Nat) (ha : a.length = n) (hb : b.length = n) : (∀ j, j ∈ List.range' 0 n 1 → a.getD j 0 = b.getD j 0) ↔ a = b := by
  constructor
  · intro h
    apply List.ext_getElem (by omega)
    intro i h1 h2
    have := h i (by rw [List.mem_range']; exact ⟨i, by omega, by omega⟩)
    rwa [List.getD_eq_getElem?_getD, List.getD_eq_getElem?_getD, List.getElem?_eq_getElem h1, List.getElem?_eq_getElem h2] at this
  · rintro rfl _ _; rfl
theorem part64 (W : World) (l : List Nat) (j : Nat) (hj : j < l.length) : (part 23 (u64V l) j).run Try.prog W = .ok (.int .u64 ((l.getD j 0 : Nat) : Int)) W := by
  have ha : ∀ W, (isAgg 23).run Try.prog W = .ok false W := fun W => by kernel_rfl
  unfold part
  rw [Sem.run_bind, ha, Result.andThen_ok]
  simp [u64V_at l j hj]
theorem eqA8 (d : Nat) (a b : List Nat) (ha : a.length = 8) (hb : b.length = 8) (W : World) : (Op.equalIn (d + 1 + 1) 47 (.agg (u64V a)) (.agg (u64V b))).run Try.prog W = .ok (decide (a = b)) W := by
  have hu := Try.underlying47
  have h5 := Try.underlying23
  have hs : ∀ w, (Go.sizeOf 23).run Try.prog w = .ok 1 w := fun w => by kernel_rfl
  have he : ∀ (x y : Int) (w : World), (Op.equalIn (d + 1) 23 (.int .u64 x) (.int .u64 y)).run Try.prog w = .ok (x == y) w := fun x y w => by
    simp [Op.equalIn, run_underlying h5]
  rw [Op.equalIn]
  simp only [Sem.run_bind, run_underlying hu, Result.andThen_ok, hs]
  rw [Std.Legacy.Range.forIn_eq_forIn_range', show List.range' ([:8] : Std.Legacy.Range).start ([:8] : Std.Legacy.Range).size ([:8] : Std.Legacy.Range).step = List.range' 0 8 1 from rfl]
  rw [forIn_all (fun j => a.getD j 0) (fun j => b.getD j 0) W _ _ ?_, Result.andThen_ok]
  · by_cases h : a = b
    · rw [if_pos ((eq_getD 8 a b ha hb).2 h), decide_eq_true h]; rfl
    · rw [if_neg (fun g => h ((eq_getD 8 a b ha hb).1 g)), decide_eq_false h]; rfl
  · intro j hj
    have hj8 : j < 8 := by rw [List.mem_range'] at hj; omega
    simp only [Nat.mul_one, Sem.run_bind, part64 _ a j (by omega), part64 _ b j (by omega), Result.andThen_ok, he]
    by_cases e : a.getD j 0 = b.getD j 0
    · rw [if_pos e, e]; simp
    · have e2 : (((a.getD j 0 : Nat) : Int) == ((b.getD j 0 : Nat) : Int)) = false := by rw [beq_eq_false_iff_ne]; omega
      rw [if_neg e, e2]; simp
theorem extr (l : List Nat) (o n : Nat) : (u64V l).extract o (o + n) = u64V ((l.drop o).take n) := by
  unfold u64V
  apply Array.ext'
  simp [List.map_drop, List.map_take, List.take_drop]
theorem partA (W : World) (l : List Nat) (o : Nat) : (part 47 (u64V l) o).run Try.prog W = .ok (.agg (u64V ((l.drop o).take 8))) W := by
  have ha : ∀ W, (isAgg 47).run Try.prog W = .ok true W := fun W => by kernel_rfl
  have hs : ∀ w, (Go.sizeOf 47).run Try.prog w = .ok 8 w := fun w => by kernel_rfl
  unfold part
  rw [Sem.run_bind, ha, Result.andThen_ok]
  simp [hs, extr]
theorem eq16 (a b : List Nat) (ha : a.length = 16) (hb : b.length = 16) : ((a.drop 0).take 8 = (b.drop 0).take 8 ∧ (a.drop 8).take 8 = (b.drop 8).take 8) ↔ a = b := by
  constructor
  · rintro ⟨h1, h2⟩
    rw [List.drop_zero, List.drop_zero] at h1
    rw [List.take_of_length_le (by simp; omega), List.take_of_length_le (by simp; omega)] at h2
    rw [← List.take_append_drop 8 a, ← List.take_append_drop 8 b, h1, h2]
  · rintro rfl; exact ⟨rfl, rfl⟩
theorem eqR (a b : List Nat) (ha : a.length = 16) (hb : b.length = 16) (W : World) : (binOp .eql 49 (.agg (u64V a)) (.agg (u64V b))).run Try.prog W = .ok (.bool (decide (a = b))) W := by
  rw [run_eql_struct]
  have hst : Try.prog.underlying 49 = some (.struct (Try.prog.fieldsOf 49)) := by kernel_rfl
  rw [show (10000 : Nat) = 9999 + 1 from rfl, run_equalIn_struct W 9999 49 _ _ hst (by kernel_rfl)]
  have hf : (Try.prog.fieldsOf 49).toList.map (fun f => (f.type, f.offset, f.name == "_")) = [(47, 0, false), (47, 8, false)] := by kernel_rfl
  generalize (Try.prog.fieldsOf 49).toList = fs at hf
  obtain ⟨f0, f1, rfl, ⟨t0, o0, n0⟩, t1, o1, n1⟩ : ∃ f0 f1, fs = [f0, f1] ∧ (f0.type = 47 ∧ f0.offset = 0 ∧ (f0.name == "_") = false) ∧ f1.type = 47 ∧ f1.offset = 8 ∧ (f1.name == "_") = false := by
    rcases fs with _ | ⟨f0, _ | ⟨f1, _ | ⟨f2, r⟩⟩⟩ <;> simp at hf
    exact ⟨f0, f1, rfl, by simp [hf], by simp [hf]⟩
  have m0 : f0.name ≠ "_" := by simpa using n0
  have m1 : f1.name ≠ "_" := by simpa using n1
  have l1 : ((a.drop 0).take 8).length = 8 := by simp; omega
  have l2 : ((b.drop 0).take 8).length = 8 := by simp; omega
  have l3 : ((a.drop 8).take 8).length = 8 := by simp; omega
  have l4 : ((b.drop 8).take 8).length = 8 := by simp; omega
  have e := eq16 a b ha hb
  have q1 := fun W => eqA8 9997 _ _ l1 l2 W
  have q2 := fun W => eqA8 9997 _ _ l3 l4 W
  unfold Op.eqFields Op.eqFields Op.eqFields
  rw [if_pos m0, if_pos m1]
  simp only [t0, o0, t1, o1, Sem.run_bind, partA, Result.andThen_ok]
  rw [q1, Result.andThen_ok]
  by_cases h1 : (a.drop 0).take 8 = (b.drop 0).take 8
  · rw [decide_eq_true h1]
    simp only [Bool.not_true, Bool.false_eq_true, if_false, Sem.run_bind, partA, Result.andThen_ok]
    rw [q2, Result.andThen_ok]
    by_cases h2 : (a.drop 8).take 8 = (b.drop 8).take 8
    · rw [decide_eq_true h2, decide_eq_true (e.1 ⟨h1, h2⟩)]; rfl
    · rw [decide_eq_false h2, decide_eq_false (fun h => h2 (e.2 h).2)]; rfl
  · rw [decide_eq_false h1, decide_eq_false (fun h => h1 (e.2 h).1)]; rfl
end Go.Proofs.Try
