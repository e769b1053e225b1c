/- A part of a known block is loaded (an array that is a field of a struct). -/
import Derived.Test.YtjkjnpcikddoaaaBlk
import Derived.Test.YtjkjnpcikddoaaaLhd4
namespace Go.Proofs.Try
open Go.RowKit
set_option linter.unusedVariables false
theorem part_len (l : List Nat) (o n : Nat) (h : o + n ≤ l.length) : ((l.drop o).take n).length = n := by simp; omega
theorem part_at (l : List Nat) (o n j : Nat) (hj : j < n) : ((l.drop o).take n).getD j 0 = l.getD (o + j) 0 := by
  rw [List.getD_eq_getElem?_getD, List.getElem?_take_of_lt hj, List.getElem?_drop, List.getD_eq_getElem?_getD]
theorem blk.part {W : World} {b : Nat} {T : TypeId} {l : List Nat} (h : blk W b T l) (o n : Nat) (hn : o + n ≤ l.length) : W.rangeAt b o (u64V ((l.drop o).take n)).toList := fun j v hv => by
  rw [Array.getElem?_toList] at hv
  have hj : j < n := by
    have := (Array.getElem?_eq_some_iff.1 hv).1
    rw [u64V_size, part_len l o n hn] at this
    exact this
  rw [u64V_at _ j (by rw [part_len l o n hn]; exact hj), part_at l o n j hj] at hv
  rw [h.cell (by omega)]
  exact hv
theorem wpList_load_part {P : Program} {ops : Array Oper} {rest : List Oper} {op : Oper} {a : Act} {w : World} {Q : Exit → Act → World → Prop} (hgd : op.guard = none) (ty : TypeId) (x : Operand) (ho : op.op = .load ty x)
    (b o n : Nat) (T : TypeId) (l : List Nat) (hx : a.eval x = .pointer (some ⟨b, o, none⟩)) (hc : blk w b T l) (hn : o + n ≤ l.length) (d : TypeDesc)
    (hu : P.underlying ty = some d) (hd : d.isRow = true) (hi : (P.info? ty).map (·.size) = some n)
    (h : wpList P ops Q rest (a.put op.dst (.agg (u64V ((l.drop o).take n)))) w) : wpList P ops Q (op :: rest) a w := by
  refine wpList_load_mid hgd ty x ho b o hx (u64V ((l.drop o).take n)).toList d (hc.part o n hn) hu hd (by rw [hi]; simp [u64V_size]; omega) ?_
  simpa using h
theorem a8_info : (Try.prog.info? 47).map (·.size) = some 8 := by kernel_rfl
theorem foldset (o : Nat) : ∀ (cs : List Value) (i : Nat) (base : Array Value) (j : Nat), o + i + cs.length ≤ base.size →
    ((cs.zipIdx i).foldl (fun (a : Array Value) (x : Value × Nat) => a.setIfInBounds (o + x.snd) x.fst) base)[j]? = if o + i ≤ j ∧ j < o + i + cs.length then cs[j - (o + i)]? else base[j]?
  | [], i, base, j, _ => by rw [if_neg (by simp)]; rfl
  | c :: cs, i, base, j, h => by
    simp only [List.length_cons] at h ⊢
    rw [List.zipIdx_cons, List.foldl_cons, foldset o cs (i + 1) _ j (by simp; omega)]
    simp only [Array.getElem?_setIfInBounds]
    by_cases h1 : j = o + i
    · subst h1
      rw [if_neg (by omega), if_pos rfl, if_pos (by omega), if_pos (by omega), Nat.sub_self]
      rfl
    · by_cases h2 : o + (i + 1) ≤ j ∧ j < o + (i + 1) + cs.length
      · rw [if_pos h2, if_pos (by omega), show j - (o + i) = j - (o + (i + 1)) + 1 by omega]
        rfl
      · rw [if_neg h2, if_neg (by omega), if_neg (by omega)]
theorem build_part (o : Nat) (m base : List Nat) (s : Nat) (hs : s = m.length) (hb : o + m.length ≤ base.length) :
    Array.foldl (fun (cs : Array Value) (x : Value × Nat) => cs.setIfInBounds (o + x.snd) x.fst) (u64V base) (u64V m).zipIdx 0 s = u64V (splL base o m 0 m.length) := by
  have hz : s = (u64V m).zipIdx.size := by rw [Array.size_zipIdx, u64V_size]; exact hs
  rw [hz, ← Array.foldl_toList, Array.toList_zipIdx]
  apply Array.ext_getElem?
  intro j
  have e := foldset o (u64V m).toList 0 (u64V base) j (by rw [u64V_list]; simp [u64V_size]; omega)
  rw [u64V_list] at e ⊢
  rw [List.length_map] at e
  rw [e, Nat.add_zero]
  have hl : (splL base o m 0 m.length).length = base.length := by unfold splL; simp; omega
  have ht : ∀ (l : List Nat) (i : Nat), (u64V l)[i]? = (l[i]?).map (fun (n : Nat) => Value.int .u64 (n : Int)) := fun l i => by
    unfold u64V
    rw [List.getElem?_toArray, List.getElem?_map]
  rw [ht, ht, List.getElem?_map]
  by_cases h : o ≤ j ∧ j < o + m.length
  · rw [if_pos h]
    congr 1
    unfold splL
    rw [List.getElem?_append_left (by simp; omega), List.getElem?_append_right (by simp; omega), List.drop_zero, List.take_length, List.length_take, show j - min o base.length = j - o by omega]
  · rw [if_neg h]
    congr 1
    unfold splL
    by_cases h1 : j < o
    · rw [List.getElem?_append_left (by simp; omega), List.getElem?_append_left (by simp; omega), List.getElem?_take_of_lt h1]
    · rw [List.getElem?_append_right (by simp; omega), List.getElem?_drop]
      congr 1
      simp
      omega
theorem build_part0 (m base : List Nat) (s : Nat) (hs : s = m.length) (hb : m.length ≤ base.length) :
    Array.foldl (fun (cs : Array Value) (x : Value × Nat) => cs.setIfInBounds x.snd x.fst) (u64V base) (u64V m).zipIdx 0 s = u64V (splL base 0 m 0 m.length) := by
  have := build_part 0 m base s hs (by omega)
  simpa using this
end Go.Proofs.Try
