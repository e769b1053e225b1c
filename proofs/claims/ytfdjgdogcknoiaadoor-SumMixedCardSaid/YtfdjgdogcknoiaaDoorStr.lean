/- Strings as lists of bytes; lists of strings (for seats without package pack). -/
import Derived.Test.YtfdjgdogcknoiaaDoorBytes
import Derived.Lib.IndexBytes
import Derived.Deep.LoopGhost
namespace Go.Proofs.Tryd
open Go.ChangeShapes Go.WideShapes Go.ChangeAt Go.RowKit Go.Joins Go.Deep
set_option linter.unusedVariables false
theorem str_info : (Tryd.prog.info? 9).map (fun i => (i.zero, i.size, i.bytes)) = some (some (.string ⟨#[]⟩), 1, 16) := by kernel_rfl
/-- A text, as a cell. -/
def sv (l : List UInt8) : Value := .string (S l)
theorem map_sv (ss : List ByteArray) : ss.map Value.string = (ss.map fun s => s.data.toList).map sv := by
  rw [List.map_map]
  refine List.map_congr_left fun s _ => ?_
  show Value.string s = Value.string (S s.data.toList)
  rw [S_of]
theorem Sees.sv {w : World} {n : Nat} {xs : List (List UInt8)} {b off : Nat} (h : Sees w 1 (some ⟨b, off, none⟩) n (xs.map sv)) {j : Nat} (hj : j < n) : w.cell? ⟨b, off + j, none⟩ = some (.string (S (xs.getD j []))) := by
  obtain ⟨u, hu, hc⟩ := h.cell (j := j) (by omega)
  rw [List.getElem?_map] at hu
  rw [hc, List.getD_eq_getElem?_getD]
  cases hx : xs[j]? with
  | none => rw [hx] at hu; cases hu
  | some x => rw [hx] at hu; simp [Go.Proofs.Tryd.sv] at hu; simp [hu]
theorem take_more {α : Type} (ss : List α) (k : Nat) (d : α) (h : k < ss.length) : ss.take (k + 1) = ss.take k ++ [ss.getD k d] := by
  rw [List.take_add_one, List.getElem?_eq_getElem h, List.getD_eq_getElem?_getD, List.getElem?_eq_getElem h]; rfl
theorem getD_mem {α : Type} (ss : List α) (k : Nat) (d : α) (h : k < ss.length) : ss.getD k d ∈ ss := by
  rw [List.getD_eq_getElem?_getD, List.getElem?_eq_getElem h]; exact List.getElem_mem _

theorem add_S (a b : List UInt8) (h : a.length + b.length ≤ maxLen) (W : World) : (Op.stringOp .add (S a) (S b)).run Tryd.prog W = .ok (.string (S (a ++ b))) W := by
  rw [← S_app]
  exact run_string_add_sum _ _ _ (by rw [S_size, S_size]; exact h)
theorem S_drop (bs : List UInt8) (k : Nat) : (S bs).extract k (S bs).size = S (bs.drop k) :=
  S_ext _ _ (by rw [Lib.extract_to_end, S_list, S_list])
theorem S_drop' (bs : List UInt8) (k n : Nat) (h : bs.length = n) : (S bs).extract k n = S (bs.drop k) := by
  rw [← S_drop, S_size, h]
theorem S_take (bs : List UInt8) (k : Nat) : (S bs).extract 0 k = S (bs.take k) :=
  S_ext _ _ (by rw [Lib.extract_data, S_list, S_list, List.drop_zero, Nat.sub_zero])
theorem index_s (bs : List UInt8) (i : Nat) (h : i < bs.length) (K : IntKind) (W : World) : (Instr.index 9 (.string (S bs)) (.int K (i : Int))).run Tryd.prog W = .ok (.int .u8 ((bs.getD i 0).toNat : Int)) W := by
  have hz := S_size bs
  rw [run_index_string (h := Tryd.underlying9), dif_pos ⟨by omega, by omega⟩]
  have e : ((i : Int)).toNat = i := by omega
  have e2 : (S bs)[i]'(by omega) = bs.getD i 0 := by
    rw [List.getD_eq_getElem?_getD, List.getElem?_eq_getElem h]
    rfl
  simp only [e, e2]
theorem S_same (a b : List UInt8) : ((S a).toList == (S b).toList) = decide (a = b) := by
  rw [ByteArray.toList_eq, ByteArray.toList_eq, S_list, S_list]
  rw [Bool.eq_iff_iff, beq_iff_eq, decide_eq_true_iff]
theorem S_ne (l : List UInt8) (h : 0 < l.length) : (¬ (S l).toList = []) ∧ (S l).toList.isEmpty = false := by
  rw [ByteArray.toList_eq, S_list]
  cases l with
  | nil => simp at h
  | cons => simp
end Go.Proofs.Tryd
