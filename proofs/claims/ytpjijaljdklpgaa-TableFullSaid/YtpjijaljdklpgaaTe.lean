/- table.New (stage 13). -/
import Derived.Test.YtpjijaljdklpgaaTd
import Derived.Laws.MakeOwn
namespace Go.Proofs.Try
open Go.RowKit
set_option linter.unusedVariables false
set_option linter.unusedSimpArgs false
theorem place_info : (Try.prog.info? 47).map (fun i => (i.zero, i.size, i.bytes)) = some (some (.agg #[.string ⟨#[]⟩, .int .i64 0]), 2, 24) := by kernel_rfl
theorem infoT_parts {T : TypeId} {z : Value} {n m : Nat} (h : (Try.prog.info? T).map (fun i => (i.zero, i.size, i.bytes)) = some (some z, n, m)) : ∃ i, Try.prog.info? T = some i ∧ i.zero = some z ∧ i.size = n ∧ i.bytes = m := by
  cases hi : Try.prog.info? T with
  | none => rw [hi] at h; cases h
  | some i =>
    rw [hi] at h
    simp only [Option.map_some, Option.some.injEq, Prod.mk.injEq] at h
    exact ⟨i, rfl, h.1, h.2.1, h.2.2⟩
def noPl (n : Nat) : List Pl := List.replicate n (⟨#[]⟩, 0)
theorem made_pl (n : Nat) : (madeCells #[Value.string ⟨#[]⟩, Value.int .i64 0] (n * 2)).toList = flat encP (noPl n) := by
  apply List.ext_getElem?
  intro i
  unfold madeCells
  by_cases hi : i < n * 2
  · have hx : (noPl n)[i / 2]? = some (⟨#[]⟩, 0) := by unfold noPl; rw [List.getElem?_replicate, if_pos (by omega)]
    have hf := flat_get encP_len hx (i := i % 2) (by omega)
    rw [show i / 2 * 2 + i % 2 = i by omega] at hf
    rw [hf]
    have : i % 2 = 0 ∨ i % 2 = 1 := by omega
    rcases this with h | h <;> simp [h, hi, encP]
  · rw [List.getElem?_eq_none (by simp; omega), List.getElem?_eq_none (by rw [flat_len encP_len]; unfold noPl; simp; omega)]
theorem make_pl (n : Nat) (h : n ≤ 1000000) (W : World) : (Instr.makeSlice 25 (.int .i64 (n : Int)) (.int .i64 (n : Int))).run Try.prog W = .ok (.slice (some ⟨W.heap.size, 0, none⟩) n n) (W.alloc (.cells (flat encP (noPl n)).toArray 47)) := by
  obtain ⟨i0, hi, hz0, hz1, hz2⟩ := infoT_parts place_info
  have hmk := run_make (P := Try.prog) W 25 47 i0 _ Try.underlying25 hi hz0 .i64 .i64 n n (by omega) (by omega) (by rw [hz2]; omega) (by omega)
  rw [← made_pl]
  rw [hz1] at hmk
  simpa [Value.cells] using hmk
theorem own_made {base n : Nat} (hb : base ≤ n) (w : World) (hw : base ≤ w.heap.size) (m : Nat) (hm : m ≤ 100000) : (w.alloc (.cells (flat encP (noPl m)).toArray 47)).ownsRow base 47 2 (.slice (some ⟨w.heap.size, 0, none⟩) m m) m (flat encP (noPl m)) :=
  ⟨by rw [flat_len encP_len]; simp [noPl], .inr ⟨w.heap.size, m, _, rfl, hw, heap_alloc_new w _, Nat.le_refl _, by unfold maxLen; omega, by rw [List.size_toArray, flat_len encP_len]; simp [noPl], by
    rw [List.take_of_length_le (by simp [flat_len encP_len, noPl])]⟩⟩
set_option maxRecDepth 100000 in
set_option maxHeartbeats 4000000 in
theorem tnew_c (w : World) : Calls Try.prog 10 #[] w fun e w' => e = .returned (.slice (some ⟨w.heap.size, 0, none⟩) 128 128) ∧ w'.ownsRow w.heap.size 47 2 (.slice (some ⟨w.heap.size, 0, none⟩) 128 128) 128 (flat encP (noPl 128)) ∧ Below w.heap.size w w' := by
  have hm : (Instr.makeSlice 25 (.int .i64 128) (.int .i64 128)).run Try.prog w = .ok (.slice (some ⟨w.heap.size, 0, none⟩) 128 128) (w.alloc (.cells (flat encP (noPl 128)).toArray 47)) := make_pl 128 (by omega) w
  have HO := Lib.hid (own_made (Nat.le_refl w.heap.size) w (Nat.le_refl _) 128 (by omega))
  have HB := Lib.hid ((Below.refl w.heap.size w).alloc (Nat.le_refl _) (.cells (flat encP (noPl 128)).toArray 47))
  go_enter Try.func10, Try.ntmps10
  go_wp2_with fail
  go_ret
  exact ⟨rfl, HO.out, HB.out⟩
end Go.Proofs.Try
