/- The walk of SumCuts. -/
import Derived.Test.YtfdjgdogcknoiaaDoorL6a
import Derived.Laws.MakeOwn
namespace Go.Proofs.Tryd
open Go.RowKit Go.Deep
set_option linter.unusedVariables false
set_option linter.unusedSimpArgs false

theorem u8_info6 : (Tryd.prog.info? 5).map (fun i => (i.zero, i.size, i.bytes)) = some (some (.int .u8 0), 1, 1) := by kernel_rfl
theorem make_u8 (n : Nat) (h : n ≤ 1000000) (W : World) : (Instr.makeSlice 34 (.int .i64 (n : Int)) (.int .i64 (n : Int))).run Tryd.prog W = .ok (.slice (some ⟨W.heap.size, 0, none⟩) n n) (W.alloc (.cells (madeCells #[.int .u8 0] n) 5)) := by
  obtain ⟨i0, hi, hz0, hz1, hz2⟩ := info_parts u8_info6
  have hmk := run_make (P := Tryd.prog) W 34 5 i0 _ Tryd.underlying34 hi hz0 .i64 .i64 n n (by omega) (by omega) (by rw [hz2]; omega) (by omega)
  rw [hz1] at hmk
  simpa [Value.cells] using hmk
theorem conv_made (n : Nat) (W : World) : (convert 34 9 (.slice (some ⟨W.heap.size, 0, none⟩) n n)).run Tryd.prog (W.alloc (.cells (madeCells #[.int .u8 0] n) 5)) = .ok (.string (S (List.replicate n 0))) (W.alloc (.cells (madeCells #[.int .u8 0] n) 5)) := by
  have := conv_str (S (List.replicate n 0)) W.heap.size n (W.alloc (.cells (madeCells #[.int .u8 0] n) 5)) (fun j hj => by
    rw [S_size, List.length_replicate] at hj
    rw [cell_of_row _ _ j _ _ (0, 0) (heap_alloc_new W _), madeCells]
    unfold byteAt
    rw [S_list, List.getD_eq_getElem?_getD, List.getElem?_replicate]
    simp [hj, Nat.mod_one])
  rw [S_size, List.length_replicate] at this
  exact this
set_option maxRecDepth 100000 in
set_option maxHeartbeats 3000000 in
theorem walk_SumCuts (a0 : ByteArray) (a1 a2 : Int) (w0 : a0.size ≤ maxLen) (w1 : (Lit.int .u16 a1).wf = true) (w2 : (Lit.int .u8 a2).wf = true) (w : World) (hT : Steps w) :
    Calls Tryd.prog 8 #[.string a0, .int .u16 a1, .int .u8 a2] w fun e w' => e = .returned (.bool true) ∧ Below w.heap.size w w' := by
  obtain ⟨s, rfl⟩ : ∃ s, a0 = S s := ⟨a0.data.toList, (S_of a0).symm⟩
  have hsz := S_size s
  rw [hsz] at w0
  have w0' : s.length ≤ 9223372036854775807 := by unfold maxLen at w0; omega
  obtain ⟨p0, p1⟩ := bounds_u16 w1
  obtain ⟨q0, q1⟩ := bounds_u8 w2
  obtain ⟨f, rfl⟩ := Int.eq_ofNat_of_zero_le p0
  obtain ⟨m, rfl⟩ := Int.eq_ofNat_of_zero_le q0
  clear w0 w1 w2
  have HT := Lib.hid hT
  clear hT
  by_cases c0 : s.length ≤ 1000
  · have d0 : decide (1000 < (s.length : Int)) = false := by simp; omega
    have S1 := seal_c s (by omega)
    have hsl := seal_len s
    have k3 := open_cut s (f % (sealL s).length) (by omega) (Nat.mod_lt _ (by omega))
    have k4 := S_take (sealL s) (f % (sealL s).length)
    have k5 := S_size (sealL s)
    obtain ⟨k6, k6b⟩ := S_ne (sealL s) (by omega)
    have k7 := open_c ((sealL s).take (f % (sealL s).length)) (by rw [List.length_take]; exact Nat.le_trans (Nat.min_le_right _ _) (by omega))
    have k9 : f % (sealL s).length < (sealL s).length := Nat.mod_lt _ (by omega)
    have k10 : (f : Int) % ((sealL s).length : Int) = ((f % (sealL s).length : Nat) : Int) := by simp
    have j1 := open_more s (List.replicate (m + 1) 0) (by omega) (by simp) (by simp; omega)
    have j2 := open_c (sealL s ++ List.replicate (m + 1) 0) (by simp only [List.length_append, List.length_replicate]; omega)
    have j3 := fun W => add_S (sealL s) (List.replicate (m + 1) 0) (by simp only [List.length_replicate]; unfold maxLen; omega) W
    have j4 := fun W => make_u8 (m + 1) (by omega) W
    have j5 := fun W => conv_made (m + 1) W
    have j6 : ((m + 1 : Nat) : Int) = 1 + (m : Int) := by omega
    rw [j6] at j4
    have j7 : IntKind.i64.wrap (1 + (m : Int)) = 1 + (m : Int) := by rw [IntKind.wrap_i64]; omega
    rw [k3] at k7
    rw [j1] at j2
    unfold opR at k7 j2
    simp only at k7 j2
    have LL := Lib.hid hsl
    clear k3 j1 j6 hsl
    have hL1 : 0 < (sealL s).length := by have := LL.out; omega
    have hL2 : (sealL s).length ≤ 1008 := by have := LL.out; omega
    clear LL
    generalize (sealL s).length = L1 at *
    generalize f % L1 = F1 at *
    generalize (sealL s).take F1 = X1 at *
    generalize sealL s ++ List.replicate (m + 1) 0 = X2 at *
    generalize List.replicate (m + 1) (0 : UInt8) = Z at *
    generalize sealL s = X at *
    go_enter Tryd.func8, Tryd.ntmps8
    go_wp2_with fail
    with_reducible refine (awake6 _ HT.out).mono ?_
    rintro e w1 ⟨rfl, hb1⟩
    have HBW := Lib.hid hb1
    have HT := Lib.hid (HT.out.below hb1)
    clear hb1
    go_wp2_with fail
    with_reducible refine (S1 _ HT.out).mono ?_
    rintro e w2 ⟨rfl, hb2⟩
    have HBW := Lib.hid (chain HBW.out hb2)
    have HT := Lib.hid (HT.out.below hb2)
    clear hb2
    go_wp2_with fail
    with_reducible refine (k7 _ HT.out).mono ?_
    rintro e w3 ⟨rfl, hb3⟩
    have HBW := Lib.hid (chain HBW.out hb3)
    have HT := Lib.hid (HT.out.below hb3)
    clear hb3
    go_wp2_with fail
    have HT := Lib.hid (HT.out.below ((Below.refl _ _).alloc (Nat.le_refl _) (.cells (madeCells #[.int .u8 0] (m + 1)) 5)))
    have HBW := Lib.hid (chain1 HBW.out (.cells (madeCells #[.int .u8 0] (m + 1)) 5))
    with_reducible refine (j2 _ HT.out).mono ?_
    rintro e w4 ⟨rfl, hb4⟩
    have HBW := Lib.hid (chain HBW.out hb4)
    have HT := Lib.hid (HT.out.below hb4)
    clear hb4
    go_wp2_with fail
    go_ret
    exact ⟨by first | rfl | (simp; done), HBW.out⟩
  · have d0 : 1000 < (s.length : Int) := by omega
    go_enter Tryd.func8, Tryd.ntmps8
    go_wp2_with fail
    with_reducible refine (awake6 _ HT.out).mono ?_
    rintro e w1 ⟨rfl, hb1⟩
    have HBW := Lib.hid hb1
    clear hb1
    go_wp2_with fail
    go_ret
    exact ⟨rfl, HBW.out⟩
end Go.Proofs.Tryd
