/- awake of stage 21. -/
import Derived.Test.YtjcclobnpbgmcaaDoorUl
namespace Go.Proofs.Tryd
open Go.RowKit Go.Sort
set_option linter.unusedVariables false
set_option linter.unusedSimpArgs false
theorem lit_at {w : World} {g : Nat} {cs : Array Value} {e : TypeId} (h : w.heap[g]? = some (.cells cs e)) (j : Nat) : w.cell? ⟨g, 0 + j, none⟩ = cs.toList[j]? := by
  rw [Nat.zero_add, cell_of_row _ _ j _ _ (0, 0) h]
  simp
theorem lit_rows {w : World} {g n : Nat} {cs : Array Value} {e : TypeId} (l : List Sn) (h : w.heap[g]? = some (.cells cs e)) (hc : cs.toList = flat encN l) (hl : l.length = n) (hn : n ≤ 100000) : Rows encN 3 w (.slice (some ⟨g, 0, none⟩) n n) n l :=
  ⟨_, _, rfl, cap_some (Nat.le_refl _), hn, hl, by rw [flat_len encN_len, hl], .inr ⟨_, _, rfl, (Array.getElem?_eq_some_iff.1 h).1, fun j hj => by rw [lit_at h, hc]⟩⟩
theorem lit_ints {w : World} {g n : Nat} {cs : Array Value} {e : TypeId} (gs : List Int) (h : w.heap[g]? = some (.cells cs e)) (hc : cs.toList = gs.map (Value.int .i64)) (hl : gs.length = n) : Sees w 1 (some ⟨g, 0, none⟩) n (gs.map (Value.int .i64)) :=
  ⟨by rw [List.length_map, hl]; omega, .inr ⟨_, _, rfl, (Array.getElem?_eq_some_iff.1 h).1, fun j hj => by rw [lit_at h, hc]⟩⟩
theorem lit1 (w : World) (o : Obj) : (w.alloc o).heap[w.heap.size]? = some o := heap_alloc_new w o
theorem lit2a (w : World) (o p : Obj) : ((w.alloc o).alloc p).heap[w.heap.size]? = some o := by
  rw [Below.heap_alloc _ _ _ (by show w.heap.size < (w.heap.push o).size; rw [Array.size_push]; omega), lit1]
theorem lit2b (w : World) (o p : Obj) : ((w.alloc o).alloc p).heap[w.heap.size + 1]? = some p := by
  have h := lit1 (w.alloc o) p
  rw [show (w.alloc o).heap.size = w.heap.size + 1 from Array.size_push ..] at h
  exact h
theorem belA (w : World) (o : Obj) : Below w.heap.size w (w.alloc o) := (Below.refl w.heap.size w).alloc (Nat.le_refl _) o
theorem belA2 (w : World) (o p : Obj) : Below w.heap.size w ((w.alloc o).alloc p) := chain (belA w o) (belA _ p)
set_option maxRecDepth 100000 in
set_option maxHeartbeats 8000000 in
theorem awake21 (w : World) (hT : Pows w) :
    Calls Tryd.prog 10 #[] w fun r w' => r = .returned (.bool true) ∧ Below w.heap.size w w' := by
  have HT := Lib.hid hT
  have N1 := fun v W h => note_c v 0 [] kB 10 W h
  rw [aw_n1] at N1
  have N2 := fun v n W h => note_c v n [(kB, 10, 1)] kA 7 W h
  rw [aw_n2] at N2
  have N3 := fun v n W h => note_c v n [(kA, 7, 1), (kB, 10, 1)] kB 12 W h
  rw [aw_n3] at N3
  have N4 := fun v n W h => note_c v n [(kA, 7, 1), (kB, 12, 2)] kC 0 W h
  rw [aw_n4] at N4
  unfold NoteP at N1 N2 N3 N4
  unfold kB at N1
  unfold kA kB at N2 N3
  unfold kA kB kC at N4
  have P1 : ∀ W, Pows W → Calls Tryd.prog 17 #[.agg #[.string ⟨#[]⟩, .int .i64 1, .int .i64 1], .int .u64 4611686018427387904, .int .u64 1] W fun e w' => e = .returned (.int .u64 2147483648) ∧ Below W.heap.size W w' := fun W h => by
    have := part_c ⟨#[]⟩ 1 1 (by omega) (by omega) 4611686018427387904 1 (by omega) (by omega) (by omega) W h
    rw [aw_p1] at this
    exact this
  have P2 : ∀ W, Pows W → Calls Tryd.prog 17 #[.agg #[.string ⟨#[]⟩, .int .i64 0, .int .i64 0], .int .u64 1, .int .u64 1] W fun e w' => e = .returned (.int .u64 0) ∧ Below W.heap.size W w' := fun W h => by
    have := part_c ⟨#[]⟩ 0 0 (by omega) (by omega) 1 1 (by omega) (by omega) (by omega) W h
    rw [aw_p2] at this
    exact this
  have F1 : ∀ v W, Rows encN 3 W v 1 w1l → Pows W → Calls Tryd.prog 19 #[v, .int .u64 4611686018427387904, .int .u64 1] W fun e w' => e = .returned (.int .u64 2147483648) ∧ Below W.heap.size W w' := fun v W h1 h => by
    have := fill_c v 1 w1l 4611686018427387904 1 (by omega) (by omega) (by omega) W h1 h
    rw [aw_f1] at this
    exact this
  have T1 : ∀ v W, Rows encN 3 W v 2 wl → Pows W → Calls Tryd.prog 23 #[v, .int .u64 1000, .int .u64 19] W fun e w' => e = .returned (.int .u64 32) ∧ Below W.heap.size W w' := fun v W h1 h => by
    have := time_c v 2 wl 1000 19 (by omega) (by omega) (by omega) W h1 h
    rw [aw_t1] at this
    exact this
  have T2 : ∀ v W, Rows encN 3 W v 2 wl → Pows W → Calls Tryd.prog 23 #[v, .int .u64 1000, .int .u64 0] W fun e w' => e = .returned (.int .u64 0) ∧ Below W.heap.size W w' := fun v W h1 h => by
    have := time_c v 2 wl 1000 0 (by omega) (by omega) (by omega) W h1 h
    rw [aw_t2] at this
    exact this
  have K1 := fun v W h => tcheck_c v 2 wl W h
  rw [aw_c1] at K1
  have K2 := fun v W h => tcheck_c v 1 [(⟨#[]⟩, 0, 0)] W h
  rw [aw_c4] at K2
  go_enter Tryd.func10, Tryd.ntmps10
  go_wp2_with fail
  refine (N1 _ _ (Rows.nil encN 3 _)).mono ?_
  rintro e w1 ⟨u1, m1, rfl, r1, hb1⟩
  have R1 := Lib.hid r1
  replace HT := Lib.hid (HT.out.below hb1)
  have HB := Lib.hid hb1
  clear r1 hb1 N1
  go_wp2_with fail
  refine (N2 _ _ _ R1.out).mono ?_
  rintro e w2 ⟨u2, m2, rfl, r2, hb2⟩
  have R2 := Lib.hid r2
  replace HT := Lib.hid (HT.out.below hb2)
  replace HB := Lib.hid (chain HB.out hb2)
  clear r2 hb2 N2
  go_wp2_with fail
  refine (N3 _ _ _ R2.out).mono ?_
  rintro e w3 ⟨u3, m3, rfl, r3, hb3⟩
  obtain rfl : m3 = 2 := r3.len.symm
  have R3 := Lib.hid r3
  replace HT := Lib.hid (HT.out.below hb3)
  replace HB := Lib.hid (chain HB.out hb3)
  clear r3 hb3 N3
  go_wp2_with fail
  have BW1 := Lib.hid (belA2 w3 (.cells #[.string ⟨#[]⟩, .int .i64 10, .int .i64 5] 25) (.cells #[.int .i64 1, .int .i64 1000, .int .i64 0] 3))
  replace HT := Lib.hid (HT.out.below BW1.out)
  replace R3 := Lib.hid (R3.out.below BW1.out)
  replace HB := Lib.hid (chain HB.out BW1.out)
  have B1 := best_c _ 1 w2l 100 (by omega) (by omega) _ 3 3 [1, 1000, 0] (by omega) (fun k => by rcases k with _ | _ | _ | k <;> simp) _ (lit_rows w2l (lit2a w3 (.cells #[.string ⟨#[]⟩, .int .i64 10, .int .i64 5] 25) (.cells #[.int .i64 1, .int .i64 1000, .int .i64 0] 3)) rfl rfl (by omega)) HT.out (lit_ints [1, 1000, 0] (lit2b w3 (.cells #[.string ⟨#[]⟩, .int .i64 10, .int .i64 5] 25) (.cells #[.int .i64 1, .int .i64 1000, .int .i64 0] 3)) rfl rfl)
  rw [aw_b1, aw_b1'] at B1
  refine B1.mono ?_
  rintro e w4 ⟨rfl, hb4⟩
  clear B1 BW1
  replace HT := Lib.hid (HT.out.below hb4)
  replace R3 := Lib.hid (R3.out.below hb4)
  replace HB := Lib.hid (chain HB.out hb4)
  clear hb4
  go_wp2_with fail
  have BW2 := Lib.hid (belA w4 (.cells #[.int .i64 0] 3))
  replace HT := Lib.hid (HT.out.below BW2.out)
  replace R3 := Lib.hid (R3.out.below BW2.out)
  replace HB := Lib.hid (chain HB.out BW2.out)
  have B2 := best_c _ 2 wl 100 (by omega) (by omega) _ 1 1 [0] (by omega) (fun k => by rcases k with _ | k <;> simp) _ R3.out HT.out (lit_ints [0] (lit1 w4 (.cells #[.int .i64 0] 3)) rfl rfl)
  rw [aw_b2] at B2
  refine B2.mono ?_
  rintro e w5 ⟨rfl, hb5⟩
  clear B2 BW2
  replace HT := Lib.hid (HT.out.below hb5)
  replace R3 := Lib.hid (R3.out.below hb5)
  replace HB := Lib.hid (chain HB.out hb5)
  clear hb5
  go_wp2_with fail
  have BW3 := Lib.hid (belA w5 (.cells #[.string ⟨#[97]⟩, .int .i64 7, .int .i64 1, .string ⟨#[98]⟩, .int .i64 12, .int .i64 2] 25))
  replace HT := Lib.hid (HT.out.below BW3.out)
  replace R3 := Lib.hid (R3.out.below BW3.out)
  replace HB := Lib.hid (chain HB.out BW3.out)
  refine (sameN_c _ _ 2 wl _ R3.out (lit_rows wl (lit1 w5 (.cells #[.string ⟨#[97]⟩, .int .i64 7, .int .i64 1, .string ⟨#[98]⟩, .int .i64 12, .int .i64 2] 25)) rfl rfl (by omega))).mono ?_
  rintro e w6 ⟨rfl, hb6⟩
  clear BW3
  replace HT := Lib.hid (HT.out.below hb6)
  replace R3 := Lib.hid (R3.out.below hb6)
  replace HB := Lib.hid (chain HB.out hb6)
  clear hb6
  go_wp2_with fail
  refine (N4 _ _ _ R3.out).mono ?_
  rintro e w7 ⟨u7, m7, rfl, r7, hb7⟩
  obtain rfl : m7 = 2 := r7.len.symm
  have R7 := Lib.hid r7
  replace HT := Lib.hid (HT.out.below hb7)
  replace R3 := Lib.hid (R3.out.below hb7)
  replace HB := Lib.hid (chain HB.out hb7)
  clear hb7 N4 r7
  go_wp2_with fail
  refine (sameN_c _ _ 2 wl _ R7.out R3.out).mono ?_
  rintro e w8 ⟨rfl, hb8⟩
  replace HT := Lib.hid (HT.out.below hb8)
  replace R3 := Lib.hid (R3.out.below hb8)
  replace HB := Lib.hid (chain HB.out hb8)
  clear hb8 R7
  go_wp2_with fail
  refine (P1 _ HT.out).mono ?_
  rintro e w9 ⟨rfl, hb9⟩
  replace HT := Lib.hid (HT.out.below hb9)
  replace R3 := Lib.hid (R3.out.below hb9)
  replace HB := Lib.hid (chain HB.out hb9)
  clear hb9 P1
  go_wp2_with fail
  refine (P2 _ HT.out).mono ?_
  rintro e w10 ⟨rfl, hb10⟩
  replace HT := Lib.hid (HT.out.below hb10)
  replace R3 := Lib.hid (R3.out.below hb10)
  replace HB := Lib.hid (chain HB.out hb10)
  clear hb10 P2
  go_wp2_with fail
  have BW4 := Lib.hid (belA w10 (.cells #[.string ⟨#[]⟩, .int .i64 1, .int .i64 1] 25))
  replace HT := Lib.hid (HT.out.below BW4.out)
  replace R3 := Lib.hid (R3.out.below BW4.out)
  replace HB := Lib.hid (chain HB.out BW4.out)
  refine (F1 _ _ (lit_rows w1l (lit1 w10 (.cells #[.string ⟨#[]⟩, .int .i64 1, .int .i64 1] 25)) rfl rfl (by omega)) HT.out).mono ?_
  rintro e w11 ⟨rfl, hb11⟩
  clear BW4
  replace HT := Lib.hid (HT.out.below hb11)
  replace R3 := Lib.hid (R3.out.below hb11)
  replace HB := Lib.hid (chain HB.out hb11)
  clear hb11
  go_wp2_with fail
  refine (T1 _ _ R3.out HT.out).mono ?_
  rintro e w12 ⟨rfl, hb12⟩
  replace HT := Lib.hid (HT.out.below hb12)
  replace R3 := Lib.hid (R3.out.below hb12)
  replace HB := Lib.hid (chain HB.out hb12)
  clear hb12
  go_wp2_with fail
  refine (T2 _ _ R3.out HT.out).mono ?_
  rintro e w13 ⟨rfl, hb13⟩
  replace HT := Lib.hid (HT.out.below hb13)
  replace R3 := Lib.hid (R3.out.below hb13)
  replace HB := Lib.hid (chain HB.out hb13)
  clear hb13
  go_wp2_with fail
  refine (K1 _ _ R3.out).mono ?_
  rintro e w14 ⟨rfl, hb14⟩
  replace R3 := Lib.hid (R3.out.below hb14)
  replace HB := Lib.hid (chain HB.out hb14)
  clear hb14
  go_wp2_with fail
  have BW5 := Lib.hid (belA w14 (.cells #[.string ⟨#[]⟩, .int .i64 0, .int .i64 0] 25))
  replace HB := Lib.hid (chain HB.out BW5.out)
  refine (K2 _ _ (lit_rows [(⟨#[]⟩, 0, 0)] (lit1 w14 (.cells #[.string ⟨#[]⟩, .int .i64 0, .int .i64 0] 25)) rfl rfl (by omega))).mono ?_
  rintro e w15 ⟨rfl, hb15⟩
  replace HB := Lib.hid (chain HB.out hb15)
  clear hb15
  go_wp2_with fail
  go_ret
  exact ⟨rfl, HB.out⟩
end Go.Proofs.Tryd
