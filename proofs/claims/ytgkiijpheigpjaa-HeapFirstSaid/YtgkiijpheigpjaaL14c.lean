/- The walk of HeapFirst. -/
import Derived.Test.YtgkiijpheigpjaaStp
namespace Go.Proofs.Try
open Go.RowKit
set_option linter.unusedVariables false
set_option linter.unusedSimpArgs false
/-- x stands ahead of the first k, but for those of its ID. -/
def frst (l : List It) (x : It) (k : Nat) (F : Bool) : Prop := F = true → ∀ j, j < k → LtI x (atI l j) ∨ (atI l j).1 = x.1
theorem frst_yes {l : List It} {x : It} {k : Nat} {F : Bool} (h : frst l x k F) (h1 : LtI x (atI l k) ∨ (atI l k).1 = x.1) : frst l x (k + 1) F := fun hf j hj => by
  by_cases e : j = k
  · rw [e]; exact h1
  · exact h hf j (by omega)
theorem min_new {l l' : List It} {x m : It} {b : Bool} (hc : chkI l') (hp : l'.Perm (x :: wo l x.1)) (hf : frst l x l.length true) (hm : MinP l' m b) : m = x ∧ b = true := by
  have hne : l' ≠ [] := fun e => by rw [e] at hp; exact absurd hp.length_eq (by simp)
  rcases hm with ⟨_, _, h1, h2⟩ | ⟨h, _⟩
  · refine ⟨?_, h2⟩
    have hl : 0 < l'.length := by cases l' with | nil => exact absurd rfl hne | cons _ _ => simp
    have hmem := hp.mem_iff.1 (List.mem_of_getElem? (atI_some hl))
    rw [← h1, List.mem_cons] at hmem
    rcases hmem with h3 | h3
    · exact h3
    · exfalso
      obtain ⟨h4, h5⟩ := wo_mem.1 h3
      obtain ⟨j, hj, e⟩ := List.getElem_of_mem h4
      have e' : atI l j = m := by unfold atI; rw [List.getD_eq_getElem?_getD, List.getElem?_eq_getElem hj]; exact e
      have hlt : LtI x m := by
        rcases hf rfl j hj with h6 | h6
        · rwa [e'] at h6
        · rw [e'] at h6; exact absurd h6 h5
      have hx := hp.mem_iff.2 (List.mem_cons_self ..)
      obtain ⟨i, hi, ei⟩ := List.getElem_of_mem hx
      have ei' : atI l' i = x := by unfold atI; rw [List.getD_eq_getElem?_getD, List.getElem?_eq_getElem hi]; exact ei
      have := heap_min hc.2.2 i hi
      rw [ei', ← h1] at this
      exact this hlt
  · exact absurd ⟨hc, hne⟩ h
set_option maxRecDepth 100000 in
set_option maxHeartbeats 4000000 in
theorem first_go (A : Option Addr) (n c : Nat) (l : List It) (x0 x1 x2 : Int) (hn : n ≤ 100) (hcap : CapOk A n c) (hl : l.length = n) (hc : chkI l) (w : World) (hs : Sees w 3 A n (flat encI l)) :
    Calls Try.prog 8 #[.slice A n c, .agg #[.int .i64 x0, .int .u64 x1, .int .u64 x2]] w fun e w' => e = .returned (.bool true) ∧ Below w.heap.size w w' := by
  have HS := Lib.hid (hs.alloc (.cells #[.int .i64 x0, .int .u64 x1, .int .u64 x2] 25))
  have TX := Lib.hid (tri.new w (.int .i64 x0) (.int .u64 x1) (.int .u64 x2) 25)
  have HBW := Lib.hid (chain1 (Below.refl w.heap.size w) (.cells #[.int .i64 x0, .int .u64 x1, .int .u64 x2] 25))
  have HL := Lib.hid hl
  have HC := Lib.hid hc
  have HCAP := Lib.hid hcap
  have qn : decide (100 < (n : Int)) = false := by simp; omega
  have CK := fun W h => checkh_c (.slice A n c) n l W h
  rw [decide_eq_true hc] at CK
  have ROW : Hid (∀ W, Sees W 3 A n (flat encI l) → Rows encI 3 W (.slice A n c) n l) := Lib.hid (fun W h => ⟨A, c, rfl, hcap, by omega, hl, h⟩)
  clear hs hl hc hcap
  go_enter Try.func8, Try.ntmps8
  go_wp2_with fail
  refine (awake14 _).mono ?_
  rintro e w1 ⟨rfl, hb1⟩
  replace HBW := Lib.hid (chain HBW.out hb1)
  replace HS := Lib.hid (HS.out.below hb1)
  replace TX := Lib.hid (TX.out.below hb1)
  obtain ⟨c0_TX, c1_TX, c2_TX, cl_TX⟩ := TX.out
  clear hb1
  go_wp2_with fail
  refine (CK _ (ROW.out _ HS.out)).mono ?_
  rintro e w2 ⟨rfl, hb2⟩
  clear c0_TX c1_TX c2_TX cl_TX
  replace HBW := Lib.hid (chain HBW.out hb2)
  replace HS := Lib.hid (HS.out.below hb2)
  replace TX := Lib.hid (TX.out.below hb2)
  obtain ⟨c0_TX, c1_TX, c2_TX, cl_TX⟩ := TX.out
  clear CK
  clear hb2
  go_wp2_with fail
  refine (min_c _ n l (by omega) _ (ROW.out _ HS.out)).mono ?_
  rintro e w3 ⟨i3, p3, q3, b3, rfl, hP3, hb3⟩
  clear c0_TX c1_TX c2_TX cl_TX
  replace HBW := Lib.hid (chain HBW.out hb3)
  replace HS := Lib.hid (HS.out.below hb3)
  replace TX := Lib.hid (TX.out.below hb3)
  obtain ⟨c0_TX, c1_TX, c2_TX, cl_TX⟩ := TX.out
  have HMIN : Hid (∀ j, j < n → ¬LtI (atI l j) (i3, p3, q3)) := Lib.hid (fun j hj => by
    rcases hP3 with ⟨_, _, h1, _⟩ | ⟨h, _⟩
    · rw [h1]; exact heap_min HC.out.2.2 j (by rw [HL.out]; exact hj)
    · exact absurd ⟨HC.out, fun e => by have := HL.out; rw [e] at this; simp at this; omega⟩ h)
  have hbn : (b3 = true ∧ 0 < n) ∨ (b3 = false ∧ n = 0) := by
    rcases hP3 with ⟨_, h, _, h2⟩ | ⟨h, _, h2⟩
    · refine .inl ⟨h2, ?_⟩
      rcases Nat.eq_zero_or_pos n with h0 | h0
      · exact absurd (List.eq_nil_of_length_eq_zero (by rw [HL.out]; exact h0)) h
      · exact h0
    · refine .inr ⟨h2, ?_⟩
      rcases Nat.eq_zero_or_pos n with h0 | h0
      · exact h0
      · exact absurd ⟨HC.out, fun e => by have := HL.out; rw [e] at this; simp at this; omega⟩ h
  clear hP3
  clear hb3
  clear c0_TX c1_TX c2_TX cl_TX
  have TM := Lib.hid (tri.new w3 (.int .i64 i3) (.int .u64 p3) (.int .u64 q3) 25)
  replace HBW := Lib.hid (chain1 HBW.out (.cells #[.int .i64 i3, .int .u64 p3, .int .u64 q3] 25))
  replace HS := Lib.hid (HS.out.below ((Below.refl _ _).alloc (Nat.le_refl _) (.cells #[.int .i64 i3, .int .u64 p3, .int .u64 q3] 25)))
  replace TX := Lib.hid (TX.out.below ((Below.refl _ _).alloc (Nat.le_refl _) (.cells #[.int .i64 i3, .int .u64 p3, .int .u64 q3] 25)))
  obtain ⟨c0_TX, c1_TX, c2_TX, cl_TX⟩ := TX.out
  clear c0_TX c1_TX c2_TX cl_TX
  have HBN := Lib.hid hbn
  clear hbn
  go_wp2_with fail
  go_loopw [8, 9] (fun f i wr => ∃ (k : Nat) (F : Bool), k ≤ n ∧ i = .int .i64 k ∧ f = .bool F ∧ Hid (frst l (x0, x1, x2) k F) ∧ Hid (Below w.heap.size w wr) ∧ Hid (Sees wr 3 A n (flat encI l)) ∧ Hid (tri wr w.heap.size (.int .i64 x0) (.int .u64 x1) (.int .u64 x2)) ∧ Hid (tri wr w3.heap.size (.int .i64 i3) (.int .u64 p3) (.int .u64 q3))) (fun _ i _ => n - (intOf i).toNat)
  case atStart => exact ⟨0, true, by omega, rfl, rfl, Lib.hid (fun _ j hj => by omega), HBW, HS, TX, TM⟩
  case round =>
    clear HBW HS TX TM
    obtain ⟨k, F, hk, rfl, rfl, HF, HBW, HS, TX, TM⟩ := hrel
    by_cases hlt : k < n
    · have hlt' : (k : Int) < (n : Int) := by omega
      obtain ⟨b, off, rfl, _⟩ := Rows.some HS.out (by omega)
      obtain ⟨s0, s1, s2, hbl⟩ := HS.out.item hlt
      obtain ⟨y0, hy0⟩ : ∃ x, (atI l k).1 = x := ⟨_, rfl⟩
      obtain ⟨y1, hy1⟩ : ∃ x, (atI l k).2.1 = x := ⟨_, rfl⟩
      obtain ⟨y2, hy2⟩ : ∃ x, (atI l k).2.2 = x := ⟨_, rfl⟩
      have HY := Lib.hid (show atI l k = (y0, y1, y2) by rw [← hy0, ← hy1, ← hy2])
      rw [hy0] at s0
      rw [hy1] at s1
      rw [hy2] at s2
      clear hy0 hy1 hy2
      have L1 := fun W => less_c y0 y1 y2 i3 p3 q3 W
      rw [decide_eq_false (by have := HMIN.out k hlt; rwa [HY.out] at this)] at L1
      have L2 := fun W => less_c x0 x1 x2 y0 y1 y2 W
      obtain ⟨m0, m1, m2, ml⟩ := TM.out
      go_wp2_with fail
      (refine region_later (by kernel_rfl) (by kernel_rfl) ?_); (intro hlat); (repeat (go_big_quiet_step (((go_at_call 22; with_reducible exact later_call (L1 _)))))); (refine wpQuiet_nil ?_); (intro W1 hb1); (clear hlat)
      have HB1 := Lib.hid (chain HBW.out hb1)
      have HS1 := Lib.hid (HS.out.below hb1)
      have TX1 := Lib.hid (TX.out.below hb1)
      have TM1 := Lib.hid (TM.out.below hb1)
      clear s0 s1 s2 m0 m1 m2 ml hbl hb1 L1
      obtain ⟨s0, s1, s2, hbl⟩ := HS1.out.item hlt
      rw [HY.out] at s0 s1 s2
      dsimp only at s0 s1 s2
      obtain ⟨m0, m1, m2, ml⟩ := TX1.out
      cases F with
      | false =>
        go_wp2_with fail
        (refine region_later (by kernel_rfl) (by kernel_rfl) ?_); (intro hlat); (repeat (go_big_quiet_step ((fail)))); (refine wpQuiet_nil ?_); (intro W2 hb2); (clear hlat)
        go_wp2_with fail
        go_roundw
        case rel => exact ⟨k + 1, false, by omega, by go_num, rfl, Lib.hid (fun h => by cases h), Lib.hid (chain HB1.out hb2), Lib.hid (HS1.out.below hb2), Lib.hid (TX1.out.below hb2), Lib.hid (TM1.out.below hb2)⟩
        case measure => first | (simp [intOf]; done) | (simp [intOf]; omega)
      | true =>
        by_cases hxy : LtI (x0, x1, x2) (y0, y1, y2)
        · rw [decide_eq_true hxy] at L2
          have HF2 := Lib.hid (frst_yes HF.out (.inl (by rw [HY.out]; exact hxy)))
          clear hxy
          go_wp2_with fail
          (refine region_later (by kernel_rfl) (by kernel_rfl) ?_); (intro hlat); (repeat (go_big_quiet_step (((go_at_call 22; with_reducible exact later_call (L2 _)))))); (refine wpQuiet_nil ?_); (intro W2 hb2); (clear hlat)
          go_wp2_with fail
          go_roundw
          case rel => exact ⟨k + 1, true, by omega, by go_num, rfl, HF2, Lib.hid (chain HB1.out hb2), Lib.hid (HS1.out.below hb2), Lib.hid (TX1.out.below hb2), Lib.hid (TM1.out.below hb2)⟩
          case measure => first | (simp [intOf]; done) | (simp [intOf]; omega)
        · rw [decide_eq_false hxy] at L2
          clear hxy
          by_cases hid : y0 = x0
          · have HF2 := Lib.hid (frst_yes HF.out (.inr (by rw [HY.out]; exact hid)))
            have hidb : (y0 == x0) = true := by rw [hid]; simp
            clear hid
            go_wp2_with fail
            (refine region_later (by kernel_rfl) (by kernel_rfl) ?_); (intro hlat); (repeat (go_big_quiet_step (((go_at_call 22; with_reducible exact later_call (L2 _)))))); (refine wpQuiet_nil ?_); (intro W2 hb2); (clear hlat)
            go_wp2_with fail
            go_roundw
            case rel => exact ⟨k + 1, true, by omega, by go_num, rfl, HF2, Lib.hid (chain HB1.out hb2), Lib.hid (HS1.out.below hb2), Lib.hid (TX1.out.below hb2), Lib.hid (TM1.out.below hb2)⟩
            case measure => first | (simp [intOf]; done) | (simp [intOf]; omega)
          · have hidb : (y0 == x0) = false := by rw [beq_eq_false_iff_ne]; exact hid
            clear hid
            go_wp2_with fail
            (refine region_later (by kernel_rfl) (by kernel_rfl) ?_); (intro hlat); (repeat (go_big_quiet_step (((go_at_call 22; with_reducible exact later_call (L2 _)))))); (refine wpQuiet_nil ?_); (intro W2 hb2); (clear hlat)
            go_wp2_with fail
            go_roundw
            case rel => exact ⟨k + 1, false, by omega, by go_num, rfl, Lib.hid (fun h => by cases h), Lib.hid (chain HB1.out hb2), Lib.hid (HS1.out.below hb2), Lib.hid (TX1.out.below hb2), Lib.hid (TM1.out.below hb2)⟩
            case measure => first | (simp [intOf]; done) | (simp [intOf]; omega)
    · obtain rfl : k = n := by omega
      obtain ⟨V, hV⟩ : ∃ V, V = wr := ⟨_, rfl⟩
      subst hV
      have hl64 : l.length ≤ 64 := chk_le HC.out
      have SC := fun W h => set_c (.slice A k c) k l x0 x1 x2 (by omega) W h
      clear TM
      obtain ⟨m0, m1, m2, ml⟩ := TX.out
      by_cases hr : 0 ≤ x0 ∧ x0 < 64
      · replace hr := Lib.hid hr
        cases F with
        | false =>
          rcases HBN.out with ⟨rfl, h0⟩ | ⟨rfl, h0⟩
          · have h0' : (0 : Int) < (k : Int) := by omega
            clear m0 m1 m2 ml
            obtain ⟨c0_TX, c1_TX, c2_TX, cl_TX⟩ := TX.out
            go_wp2_with fail
            refine (SC _ (ROW.out _ HS.out)).mono ?_
            rintro e w4 ⟨v4, l4, E4, rfl, hP4, hR4, hb4⟩
            clear c0_TX c1_TX c2_TX cl_TX
            replace HBW := Lib.hid (chain HBW.out hb4)
            replace TX := Lib.hid (TX.out.below hb4)
            obtain ⟨c0_TX, c1_TX, c2_TX, cl_TX⟩ := TX.out
            obtain ⟨rfl, hc4, hp4⟩ := set_yes hP4 HC.out hr.out
            have HC4 := Lib.hid hc4
            have HP4 := Lib.hid hp4
            have hl4 := chk_le hc4
            have HR := Lib.hid hR4
            clear hP4 hR4 hc4 hp4 SC
            clear hb4
            go_wp2_with fail
            refine (min_c _ l4.length l4 (by omega) _ HR.out).mono ?_
            rintro e w5 ⟨i5, p5, q5, b5, rfl, hP5, hb5⟩
            clear c0_TX c1_TX c2_TX cl_TX
            replace HBW := Lib.hid (chain HBW.out hb5)
            replace HR := Lib.hid (HR.out.below hb5)
            replace TX := Lib.hid (TX.out.below hb5)
            obtain ⟨c0_TX, c1_TX, c2_TX, cl_TX⟩ := TX.out
            clear hP5
            clear hb5
            clear c0_TX c1_TX c2_TX cl_TX
            have TN := Lib.hid (tri.new w5 (.int .i64 i5) (.int .u64 p5) (.int .u64 q5) 25)
            replace HBW := Lib.hid (chain1 HBW.out (.cells #[.int .i64 i5, .int .u64 p5, .int .u64 q5] 25))
            replace HR := Lib.hid (HR.out.below ((Below.refl _ _).alloc (Nat.le_refl _) (.cells #[.int .i64 i5, .int .u64 p5, .int .u64 q5] 25)))
            replace TX := Lib.hid (TX.out.below ((Below.refl _ _).alloc (Nat.le_refl _) (.cells #[.int .i64 i5, .int .u64 p5, .int .u64 q5] 25)))
            obtain ⟨c0_TX, c1_TX, c2_TX, cl_TX⟩ := TX.out
            clear c0_TX c1_TX c2_TX cl_TX
            obtain ⟨c0_TX, c1_TX, c2_TX, cl_TX⟩ := TX.out
            obtain ⟨c0_TN, c1_TN, c2_TN, cl_TN⟩ := TN.out
            go_wp2_with fail
            go_ret
            exact ⟨by first | rfl | (simp; done), HBW.out⟩
          · have h0' : decide ((0 : Int) < (k : Int)) = false := by simp; omega
            have h0n : decide (0 < k) = false := by simp; omega
            have H0 := Lib.hid h0
            clear h0
            clear m0 m1 m2 ml
            obtain ⟨c0_TX, c1_TX, c2_TX, cl_TX⟩ := TX.out
            go_wp2_with fail
            refine (SC _ (ROW.out _ HS.out)).mono ?_
            rintro e w4 ⟨v4, l4, E4, rfl, hP4, hR4, hb4⟩
            clear c0_TX c1_TX c2_TX cl_TX
            replace HBW := Lib.hid (chain HBW.out hb4)
            replace TX := Lib.hid (TX.out.below hb4)
            obtain ⟨c0_TX, c1_TX, c2_TX, cl_TX⟩ := TX.out
            obtain ⟨rfl, hc4, hp4⟩ := set_yes hP4 HC.out hr.out
            have HC4 := Lib.hid hc4
            have HP4 := Lib.hid hp4
            have hl4 := chk_le hc4
            have HR := Lib.hid hR4
            clear hP4 hR4 hc4 hp4 SC
            clear hb4
            go_wp2_with fail
            refine (min_c _ l4.length l4 (by omega) _ HR.out).mono ?_
            rintro e w5 ⟨i5, p5, q5, b5, rfl, hP5, hb5⟩
            clear c0_TX c1_TX c2_TX cl_TX
            replace HBW := Lib.hid (chain HBW.out hb5)
            replace HR := Lib.hid (HR.out.below hb5)
            replace TX := Lib.hid (TX.out.below hb5)
            obtain ⟨c0_TX, c1_TX, c2_TX, cl_TX⟩ := TX.out
            clear hP5
            clear hb5
            clear c0_TX c1_TX c2_TX cl_TX
            have TN := Lib.hid (tri.new w5 (.int .i64 i5) (.int .u64 p5) (.int .u64 q5) 25)
            replace HBW := Lib.hid (chain1 HBW.out (.cells #[.int .i64 i5, .int .u64 p5, .int .u64 q5] 25))
            replace HR := Lib.hid (HR.out.below ((Below.refl _ _).alloc (Nat.le_refl _) (.cells #[.int .i64 i5, .int .u64 p5, .int .u64 q5] 25)))
            replace TX := Lib.hid (TX.out.below ((Below.refl _ _).alloc (Nat.le_refl _) (.cells #[.int .i64 i5, .int .u64 p5, .int .u64 q5] 25)))
            obtain ⟨c0_TX, c1_TX, c2_TX, cl_TX⟩ := TX.out
            clear c0_TX c1_TX c2_TX cl_TX
            obtain ⟨c0_TX, c1_TX, c2_TX, cl_TX⟩ := TX.out
            obtain ⟨c0_TN, c1_TN, c2_TN, cl_TN⟩ := TN.out
            go_wp2_with fail
            go_ret
            exact ⟨by first | rfl | (simp; done), HBW.out⟩
        | true =>
          rcases HBN.out with ⟨rfl, h0⟩ | ⟨rfl, h0⟩
          · have h0' : (0 : Int) < (k : Int) := by omega
            clear m0 m1 m2 ml
            obtain ⟨c0_TX, c1_TX, c2_TX, cl_TX⟩ := TX.out
            go_wp2_with fail
            refine (SC _ (ROW.out _ HS.out)).mono ?_
            rintro e w4 ⟨v4, l4, E4, rfl, hP4, hR4, hb4⟩
            clear c0_TX c1_TX c2_TX cl_TX
            replace HBW := Lib.hid (chain HBW.out hb4)
            replace TX := Lib.hid (TX.out.below hb4)
            obtain ⟨c0_TX, c1_TX, c2_TX, cl_TX⟩ := TX.out
            obtain ⟨rfl, hc4, hp4⟩ := set_yes hP4 HC.out hr.out
            have HC4 := Lib.hid hc4
            have HP4 := Lib.hid hp4
            have hl4 := chk_le hc4
            have HR := Lib.hid hR4
            clear hP4 hR4 hc4 hp4 SC
            clear hb4
            go_wp2_with fail
            refine (min_c _ l4.length l4 (by omega) _ HR.out).mono ?_
            rintro e w5 ⟨i5, p5, q5, b5, rfl, hP5, hb5⟩
            clear c0_TX c1_TX c2_TX cl_TX
            replace HBW := Lib.hid (chain HBW.out hb5)
            replace HR := Lib.hid (HR.out.below hb5)
            replace TX := Lib.hid (TX.out.below hb5)
            obtain ⟨c0_TX, c1_TX, c2_TX, cl_TX⟩ := TX.out
            obtain ⟨hx5, rfl⟩ := min_new HC4.out HP4.out (by rw [HL.out]; exact HF.out) hP5
            simp only [Prod.mk.injEq] at hx5
            obtain ⟨rfl, rfl, rfl⟩ := hx5
            clear hP5
            clear hb5
            clear c0_TX c1_TX c2_TX cl_TX
            have TN := Lib.hid (tri.new w5 (.int .i64 i5) (.int .u64 p5) (.int .u64 q5) 25)
            replace HBW := Lib.hid (chain1 HBW.out (.cells #[.int .i64 i5, .int .u64 p5, .int .u64 q5] 25))
            replace HR := Lib.hid (HR.out.below ((Below.refl _ _).alloc (Nat.le_refl _) (.cells #[.int .i64 i5, .int .u64 p5, .int .u64 q5] 25)))
            replace TX := Lib.hid (TX.out.below ((Below.refl _ _).alloc (Nat.le_refl _) (.cells #[.int .i64 i5, .int .u64 p5, .int .u64 q5] 25)))
            obtain ⟨c0_TX, c1_TX, c2_TX, cl_TX⟩ := TX.out
            clear c0_TX c1_TX c2_TX cl_TX
            obtain ⟨c0_TX, c1_TX, c2_TX, cl_TX⟩ := TX.out
            obtain ⟨c0_TN, c1_TN, c2_TN, cl_TN⟩ := TN.out
            go_wp2_with fail
            go_ret
            exact ⟨by first | rfl | (simp; done), HBW.out⟩
          · have h0' : decide ((0 : Int) < (k : Int)) = false := by simp; omega
            have h0n : decide (0 < k) = false := by simp; omega
            have H0 := Lib.hid h0
            clear h0
            clear m0 m1 m2 ml
            obtain ⟨c0_TX, c1_TX, c2_TX, cl_TX⟩ := TX.out
            go_wp2_with fail
            refine (SC _ (ROW.out _ HS.out)).mono ?_
            rintro e w4 ⟨v4, l4, E4, rfl, hP4, hR4, hb4⟩
            clear c0_TX c1_TX c2_TX cl_TX
            replace HBW := Lib.hid (chain HBW.out hb4)
            replace TX := Lib.hid (TX.out.below hb4)
            obtain ⟨c0_TX, c1_TX, c2_TX, cl_TX⟩ := TX.out
            obtain ⟨rfl, hc4, hp4⟩ := set_yes hP4 HC.out hr.out
            have HC4 := Lib.hid hc4
            have HP4 := Lib.hid hp4
            have hl4 := chk_le hc4
            have HR := Lib.hid hR4
            clear hP4 hR4 hc4 hp4 SC
            clear hb4
            go_wp2_with fail
            refine (min_c _ l4.length l4 (by omega) _ HR.out).mono ?_
            rintro e w5 ⟨i5, p5, q5, b5, rfl, hP5, hb5⟩
            clear c0_TX c1_TX c2_TX cl_TX
            replace HBW := Lib.hid (chain HBW.out hb5)
            replace HR := Lib.hid (HR.out.below hb5)
            replace TX := Lib.hid (TX.out.below hb5)
            obtain ⟨c0_TX, c1_TX, c2_TX, cl_TX⟩ := TX.out
            obtain ⟨hx5, rfl⟩ := min_new HC4.out HP4.out (by rw [HL.out]; exact HF.out) hP5
            simp only [Prod.mk.injEq] at hx5
            obtain ⟨rfl, rfl, rfl⟩ := hx5
            clear hP5
            clear hb5
            clear c0_TX c1_TX c2_TX cl_TX
            have TN := Lib.hid (tri.new w5 (.int .i64 i5) (.int .u64 p5) (.int .u64 q5) 25)
            replace HBW := Lib.hid (chain1 HBW.out (.cells #[.int .i64 i5, .int .u64 p5, .int .u64 q5] 25))
            replace HR := Lib.hid (HR.out.below ((Below.refl _ _).alloc (Nat.le_refl _) (.cells #[.int .i64 i5, .int .u64 p5, .int .u64 q5] 25)))
            replace TX := Lib.hid (TX.out.below ((Below.refl _ _).alloc (Nat.le_refl _) (.cells #[.int .i64 i5, .int .u64 p5, .int .u64 q5] 25)))
            obtain ⟨c0_TX, c1_TX, c2_TX, cl_TX⟩ := TX.out
            clear c0_TX c1_TX c2_TX cl_TX
            obtain ⟨c0_TX, c1_TX, c2_TX, cl_TX⟩ := TX.out
            obtain ⟨c0_TN, c1_TN, c2_TN, cl_TN⟩ := TN.out
            go_wp2_with fail
            go_ret
            exact ⟨by first | rfl | (simp; done), HBW.out⟩
      · replace hr := Lib.hid hr
        rcases HBN.out with ⟨rfl, h0⟩ | ⟨rfl, h0⟩
        · have h0' : (0 : Int) < (k : Int) := by omega
          clear m0 m1 m2 ml
          obtain ⟨c0_TX, c1_TX, c2_TX, cl_TX⟩ := TX.out
          go_wp2_with fail
          refine (SC _ (ROW.out _ HS.out)).mono ?_
          rintro e w4 ⟨v4, l4, E4, rfl, hP4, hR4, hb4⟩
          clear c0_TX c1_TX c2_TX cl_TX
          replace HBW := Lib.hid (chain HBW.out hb4)
          replace TX := Lib.hid (TX.out.below hb4)
          obtain ⟨c0_TX, c1_TX, c2_TX, cl_TX⟩ := TX.out
          obtain ⟨rfl, he4⟩ := set_out hP4 HC.out hr.out
          rw [he4] at hR4
          have HR := Lib.hid hR4
          clear hP4 hR4 he4 SC
          clear hb4
          go_wp2_with fail
          refine (min_c _ l.length l (by omega) _ HR.out).mono ?_
          rintro e w5 ⟨i5, p5, q5, b5, rfl, hP5, hb5⟩
          clear c0_TX c1_TX c2_TX cl_TX
          replace HBW := Lib.hid (chain HBW.out hb5)
          replace HR := Lib.hid (HR.out.below hb5)
          replace TX := Lib.hid (TX.out.below hb5)
          obtain ⟨c0_TX, c1_TX, c2_TX, cl_TX⟩ := TX.out
          clear hP5
          clear hb5
          clear c0_TX c1_TX c2_TX cl_TX
          replace HBW := Lib.hid (chain1 HBW.out (.cells #[.int .i64 i5, .int .u64 p5, .int .u64 q5] 25))
          replace HR := Lib.hid (HR.out.below ((Below.refl _ _).alloc (Nat.le_refl _) (.cells #[.int .i64 i5, .int .u64 p5, .int .u64 q5] 25)))
          replace TX := Lib.hid (TX.out.below ((Below.refl _ _).alloc (Nat.le_refl _) (.cells #[.int .i64 i5, .int .u64 p5, .int .u64 q5] 25)))
          obtain ⟨c0_TX, c1_TX, c2_TX, cl_TX⟩ := TX.out
          go_wp2_with fail
          go_ret
          exact ⟨by first | rfl | (simp; done), HBW.out⟩
        · have h0' : decide ((0 : Int) < (k : Int)) = false := by simp; omega
          have h0n : decide (0 < k) = false := by simp; omega
          have H0 := Lib.hid h0
          clear h0
          clear m0 m1 m2 ml
          obtain ⟨c0_TX, c1_TX, c2_TX, cl_TX⟩ := TX.out
          go_wp2_with fail
          refine (SC _ (ROW.out _ HS.out)).mono ?_
          rintro e w4 ⟨v4, l4, E4, rfl, hP4, hR4, hb4⟩
          clear c0_TX c1_TX c2_TX cl_TX
          replace HBW := Lib.hid (chain HBW.out hb4)
          replace TX := Lib.hid (TX.out.below hb4)
          obtain ⟨c0_TX, c1_TX, c2_TX, cl_TX⟩ := TX.out
          obtain ⟨rfl, he4⟩ := set_out hP4 HC.out hr.out
          rw [he4] at hR4
          have HR := Lib.hid hR4
          clear hP4 hR4 he4 SC
          clear hb4
          go_wp2_with fail
          refine (min_c _ l.length l (by omega) _ HR.out).mono ?_
          rintro e w5 ⟨i5, p5, q5, b5, rfl, hP5, hb5⟩
          clear c0_TX c1_TX c2_TX cl_TX
          replace HBW := Lib.hid (chain HBW.out hb5)
          replace HR := Lib.hid (HR.out.below hb5)
          replace TX := Lib.hid (TX.out.below hb5)
          obtain ⟨c0_TX, c1_TX, c2_TX, cl_TX⟩ := TX.out
          clear hP5
          clear hb5
          clear c0_TX c1_TX c2_TX cl_TX
          replace HBW := Lib.hid (chain1 HBW.out (.cells #[.int .i64 i5, .int .u64 p5, .int .u64 q5] 25))
          replace HR := Lib.hid (HR.out.below ((Below.refl _ _).alloc (Nat.le_refl _) (.cells #[.int .i64 i5, .int .u64 p5, .int .u64 q5] 25)))
          replace TX := Lib.hid (TX.out.below ((Below.refl _ _).alloc (Nat.le_refl _) (.cells #[.int .i64 i5, .int .u64 p5, .int .u64 q5] 25)))
          obtain ⟨c0_TX, c1_TX, c2_TX, cl_TX⟩ := TX.out
          go_wp2_with fail
          go_ret
          exact ⟨by first | rfl | (simp; done), HBW.out⟩
set_option maxRecDepth 100000 in
set_option maxHeartbeats 4000000 in
theorem first_no (A : Option Addr) (n c : Nat) (l : List It) (x0 x1 x2 : Int) (hcap : CapOk A n c) (hl : l.length = n) (hc : 100 < n ∨ ¬chkI l) (w : World) (hs : Sees w 3 A n (flat encI l)) :
    Calls Try.prog 8 #[.slice A n c, .agg #[.int .i64 x0, .int .u64 x1, .int .u64 x2]] w fun e w' => e = .returned (.bool true) ∧ Below w.heap.size w w' := by
  have HS := Lib.hid (hs.alloc (.cells #[.int .i64 x0, .int .u64 x1, .int .u64 x2] 25))
  have HBW := Lib.hid (chain1 (Below.refl w.heap.size w) (.cells #[.int .i64 x0, .int .u64 x1, .int .u64 x2] 25))
  have HC := Lib.hid hc
  have HL := Lib.hid hl
  have HCAP := Lib.hid hcap
  clear hs hc hl hcap
  by_cases hn : 100 < n
  · have qn : decide (100 < (n : Int)) = true := by simp; omega
    have qn' : (100 : Int) < (n : Int) := by omega
    go_enter Try.func8, Try.ntmps8
    go_wp2_with fail
    refine (awake14 _).mono ?_
    rintro e w1 ⟨rfl, hb1⟩
    go_wp2_with fail
    go_ret
    exact ⟨by first | rfl | (simp; done), chain HBW.out hb1⟩
  · have CK := fun W (h : Sees W 3 A n (flat encI l)) => checkh_c (.slice A n c) n l W ⟨A, c, rfl, HCAP.out, by omega, HL.out, h⟩
    rw [decide_eq_false (HC.out.resolve_left hn)] at CK
    have qn : decide (100 < (n : Int)) = false := by simp; omega
    have qn' : ¬((100 : Int) < (n : Int)) := by omega
    go_enter Try.func8, Try.ntmps8
    go_wp2_with fail
    refine (awake14 _).mono ?_
    rintro e w1 ⟨rfl, hb1⟩
    go_wp2_with fail
    refine (CK _ (HS.out.below hb1)).mono ?_
    rintro e w2 ⟨rfl, hb2⟩
    go_wp2_with fail
    go_ret
    exact ⟨by first | rfl | (simp; done), chain (chain HBW.out hb1) hb2⟩
theorem walk_HeapFirst (v0 : Value) (x : It) (w : World) (o0 : RowIn encI 3 (fun _ => True) w v0) :
    Calls Try.prog 8 #[v0, .agg (encI x).toArray] w fun e w' => e = .returned (.bool true) ∧ Below w.heap.size w w' := by
  obtain ⟨A, n, c, l, rfl, hcap, _, hl, _, hs⟩ := o0
  obtain ⟨x0, x1, x2⟩ := x
  by_cases h : 100 < n ∨ ¬chkI l
  · exact first_no A n c l x0 x1 x2 hcap hl h w hs
  · exact first_go A n c l x0 x1 x2 (by omega) hcap hl (Classical.byContradiction fun hc => h (.inr hc)) w hs
end Go.Proofs.Try
