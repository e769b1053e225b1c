/- The laws of layer 11: Take and Free whole; awake. -/
import Derived.Test.YtempamkacnjhjaaDoorAr9
namespace Go.Proofs.Tryd
open Go.RowKit
set_option linter.unusedVariables false
set_option linter.unusedSimpArgs false
theorem take_c (v : Value) (n : Nat) (l : List Sg) (c : Int) (R : List Sg × Int × Int × Int) (hR : tkR l c = R) (w : World) (h : Segs w v n l) (hT : Deb w) :
    Calls Tryd.prog 7 #[v, .int .i64 c] w (TakeR R n w) := by
  subst hR
  unfold tkR
  by_cases hc : chkL l
  · rw [if_pos hc]
    by_cases hk : slN c = 0
    · rw [if_pos hk]
      exact take_size v n l c hc hk w h
    · rw [if_neg hk]
      cases hs : seekL l c with
      | none => exact take_room v n l c hc hk hs w h hT
      | some p => exact take_ok v n l c p.1 p.2 hc hk hs w h hT
  · rw [if_neg hc]
    exact take_no v n l c hc w h
theorem free_c (v : Value) (n : Nat) (l : List Sg) (i k : Int) (R : List Sg × Int) (hR : frR l i k = R) (w : World) (h : Segs w v n l) :
    Calls Tryd.prog 6 #[v, .agg #[.int .i64 i, .int .i64 k]] w (FreeR R n w) := by
  subst hR
  unfold frR
  by_cases hc : chkL l ∧ hasL l i k = true
  · rw [if_pos hc]
    obtain ⟨h1, h2⟩ := hc
    have hik : 0 ≤ i ∧ 0 ≤ k ∧ tkL l i.toNat k.toNat = true := by
      unfold hasL at h2
      simp only [Bool.and_eq_true, decide_eq_true_eq] at h2
      exact ⟨h2.1.1, h2.1.2, h2.2⟩
    have := free_ok v n l i.toNat k.toNat h1 hik.2.2 w h
    rwa [Int.toNat_of_nonneg hik.1, Int.toNat_of_nonneg hik.2.1] at this
  · rw [if_neg hc]
    refine free_no v n l i k ?_ w h
    rw [Bool.and_eq_false_iff, decide_eq_false_iff_not]
    by_cases h1 : chkL l
    · right
      cases hh : hasL l i k with
      | false => rfl
      | true => exact absurd ⟨h1, hh⟩ hc
    · exact .inl h1
theorem segs_new (w : World) (x : Int) (u : Nat) (hu : u < 18446744073709551616) (T : TypeId) : Segs (w.alloc (.cells #[.int .i64 x, .int .u64 (u : Int)] T)) (.slice (some ⟨w.heap.size, 0, none⟩) 1 1) 1 [(x, u)] :=
  ⟨_, 1, rfl, cap_some (by omega), by omega, rfl, fun j => by
    unfold at'
    cases j with
    | zero => exact hu
    | succ j => simp, Sees.two w _ _ T⟩
def rowG (W : World) (g : Nat) (l : List Sg) : Prop := rowS W g l ∧ g < W.heap.size
theorem rowG.below {W W' : World} {g : Nat} {l : List Sg} (h : rowG W g l) (hb : Below W.heap.size W W') : rowG W' g l := ⟨h.1.below hb h.2, Nat.lt_of_lt_of_le h.2 hb.size⟩
set_option maxRecDepth 100000 in
set_option maxHeartbeats 4000000 in
theorem awake11 (w : World) (hT : Deb w) :
    Calls Tryd.prog 4 #[] w fun r w' => r = .returned (.bool true) ∧ Below w.heap.size w w' := by
  have N2 := fun w => new_c 2 (by omega) w
  rw [show ((2 : Nat) : Int) = 2 from rfl] at N2
  have C136 := fun v w (h : Segs w v 2 [(3, 3), (0, 1)]) => taken_c v 2 [(3, 3), (0, 1)] (by decide +kernel) w h
  rw [show ((tknL [(3, 3), (0, 1)] : Nat) : Int) = 136 by decide +kernel] at C136
  have C1024 := fun v w (h : Segs w v 2 [(3, 3), (0, 1)]) => held_c v 2 [(3, 3), (0, 1)] (by decide +kernel) w h
  rw [show ((heldL [(3, 3), (0, 1)] : Nat) : Int) = 1024 by decide +kernel] at C1024
  have CH1 := fun v w (h : Segs w v 2 [(3, 3), (0, 1)]) => has_c v 2 [(3, 3), (0, 1)] 0 1 w h
  rw [show (decide (chkL [(3, 3), (0, 1)]) && hasL [(3, 3), (0, 1)] 0 1) = true by decide +kernel] at CH1
  have CH2 := fun v w (h : Segs w v 2 [(3, 3), (-1, 0)]) => has_c v 2 [(3, 3), (-1, 0)] 1 0 w h
  rw [show (decide (chkL [(3, 3), (-1, 0)]) && hasL [(3, 3), (-1, 0)] 1 0) = false by decide +kernel] at CH2
  have CK1 := fun v w (h : Segs w v 2 [(3, 3), (0, 1)]) => chk_c v 2 [(3, 3), (0, 1)] w h
  rw [show decide (chkL [(3, 3), (0, 1)]) = true by decide +kernel] at CK1
  have CK2 := fun w => chk_c _ 1 [(0, 0)] _ (segs_new w 0 0 (by omega) 44)
  rw [show decide (chkL [(0, 0)]) = false by decide +kernel] at CK2
  simp only [show ((0 : Nat) : Int) = 0 from rfl] at CK2
  have HT := Lib.hid hT
  clear hT
  go_enter Tryd.func4, Tryd.ntmps4
  go_wp2_with fail
  with_reducible refine (N2 _).mono ?_
  rintro e w1 ⟨⟨v1, rfl, ho⟩, hb1⟩
  have HBW := Lib.hid hb1
  replace HT := Lib.hid (HT.out.below hb1)
  have HS1 : Hid (Segs w1 v1 2 [(-1, 0), (-1, 0)]) := Lib.hid ho.segs
  clear ho
  clear hb1
  go_wp2_with fail
  refine (take_c v1 2 [(-1, 0), (-1, 0)] 3 ([(3, 1), (-1, 0)], 0, 0, 0) (by decide +kernel) _ HS1.out HT.out).mono ?_
  rintro e w2 ⟨⟨v2, rfl, ho⟩, hb2⟩
  simp only at ho ⊢
  replace HBW := Lib.hid (chain HBW.out hb2)
  replace HT := Lib.hid (HT.out.below hb2)
  replace HS1 := Lib.hid (HS1.out.below hb2)
  have HS2 : Hid (Segs w2 v2 2 [(3, 1), (-1, 0)]) := Lib.hid ho.segs
  clear ho
  clear hb2
  go_wp2_with fail
  replace HBW := Lib.hid (chain1 HBW.out (.cells #[.int .i64 0, .int .i64 0] 34))
  replace HT := Lib.hid (HT.out.below ((Below.refl _ _).alloc (Nat.le_refl _) (.cells #[.int .i64 0, .int .i64 0] 34)))
  replace HS1 := Lib.hid (HS1.out.below ((Below.refl _ _).alloc (Nat.le_refl _) (.cells #[.int .i64 0, .int .i64 0] 34)))
  replace HS2 := Lib.hid (HS2.out.below ((Below.refl _ _).alloc (Nat.le_refl _) (.cells #[.int .i64 0, .int .i64 0] 34)))
  have Qa := Lib.hid (pairAt.new w2 (.int .i64 0) (.int .i64 0) 34)
  refine (take_c v2 2 [(3, 1), (-1, 0)] 0 ([(3, 1), (0, 1)], 1, 0, 0) (by decide +kernel) _ HS2.out HT.out).mono ?_
  rintro e w3 ⟨⟨v3, rfl, ho⟩, hb3⟩
  simp only at ho ⊢
  replace HBW := Lib.hid (chain HBW.out hb3)
  replace HT := Lib.hid (HT.out.below hb3)
  replace HS1 := Lib.hid (HS1.out.below hb3)
  replace HS2 := Lib.hid (HS2.out.below hb3)
  replace Qa := Lib.hid (Qa.out.below hb3)
  have yQa := Qa.out.lt
  obtain ⟨aQa, bQa, _, _⟩ := Qa.out
  have HS3 : Hid (Segs w3 v3 2 [(3, 1), (0, 1)]) := Lib.hid ho.segs
  clear ho
  clear hb3
  go_wp2_with fail
  replace HBW := Lib.hid (chain1 HBW.out (.cells #[.int .i64 1, .int .i64 0] 34))
  replace HT := Lib.hid (HT.out.below ((Below.refl _ _).alloc (Nat.le_refl _) (.cells #[.int .i64 1, .int .i64 0] 34)))
  replace HS1 := Lib.hid (HS1.out.below ((Below.refl _ _).alloc (Nat.le_refl _) (.cells #[.int .i64 1, .int .i64 0] 34)))
  replace HS2 := Lib.hid (HS2.out.below ((Below.refl _ _).alloc (Nat.le_refl _) (.cells #[.int .i64 1, .int .i64 0] 34)))
  replace HS3 := Lib.hid (HS3.out.below ((Below.refl _ _).alloc (Nat.le_refl _) (.cells #[.int .i64 1, .int .i64 0] 34)))
  replace Qa := Lib.hid (Qa.out.below ((Below.refl _ _).alloc (Nat.le_refl _) (.cells #[.int .i64 1, .int .i64 0] 34)))
  have Qb := Lib.hid (pairAt.new w3 (.int .i64 1) (.int .i64 0) 34)
  refine (take_c v3 2 [(3, 1), (0, 1)] 3 ([(3, 3), (0, 1)], 0, 1, 0) (by decide +kernel) _ HS3.out HT.out).mono ?_
  rintro e w4 ⟨⟨v4, rfl, ho⟩, hb4⟩
  simp only at ho ⊢
  replace HBW := Lib.hid (chain HBW.out hb4)
  replace HT := Lib.hid (HT.out.below hb4)
  replace HS1 := Lib.hid (HS1.out.below hb4)
  replace HS2 := Lib.hid (HS2.out.below hb4)
  replace HS3 := Lib.hid (HS3.out.below hb4)
  replace Qa := Lib.hid (Qa.out.below hb4)
  replace Qb := Lib.hid (Qb.out.below hb4)
  clear yQa aQa bQa
  have yQa := Qa.out.lt
  obtain ⟨aQa, bQa, _, _⟩ := Qa.out
  have yQb := Qb.out.lt
  obtain ⟨aQb, bQb, _, _⟩ := Qb.out
  have HS4 : Hid (Segs w4 v4 2 [(3, 3), (0, 1)]) := Lib.hid ho.segs
  clear ho
  clear hb4
  go_wp2_with fail
  replace HBW := Lib.hid (chain1 HBW.out (.cells #[.int .i64 0, .int .i64 1] 34))
  replace HT := Lib.hid (HT.out.below ((Below.refl _ _).alloc (Nat.le_refl _) (.cells #[.int .i64 0, .int .i64 1] 34)))
  replace HS1 := Lib.hid (HS1.out.below ((Below.refl _ _).alloc (Nat.le_refl _) (.cells #[.int .i64 0, .int .i64 1] 34)))
  replace HS2 := Lib.hid (HS2.out.below ((Below.refl _ _).alloc (Nat.le_refl _) (.cells #[.int .i64 0, .int .i64 1] 34)))
  replace HS3 := Lib.hid (HS3.out.below ((Below.refl _ _).alloc (Nat.le_refl _) (.cells #[.int .i64 0, .int .i64 1] 34)))
  replace HS4 := Lib.hid (HS4.out.below ((Below.refl _ _).alloc (Nat.le_refl _) (.cells #[.int .i64 0, .int .i64 1] 34)))
  replace Qa := Lib.hid (Qa.out.below ((Below.refl _ _).alloc (Nat.le_refl _) (.cells #[.int .i64 0, .int .i64 1] 34)))
  replace Qb := Lib.hid (Qb.out.below ((Below.refl _ _).alloc (Nat.le_refl _) (.cells #[.int .i64 0, .int .i64 1] 34)))
  have Qc := Lib.hid (pairAt.new w4 (.int .i64 0) (.int .i64 1) 34)
  clear HS1
  clear HS2
  clear HS3
  refine (take_c v4 2 [(3, 3), (0, 1)] 1 ([(3, 3), (0, 1)], 0, 0, 110) (by decide +kernel) _ HS4.out HT.out).mono ?_
  rintro e w5 ⟨⟨v5, rfl, ho⟩, hb5⟩
  simp only at ho ⊢
  replace HBW := Lib.hid (chain HBW.out hb5)
  replace HT := Lib.hid (HT.out.below hb5)
  replace HS4 := Lib.hid (HS4.out.below hb5)
  replace Qa := Lib.hid (Qa.out.below hb5)
  replace Qb := Lib.hid (Qb.out.below hb5)
  replace Qc := Lib.hid (Qc.out.below hb5)
  clear yQa aQa bQa
  clear yQb aQb bQb
  have yQa := Qa.out.lt
  obtain ⟨aQa, bQa, _, _⟩ := Qa.out
  have yQb := Qb.out.lt
  obtain ⟨aQb, bQb, _, _⟩ := Qb.out
  have yQc := Qc.out.lt
  obtain ⟨aQc, bQc, _, _⟩ := Qc.out
  have HS5 : Hid (Segs w5 v5 2 [(3, 3), (0, 1)]) := Lib.hid ho.segs
  clear ho
  clear hb5
  go_wp2_with fail
  replace HBW := Lib.hid (chain1 HBW.out (.cells #[.int .i64 0, .int .i64 0] 34))
  replace HT := Lib.hid (HT.out.below ((Below.refl _ _).alloc (Nat.le_refl _) (.cells #[.int .i64 0, .int .i64 0] 34)))
  replace HS4 := Lib.hid (HS4.out.below ((Below.refl _ _).alloc (Nat.le_refl _) (.cells #[.int .i64 0, .int .i64 0] 34)))
  replace HS5 := Lib.hid (HS5.out.below ((Below.refl _ _).alloc (Nat.le_refl _) (.cells #[.int .i64 0, .int .i64 0] 34)))
  replace Qa := Lib.hid (Qa.out.below ((Below.refl _ _).alloc (Nat.le_refl _) (.cells #[.int .i64 0, .int .i64 0] 34)))
  replace Qb := Lib.hid (Qb.out.below ((Below.refl _ _).alloc (Nat.le_refl _) (.cells #[.int .i64 0, .int .i64 0] 34)))
  replace Qc := Lib.hid (Qc.out.below ((Below.refl _ _).alloc (Nat.le_refl _) (.cells #[.int .i64 0, .int .i64 0] 34)))
  have Qd := Lib.hid (pairAt.new w5 (.int .i64 0) (.int .i64 0) 34)
  refine (take_c v4 2 [(3, 3), (0, 1)] 4 ([(3, 3), (0, 1)], 0, 0, 100) (by decide +kernel) _ HS4.out HT.out).mono ?_
  rintro e w6 ⟨⟨v6, rfl, ho⟩, hb6⟩
  simp only at ho ⊢
  replace HBW := Lib.hid (chain HBW.out hb6)
  replace HT := Lib.hid (HT.out.below hb6)
  replace HS4 := Lib.hid (HS4.out.below hb6)
  replace HS5 := Lib.hid (HS5.out.below hb6)
  replace Qa := Lib.hid (Qa.out.below hb6)
  replace Qb := Lib.hid (Qb.out.below hb6)
  replace Qc := Lib.hid (Qc.out.below hb6)
  replace Qd := Lib.hid (Qd.out.below hb6)
  clear yQa aQa bQa
  clear yQb aQb bQb
  clear yQc aQc bQc
  have yQa := Qa.out.lt
  obtain ⟨aQa, bQa, _, _⟩ := Qa.out
  have yQb := Qb.out.lt
  obtain ⟨aQb, bQb, _, _⟩ := Qb.out
  have yQc := Qc.out.lt
  obtain ⟨aQc, bQc, _, _⟩ := Qc.out
  have yQd := Qd.out.lt
  obtain ⟨aQd, bQd, _, _⟩ := Qd.out
  have HS6 : Hid (Segs w6 v6 2 [(3, 3), (0, 1)]) := Lib.hid ho.segs
  clear ho
  clear hb6
  go_wp2_with fail
  replace HBW := Lib.hid (chain1 HBW.out (.cells #[.int .i64 0, .int .i64 0] 34))
  replace HT := Lib.hid (HT.out.below ((Below.refl _ _).alloc (Nat.le_refl _) (.cells #[.int .i64 0, .int .i64 0] 34)))
  replace HS4 := Lib.hid (HS4.out.below ((Below.refl _ _).alloc (Nat.le_refl _) (.cells #[.int .i64 0, .int .i64 0] 34)))
  replace HS5 := Lib.hid (HS5.out.below ((Below.refl _ _).alloc (Nat.le_refl _) (.cells #[.int .i64 0, .int .i64 0] 34)))
  replace HS6 := Lib.hid (HS6.out.below ((Below.refl _ _).alloc (Nat.le_refl _) (.cells #[.int .i64 0, .int .i64 0] 34)))
  replace Qa := Lib.hid (Qa.out.below ((Below.refl _ _).alloc (Nat.le_refl _) (.cells #[.int .i64 0, .int .i64 0] 34)))
  replace Qb := Lib.hid (Qb.out.below ((Below.refl _ _).alloc (Nat.le_refl _) (.cells #[.int .i64 0, .int .i64 0] 34)))
  replace Qc := Lib.hid (Qc.out.below ((Below.refl _ _).alloc (Nat.le_refl _) (.cells #[.int .i64 0, .int .i64 0] 34)))
  replace Qd := Lib.hid (Qd.out.below ((Below.refl _ _).alloc (Nat.le_refl _) (.cells #[.int .i64 0, .int .i64 0] 34)))
  have Qe := Lib.hid (pairAt.new w6 (.int .i64 0) (.int .i64 0) 34)
  refine (free_c v4 2 [(3, 3), (0, 1)] 1 0 ([(3, 3), (-1, 0)], 0) (by decide +kernel) _ HS4.out).mono ?_
  rintro e w7 ⟨⟨v7, rfl, ho⟩, hb7⟩
  simp only at ho ⊢
  replace HBW := Lib.hid (chain HBW.out hb7)
  replace HT := Lib.hid (HT.out.below hb7)
  replace HS4 := Lib.hid (HS4.out.below hb7)
  replace HS5 := Lib.hid (HS5.out.below hb7)
  replace HS6 := Lib.hid (HS6.out.below hb7)
  replace Qa := Lib.hid (Qa.out.below hb7)
  replace Qb := Lib.hid (Qb.out.below hb7)
  replace Qc := Lib.hid (Qc.out.below hb7)
  replace Qd := Lib.hid (Qd.out.below hb7)
  replace Qe := Lib.hid (Qe.out.below hb7)
  clear yQa aQa bQa
  clear yQb aQb bQb
  clear yQc aQc bQc
  clear yQd aQd bQd
  have yQa := Qa.out.lt
  obtain ⟨aQa, bQa, _, _⟩ := Qa.out
  have yQb := Qb.out.lt
  obtain ⟨aQb, bQb, _, _⟩ := Qb.out
  have yQc := Qc.out.lt
  obtain ⟨aQc, bQc, _, _⟩ := Qc.out
  have yQd := Qd.out.lt
  obtain ⟨aQd, bQd, _, _⟩ := Qd.out
  have yQe := Qe.out.lt
  obtain ⟨aQe, bQe, _, _⟩ := Qe.out
  have HS7 : Hid (Segs w7 v7 2 [(3, 3), (-1, 0)]) := Lib.hid ho.segs
  obtain ⟨_, _, _, hd⟩ := ho
  rcases hd with ⟨h0, _⟩ | ⟨g, cc, rfl, hcc, _, hg2, hrow⟩
  · omega
  have HR := Lib.hid (show rowG w7 g [(3, 3), (-1, 0)] from ⟨hrow, hg2⟩)
  clear hrow hg2
  clear hb7
  go_wp2_with fail
  clear HT
  clear HS5
  clear HS6
  clear Qd
  clear yQd aQd bQd
  clear Qe
  clear yQe aQe bQe
  refine (free_c _ 2 [(3, 3), (-1, 0)] 1 0 ([(3, 3), (-1, 0)], 120) (by decide +kernel) _ HS7.out).mono ?_
  rintro e w8 ⟨⟨v8, rfl, ho⟩, hb8⟩
  simp only at ho ⊢
  clear ho
  replace HBW := Lib.hid (chain HBW.out hb8)
  replace HS4 := Lib.hid (HS4.out.below hb8)
  replace HS7 := Lib.hid (HS7.out.below hb8)
  replace HR := Lib.hid (HR.out.below hb8)
  replace Qa := Lib.hid (Qa.out.below hb8)
  replace Qb := Lib.hid (Qb.out.below hb8)
  replace Qc := Lib.hid (Qc.out.below hb8)
  clear yQa aQa bQa
  clear yQb aQb bQb
  clear yQc aQc bQc
  have yQa := Qa.out.lt
  obtain ⟨aQa, bQa, _, _⟩ := Qa.out
  have yQb := Qb.out.lt
  obtain ⟨aQb, bQb, _, _⟩ := Qb.out
  have yQc := Qc.out.lt
  obtain ⟨aQc, bQc, _, _⟩ := Qc.out
  clear hb8
  go_wp2_with fail
  with_reducible refine (new_no 201 (by omega) _).mono ?_
  rintro e w' ⟨rfl, rfl⟩
  obtain ⟨⟨r0, r1⟩, _, _⟩ := HR.out.1 0 (by decide)
  obtain ⟨⟨r2, r3⟩, _, _⟩ := HR.out.1 1 (by decide)
  have hgl := HR.out.2
  simp only [at', List.getD_eq_getElem?_getD, List.getElem?_cons_zero, List.getElem?_cons_succ, Option.getD_some] at r0 r1 r2 r3
  go_wp2_with fail
  clear r0 r1 r2 r3 hgl
  clear HR
  clear Qa
  clear yQa aQa bQa
  with_reducible refine (C136 _ _ HS4.out).mono ?_
  rintro e w9 ⟨rfl, hb9⟩
  replace HBW := Lib.hid (chain HBW.out hb9)
  replace HS4 := Lib.hid (HS4.out.below hb9)
  replace HS7 := Lib.hid (HS7.out.below hb9)
  replace Qb := Lib.hid (Qb.out.below hb9)
  replace Qc := Lib.hid (Qc.out.below hb9)
  clear yQb aQb bQb
  clear yQc aQc bQc
  have yQb := Qb.out.lt
  obtain ⟨aQb, bQb, _, _⟩ := Qb.out
  have yQc := Qc.out.lt
  obtain ⟨aQc, bQc, _, _⟩ := Qc.out
  clear hb9
  go_wp2_with fail
  with_reducible refine (C1024 _ _ HS4.out).mono ?_
  rintro e w10 ⟨rfl, hb10⟩
  replace HBW := Lib.hid (chain HBW.out hb10)
  replace HS4 := Lib.hid (HS4.out.below hb10)
  replace HS7 := Lib.hid (HS7.out.below hb10)
  replace Qb := Lib.hid (Qb.out.below hb10)
  replace Qc := Lib.hid (Qc.out.below hb10)
  clear yQb aQb bQb
  clear yQc aQc bQc
  have yQb := Qb.out.lt
  obtain ⟨aQb, bQb, _, _⟩ := Qb.out
  have yQc := Qc.out.lt
  obtain ⟨aQc, bQc, _, _⟩ := Qc.out
  clear hb10
  go_wp2_with fail
  with_reducible refine (CH1 _ _ HS4.out).mono ?_
  rintro e w11 ⟨rfl, hb11⟩
  replace HBW := Lib.hid (chain HBW.out hb11)
  replace HS4 := Lib.hid (HS4.out.below hb11)
  replace HS7 := Lib.hid (HS7.out.below hb11)
  replace Qb := Lib.hid (Qb.out.below hb11)
  replace Qc := Lib.hid (Qc.out.below hb11)
  clear yQb aQb bQb
  clear yQc aQc bQc
  have yQb := Qb.out.lt
  obtain ⟨aQb, bQb, _, _⟩ := Qb.out
  have yQc := Qc.out.lt
  obtain ⟨aQc, bQc, _, _⟩ := Qc.out
  clear hb11
  go_wp2_with fail
  with_reducible refine (CH2 _ _ HS7.out).mono ?_
  rintro e w12 ⟨rfl, hb12⟩
  replace HBW := Lib.hid (chain HBW.out hb12)
  replace HS4 := Lib.hid (HS4.out.below hb12)
  replace HS7 := Lib.hid (HS7.out.below hb12)
  replace Qb := Lib.hid (Qb.out.below hb12)
  replace Qc := Lib.hid (Qc.out.below hb12)
  clear yQb aQb bQb
  clear yQc aQc bQc
  have yQb := Qb.out.lt
  obtain ⟨aQb, bQb, _, _⟩ := Qb.out
  have yQc := Qc.out.lt
  obtain ⟨aQc, bQc, _, _⟩ := Qc.out
  clear hb12
  go_wp2_with fail
  with_reducible refine (CK1 _ _ HS4.out).mono ?_
  rintro e w13 ⟨rfl, hb13⟩
  replace HBW := Lib.hid (chain HBW.out hb13)
  replace HS4 := Lib.hid (HS4.out.below hb13)
  replace HS7 := Lib.hid (HS7.out.below hb13)
  replace Qb := Lib.hid (Qb.out.below hb13)
  replace Qc := Lib.hid (Qc.out.below hb13)
  clear yQb aQb bQb
  clear yQc aQc bQc
  have yQb := Qb.out.lt
  obtain ⟨aQb, bQb, _, _⟩ := Qb.out
  have yQc := Qc.out.lt
  obtain ⟨aQc, bQc, _, _⟩ := Qc.out
  clear hb13
  go_wp2_with fail
  replace HBW := Lib.hid (chain1 HBW.out (.cells #[.int .i64 0, .int .u64 0] 44))
  replace HS4 := Lib.hid (HS4.out.below ((Below.refl _ _).alloc (Nat.le_refl _) (.cells #[.int .i64 0, .int .u64 0] 44)))
  replace HS7 := Lib.hid (HS7.out.below ((Below.refl _ _).alloc (Nat.le_refl _) (.cells #[.int .i64 0, .int .u64 0] 44)))
  replace Qb := Lib.hid (Qb.out.below ((Below.refl _ _).alloc (Nat.le_refl _) (.cells #[.int .i64 0, .int .u64 0] 44)))
  replace Qc := Lib.hid (Qc.out.below ((Below.refl _ _).alloc (Nat.le_refl _) (.cells #[.int .i64 0, .int .u64 0] 44)))
  have HC9 := CK2 w13
  with_reducible refine (HC9).mono ?_
  rintro e w14 ⟨rfl, hb14⟩
  replace HBW := Lib.hid (chain HBW.out hb14)
  replace HS4 := Lib.hid (HS4.out.below hb14)
  replace HS7 := Lib.hid (HS7.out.below hb14)
  replace Qb := Lib.hid (Qb.out.below hb14)
  replace Qc := Lib.hid (Qc.out.below hb14)
  clear yQb aQb bQb
  clear yQc aQc bQc
  have yQb := Qb.out.lt
  obtain ⟨aQb, bQb, _, _⟩ := Qb.out
  have yQc := Qc.out.lt
  obtain ⟨aQc, bQc, _, _⟩ := Qc.out
  clear hb14
  go_wp2_with fail
  go_ret
  exact ⟨by first | rfl | (simp; done), HBW.out⟩
end Go.Proofs.Tryd
