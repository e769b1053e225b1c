/- The walk of ArenaTurns. -/
import Derived.Test.YtgphmjhhfcgnaaaDoorL11a
namespace Go.Proofs.Tryd
open Go.RowKit
set_option linter.unusedVariables false
set_option linter.unusedSimpArgs false
theorem has_parts {l : List Sg} {x y : Int} (h : hasL l x y = true) : 0 ≤ x ∧ 0 ≤ y ∧ tkL l x.toNat y.toNat = true := by
  unfold hasL at h
  simp only [Bool.and_eq_true, decide_eq_true_eq] at h
  exact ⟨h.1.1, h.1.2, h.2⟩
theorem fr_has {l : List Sg} {x y : Int} (hc : chkL l) (h : hasL l x y = true) : frR l x y = (delL l x.toNat y.toNat, 0) ∧ chkL (delL l x.toNat y.toNat) ∧ (∀ a b, hasL (delL l x.toNat y.toNat) a b = (hasL l a b && !decide (a = x ∧ b = y))) ∧ tknL (delL l x.toNat y.toNat) ≤ tknL l := by
  obtain ⟨h1, h2, h3⟩ := has_parts h
  obtain ⟨t1, t2, t3⟩ := tk_lt l hc _ _ h3
  refine ⟨by unfold frR; rw [if_pos ⟨hc, h⟩], del_ok l hc _ _ t1 h3, fun a b => ?_, ?_⟩
  · unfold hasL
    by_cases ha : 0 ≤ a
    · by_cases hb : 0 ≤ b
      · rw [del_tk _ _ _ _ _ t1 h3]
        have e : decide (a.toNat = x.toNat ∧ b.toNat = y.toNat) = decide (a = x ∧ b = y) := by
          congr 1
          apply propext
          omega
        rw [e]
        simp [ha, hb]
      · simp [hb]
    · simp [ha]
  · have hk64 : y.toNat < 64 := by have := slN_le (at' l x.toNat).1; omega
    have := tkn_del l _ _ t1 hk64 h3
    omega
theorem fr_no {l : List Sg} {x y : Int} (h : hasL l x y = false) : frR l x y = (l, 120) := by
  unfold frR
  rw [if_neg (by rw [h]; simp)]
theorem turns_all (l : List Sg) (hc : chkL l) (x1 y1 x2 y2 : Int) (hne : ¬(x1 = x2 ∧ y1 = y2)) : ∃ A1 A2 B1 B2 C1 I1, frR l x1 y1 = (A1, A2) ∧ frR A1 x2 y2 = (B1, B2) ∧ frR l x2 y2 = (C1, B2) ∧ frR C1 x1 y1 = (B1, A2) ∧ frR B1 x1 y1 = (I1, 120) ∧ tknL B1 ≤ tknL l ∧ chkL B1 := by
  have d1 : decide (x2 = x1 ∧ y2 = y1) = false := by simp; omega
  have d2 : decide (x1 = x2 ∧ y1 = y2) = false := by simp; omega
  cases h1 : hasL l x1 y1 with
  | false =>
    cases h2 : hasL l x2 y2 with
    | false => exact ⟨l, 120, l, 120, l, l, fr_no h1, fr_no h2, fr_no h2, fr_no h1, fr_no h1, Nat.le_refl _, hc⟩
    | true =>
      obtain ⟨e1, e2, e3, e4⟩ := fr_has hc h2
      have h3 : hasL (delL l x2.toNat y2.toNat) x1 y1 = false := by rw [e3, h1]; rfl
      exact ⟨l, 120, _, 0, _, _, fr_no h1, e1, e1, fr_no h3, fr_no h3, e4, e2⟩
  | true =>
    obtain ⟨e1, e2, e3, e4⟩ := fr_has hc h1
    cases h2 : hasL l x2 y2 with
    | false =>
      have h3 : hasL (delL l x1.toNat y1.toNat) x2 y2 = false := by rw [e3, h2]; rfl
      have h4 : hasL (delL l x1.toNat y1.toNat) x1 y1 = false := by rw [e3, h1]; simp
      exact ⟨_, 0, _, 120, l, _, e1, fr_no h3, fr_no h2, e1, fr_no h4, e4, e2⟩
    | true =>
      obtain ⟨f1, f2, f3, f4⟩ := fr_has hc h2
      have h3 : hasL (delL l x1.toNat y1.toNat) x2 y2 = true := by rw [e3, h2, d1]; rfl
      have h4 : hasL (delL l x2.toNat y2.toNat) x1 y1 = true := by rw [f3, h1, d2]; rfl
      obtain ⟨p1, p2, p3, p4⟩ := fr_has e2 h3
      obtain ⟨q1, q2, q3, q4⟩ := fr_has f2 h4
      obtain ⟨a1, a2, a3⟩ := has_parts h1
      obtain ⟨b1, b2, b3⟩ := has_parts h2
      have hcm := del_comm l hc x1.toNat y1.toNat x2.toNat y2.toNat (by omega) a3 b3
      have h5 : hasL (delL (delL l x1.toNat y1.toNat) x2.toNat y2.toNat) x1 y1 = false := by rw [p3, e3, h1]; simp
      exact ⟨_, 0, _, 0, _, _, e1, p1, f1, by rw [q1, hcm], fr_no h5, by omega, p2⟩
set_option maxRecDepth 100000 in
set_option maxHeartbeats 4000000 in
theorem walk_ArenaTurns (v0 : Value) (x1 y1 x2 y2 : Int) (w1 : (Lit.int .i64 x1).wf = true) (z1 : (Lit.int .i64 y1).wf = true) (w2 : (Lit.int .i64 x2).wf = true) (z2 : (Lit.int .i64 y2).wf = true) (w : World) (hT : Deb w) (o0 : SegIn w v0) :
    Calls Tryd.prog 7 #[v0, .agg #[.int .i64 x1, .int .i64 y1], .agg #[.int .i64 x2, .int .i64 y2]] w fun e w' => e = .returned (.bool true) ∧ Below w.heap.size w w' := by
  obtain ⟨A, n, cc, l, rfl, hcap, hmax, hl, hu, hs⟩ := o0
  clear w1 w2 z1 z2 hmax
  have HT := Lib.hid hT
  clear hT
  by_cases hn : n ≤ 100
  · have hn' : decide (100 < (n : Int)) = false := by simp; omega
    have HL := Lib.hid (segs_of hcap hn hl hu hs)
    clear hcap hu hs hl
    by_cases hc : chkL l
    · have CK := fun W (h : Segs W (.slice A n cc) n l) => chk_c _ n l W h
      rw [decide_eq_true hc] at CK
      by_cases hst : x1 = x2 ∧ y1 = y2
      · obtain ⟨rfl, rfl⟩ := hst
        clear hc
        go_enter Tryd.func7, Tryd.ntmps7
        go_wp2_with fail
        have HBW := Lib.hid (chain1 (Below.refl w.heap.size w) (.cells #[.int .i64 x1, .int .i64 y1] 24))
        replace HT := Lib.hid (HT.out.below ((Below.refl _ _).alloc (Nat.le_refl _) (.cells #[.int .i64 x1, .int .i64 y1] 24)))
        replace HL := Lib.hid (HL.out.below ((Below.refl _ _).alloc (Nat.le_refl _) (.cells #[.int .i64 x1, .int .i64 y1] 24)))
        have Q1 : Hid (pairAt (w.alloc (.cells #[.int .i64 x1, .int .i64 y1] 24)) (w.heap.size) (.int .i64 x1) (.int .i64 y1)) := Lib.hid (pairAt.new' (by simp) _ _ _)
        replace HBW := Lib.hid (chain1 HBW.out (.cells #[.int .i64 x1, .int .i64 y1] 24))
        replace HT := Lib.hid (HT.out.below ((Below.refl _ _).alloc (Nat.le_refl _) (.cells #[.int .i64 x1, .int .i64 y1] 24)))
        replace HL := Lib.hid (HL.out.below ((Below.refl _ _).alloc (Nat.le_refl _) (.cells #[.int .i64 x1, .int .i64 y1] 24)))
        replace Q1 := Lib.hid (Q1.out.below ((Below.refl _ _).alloc (Nat.le_refl _) (.cells #[.int .i64 x1, .int .i64 y1] 24)))
        have Q2 : Hid (pairAt ((w.alloc (.cells #[.int .i64 x1, .int .i64 y1] 24)).alloc (.cells #[.int .i64 x1, .int .i64 y1] 24)) (w.heap.size + 1) (.int .i64 x1) (.int .i64 y1)) := Lib.hid (pairAt.new' (by simp) _ _ _)
        with_reducible refine (awake11 _ HT.out).mono ?_
        rintro e w1 ⟨rfl, hb1⟩
        replace HBW := Lib.hid (chain HBW.out hb1)
        replace HT := Lib.hid (HT.out.below hb1)
        replace HL := Lib.hid (HL.out.below hb1)
        replace Q1 := Lib.hid (Q1.out.below hb1)
        replace Q2 := Lib.hid (Q2.out.below hb1)
        have yQ1 := Q1.out.lt
        obtain ⟨aQ1, bQ1, _, _⟩ := Q1.out
        have yQ2 := Q2.out.lt
        obtain ⟨aQ2, bQ2, _, _⟩ := Q2.out
        clear hb1
        go_wp2_with fail
        with_reducible refine (CK _ HL.out).mono ?_
        rintro e w2 ⟨rfl, hb2⟩
        replace HBW := Lib.hid (chain HBW.out hb2)
        replace HT := Lib.hid (HT.out.below hb2)
        replace HL := Lib.hid (HL.out.below hb2)
        replace Q1 := Lib.hid (Q1.out.below hb2)
        replace Q2 := Lib.hid (Q2.out.below hb2)
        clear yQ1 aQ1 bQ1
        clear yQ2 aQ2 bQ2
        have yQ1 := Q1.out.lt
        obtain ⟨aQ1, bQ1, _, _⟩ := Q1.out
        have yQ2 := Q2.out.lt
        obtain ⟨aQ2, bQ2, _, _⟩ := Q2.out
        clear hb2
        go_wp2_with fail
        go_ret
        exact ⟨by first | rfl | (simp; done), HBW.out⟩
      · obtain ⟨A1, A2, B1, B2, C1, I1, hA, hB, hC, hD, hI, hle, hcB⟩ := turns_all l hc x1 y1 x2 y2 hst
        have FA := fun W (h : Segs W (.slice A n cc) n l) => free_c _ n l x1 y1 _ hA W h
        have FB := fun v W (h : Segs W v n A1) => free_c _ n A1 x2 y2 _ hB W h
        have FC := fun W (h : Segs W (.slice A n cc) n l) => free_c _ n l x2 y2 _ hC W h
        have FD := fun v W (h : Segs W v n C1) => free_c _ n C1 x1 y1 _ hD W h
        have FI := fun v W (h : Segs W v n B1) => free_c _ n B1 x1 y1 _ hI W h
        have SM := fun v v' W (h1 : Segs W v n B1) (h2 : Segs W v' n B1) => sames_c v v' n n B1 B1 W h1 h2
        simp only [decide_true] at SM
        have TB := fun v W (h : Segs W v n B1) => taken_c v n B1 hcB W h
        have TL := fun W (h : Segs W (.slice A n cc) n l) => taken_c _ n l hc W h
        have hle' : ((tknL B1 : Nat) : Int) ≤ ((tknL l : Nat) : Int) := by omega
        clear hA hB hC hD hI hcB hc hle
        generalize tknL B1 = TB1 at *
        generalize tknL l = TL1 at *
        have hx : (x1 == x2) = false ∨ (x1 = x2 ∧ (y1 == y2) = false) := by
          rw [beq_eq_false_iff_ne, beq_eq_false_iff_ne]
          by_cases e : x1 = x2
          · exact .inr ⟨e, fun h => hst ⟨e, h⟩⟩
          · exact .inl e
        clear hst
        rcases hx with hx | ⟨rfl, hx⟩
        · go_enter Tryd.func7, Tryd.ntmps7
          go_wp2_with fail
          have HBW := Lib.hid (chain1 (Below.refl w.heap.size w) (.cells #[.int .i64 x1, .int .i64 y1] 24))
          replace HT := Lib.hid (HT.out.below ((Below.refl _ _).alloc (Nat.le_refl _) (.cells #[.int .i64 x1, .int .i64 y1] 24)))
          replace HL := Lib.hid (HL.out.below ((Below.refl _ _).alloc (Nat.le_refl _) (.cells #[.int .i64 x1, .int .i64 y1] 24)))
          have Q1 : Hid (pairAt (w.alloc (.cells #[.int .i64 x1, .int .i64 y1] 24)) (w.heap.size) (.int .i64 x1) (.int .i64 y1)) := Lib.hid (pairAt.new' (by simp) _ _ _)
          replace HBW := Lib.hid (chain1 HBW.out (.cells #[.int .i64 x2, .int .i64 y2] 24))
          replace HT := Lib.hid (HT.out.below ((Below.refl _ _).alloc (Nat.le_refl _) (.cells #[.int .i64 x2, .int .i64 y2] 24)))
          replace HL := Lib.hid (HL.out.below ((Below.refl _ _).alloc (Nat.le_refl _) (.cells #[.int .i64 x2, .int .i64 y2] 24)))
          replace Q1 := Lib.hid (Q1.out.below ((Below.refl _ _).alloc (Nat.le_refl _) (.cells #[.int .i64 x2, .int .i64 y2] 24)))
          have Q2 : Hid (pairAt ((w.alloc (.cells #[.int .i64 x1, .int .i64 y1] 24)).alloc (.cells #[.int .i64 x2, .int .i64 y2] 24)) (w.heap.size + 1) (.int .i64 x2) (.int .i64 y2)) := Lib.hid (pairAt.new' (by simp) _ _ _)
          with_reducible refine (awake11 _ HT.out).mono ?_
          rintro e w1 ⟨rfl, hb1⟩
          replace HBW := Lib.hid (chain HBW.out hb1)
          replace HT := Lib.hid (HT.out.below hb1)
          replace HL := Lib.hid (HL.out.below hb1)
          replace Q1 := Lib.hid (Q1.out.below hb1)
          replace Q2 := Lib.hid (Q2.out.below hb1)
          have yQ1 := Q1.out.lt
          obtain ⟨aQ1, bQ1, _, _⟩ := Q1.out
          have yQ2 := Q2.out.lt
          obtain ⟨aQ2, bQ2, _, _⟩ := Q2.out
          clear hb1
          go_wp2_with fail
          clear HT
          with_reducible refine (CK _ HL.out).mono ?_
          rintro e w2 ⟨rfl, hb2⟩
          replace HBW := Lib.hid (chain HBW.out hb2)
          replace HL := Lib.hid (HL.out.below hb2)
          replace Q1 := Lib.hid (Q1.out.below hb2)
          replace Q2 := Lib.hid (Q2.out.below hb2)
          clear yQ1 aQ1 bQ1
          clear yQ2 aQ2 bQ2
          have yQ1 := Q1.out.lt
          obtain ⟨aQ1, bQ1, _, _⟩ := Q1.out
          have yQ2 := Q2.out.lt
          obtain ⟨aQ2, bQ2, _, _⟩ := Q2.out
          clear hb2
          go_wp2_with fail
          refine (FA _ HL.out).mono ?_
          rintro e w3 ⟨⟨v3, rfl, ho⟩, hb3⟩
          simp only at ho ⊢
          replace HBW := Lib.hid (chain HBW.out hb3)
          replace HL := Lib.hid (HL.out.below hb3)
          replace Q1 := Lib.hid (Q1.out.below hb3)
          replace Q2 := Lib.hid (Q2.out.below hb3)
          clear yQ1 aQ1 bQ1
          clear yQ2 aQ2 bQ2
          have yQ1 := Q1.out.lt
          obtain ⟨aQ1, bQ1, _, _⟩ := Q1.out
          have yQ2 := Q2.out.lt
          obtain ⟨aQ2, bQ2, _, _⟩ := Q2.out
          have HA := Lib.hid ho.segs
          clear ho
          clear hb3
          go_wp2_with fail
          refine (FB _ _ HA.out).mono ?_
          rintro e w4 ⟨⟨v4, rfl, ho⟩, hb4⟩
          simp only at ho ⊢
          replace HBW := Lib.hid (chain HBW.out hb4)
          replace HL := Lib.hid (HL.out.below hb4)
          replace HA := Lib.hid (HA.out.below hb4)
          replace Q1 := Lib.hid (Q1.out.below hb4)
          replace Q2 := Lib.hid (Q2.out.below hb4)
          clear yQ1 aQ1 bQ1
          clear yQ2 aQ2 bQ2
          have yQ1 := Q1.out.lt
          obtain ⟨aQ1, bQ1, _, _⟩ := Q1.out
          have yQ2 := Q2.out.lt
          obtain ⟨aQ2, bQ2, _, _⟩ := Q2.out
          have HB := Lib.hid ho.segs
          clear ho
          clear hb4
          go_wp2_with fail
          refine (FC _ HL.out).mono ?_
          rintro e w5 ⟨⟨v5, rfl, ho⟩, hb5⟩
          simp only at ho ⊢
          replace HBW := Lib.hid (chain HBW.out hb5)
          replace HL := Lib.hid (HL.out.below hb5)
          replace HA := Lib.hid (HA.out.below hb5)
          replace HB := Lib.hid (HB.out.below hb5)
          replace Q1 := Lib.hid (Q1.out.below hb5)
          replace Q2 := Lib.hid (Q2.out.below hb5)
          clear yQ1 aQ1 bQ1
          clear yQ2 aQ2 bQ2
          have yQ1 := Q1.out.lt
          obtain ⟨aQ1, bQ1, _, _⟩ := Q1.out
          have yQ2 := Q2.out.lt
          obtain ⟨aQ2, bQ2, _, _⟩ := Q2.out
          have HC := Lib.hid ho.segs
          clear ho
          clear hb5
          go_wp2_with fail
          refine (FD _ _ HC.out).mono ?_
          rintro e w6 ⟨⟨v6, rfl, ho⟩, hb6⟩
          simp only at ho ⊢
          replace HBW := Lib.hid (chain HBW.out hb6)
          replace HL := Lib.hid (HL.out.below hb6)
          replace HA := Lib.hid (HA.out.below hb6)
          replace HB := Lib.hid (HB.out.below hb6)
          replace HC := Lib.hid (HC.out.below hb6)
          replace Q1 := Lib.hid (Q1.out.below hb6)
          replace Q2 := Lib.hid (Q2.out.below hb6)
          clear yQ1 aQ1 bQ1
          clear yQ2 aQ2 bQ2
          have yQ1 := Q1.out.lt
          obtain ⟨aQ1, bQ1, _, _⟩ := Q1.out
          have yQ2 := Q2.out.lt
          obtain ⟨aQ2, bQ2, _, _⟩ := Q2.out
          have HD := Lib.hid ho.segs
          clear ho
          clear hb6
          go_wp2_with fail
          refine (FI _ _ HB.out).mono ?_
          rintro e w7 ⟨⟨v7, rfl, ho⟩, hb7⟩
          simp only at ho ⊢
          replace HBW := Lib.hid (chain HBW.out hb7)
          replace HL := Lib.hid (HL.out.below hb7)
          replace HA := Lib.hid (HA.out.below hb7)
          replace HB := Lib.hid (HB.out.below hb7)
          replace HC := Lib.hid (HC.out.below hb7)
          replace HD := Lib.hid (HD.out.below hb7)
          replace Q1 := Lib.hid (Q1.out.below hb7)
          replace Q2 := Lib.hid (Q2.out.below hb7)
          clear yQ1 aQ1 bQ1
          clear yQ2 aQ2 bQ2
          have yQ1 := Q1.out.lt
          obtain ⟨aQ1, bQ1, _, _⟩ := Q1.out
          have yQ2 := Q2.out.lt
          obtain ⟨aQ2, bQ2, _, _⟩ := Q2.out
          have HI := Lib.hid ho.segs
          clear ho
          clear hb7
          go_wp2_with fail
          with_reducible refine (SM _ _ _ HB.out HD.out).mono ?_
          rintro e w8 ⟨rfl, hb8⟩
          replace HBW := Lib.hid (chain HBW.out hb8)
          replace HL := Lib.hid (HL.out.below hb8)
          replace HA := Lib.hid (HA.out.below hb8)
          replace HB := Lib.hid (HB.out.below hb8)
          replace HC := Lib.hid (HC.out.below hb8)
          replace HD := Lib.hid (HD.out.below hb8)
          replace HI := Lib.hid (HI.out.below hb8)
          replace Q1 := Lib.hid (Q1.out.below hb8)
          replace Q2 := Lib.hid (Q2.out.below hb8)
          clear yQ1 aQ1 bQ1
          clear yQ2 aQ2 bQ2
          have yQ1 := Q1.out.lt
          obtain ⟨aQ1, bQ1, _, _⟩ := Q1.out
          have yQ2 := Q2.out.lt
          obtain ⟨aQ2, bQ2, _, _⟩ := Q2.out
          clear hb8
          go_wp2_with fail
          with_reducible refine (TB _ _ HB.out).mono ?_
          rintro e w9 ⟨rfl, hb9⟩
          replace HBW := Lib.hid (chain HBW.out hb9)
          replace HL := Lib.hid (HL.out.below hb9)
          replace HA := Lib.hid (HA.out.below hb9)
          replace HB := Lib.hid (HB.out.below hb9)
          replace HC := Lib.hid (HC.out.below hb9)
          replace HD := Lib.hid (HD.out.below hb9)
          replace HI := Lib.hid (HI.out.below hb9)
          replace Q1 := Lib.hid (Q1.out.below hb9)
          replace Q2 := Lib.hid (Q2.out.below hb9)
          clear yQ1 aQ1 bQ1
          clear yQ2 aQ2 bQ2
          have yQ1 := Q1.out.lt
          obtain ⟨aQ1, bQ1, _, _⟩ := Q1.out
          have yQ2 := Q2.out.lt
          obtain ⟨aQ2, bQ2, _, _⟩ := Q2.out
          clear hb9
          go_wp2_with fail
          with_reducible refine (TL _ HL.out).mono ?_
          rintro e w10 ⟨rfl, hb10⟩
          replace HBW := Lib.hid (chain HBW.out hb10)
          replace HL := Lib.hid (HL.out.below hb10)
          replace HA := Lib.hid (HA.out.below hb10)
          replace HB := Lib.hid (HB.out.below hb10)
          replace HC := Lib.hid (HC.out.below hb10)
          replace HD := Lib.hid (HD.out.below hb10)
          replace HI := Lib.hid (HI.out.below hb10)
          replace Q1 := Lib.hid (Q1.out.below hb10)
          replace Q2 := Lib.hid (Q2.out.below hb10)
          clear yQ1 aQ1 bQ1
          clear yQ2 aQ2 bQ2
          have yQ1 := Q1.out.lt
          obtain ⟨aQ1, bQ1, _, _⟩ := Q1.out
          have yQ2 := Q2.out.lt
          obtain ⟨aQ2, bQ2, _, _⟩ := Q2.out
          clear hb10
          go_wp2_with fail
          go_ret
          exact ⟨by first | rfl | (simp; done), HBW.out⟩
        · go_enter Tryd.func7, Tryd.ntmps7
          go_wp2_with fail
          have HBW := Lib.hid (chain1 (Below.refl w.heap.size w) (.cells #[.int .i64 x1, .int .i64 y1] 24))
          replace HT := Lib.hid (HT.out.below ((Below.refl _ _).alloc (Nat.le_refl _) (.cells #[.int .i64 x1, .int .i64 y1] 24)))
          replace HL := Lib.hid (HL.out.below ((Below.refl _ _).alloc (Nat.le_refl _) (.cells #[.int .i64 x1, .int .i64 y1] 24)))
          have Q1 : Hid (pairAt (w.alloc (.cells #[.int .i64 x1, .int .i64 y1] 24)) (w.heap.size) (.int .i64 x1) (.int .i64 y1)) := Lib.hid (pairAt.new' (by simp) _ _ _)
          replace HBW := Lib.hid (chain1 HBW.out (.cells #[.int .i64 x1, .int .i64 y2] 24))
          replace HT := Lib.hid (HT.out.below ((Below.refl _ _).alloc (Nat.le_refl _) (.cells #[.int .i64 x1, .int .i64 y2] 24)))
          replace HL := Lib.hid (HL.out.below ((Below.refl _ _).alloc (Nat.le_refl _) (.cells #[.int .i64 x1, .int .i64 y2] 24)))
          replace Q1 := Lib.hid (Q1.out.below ((Below.refl _ _).alloc (Nat.le_refl _) (.cells #[.int .i64 x1, .int .i64 y2] 24)))
          have Q2 : Hid (pairAt ((w.alloc (.cells #[.int .i64 x1, .int .i64 y1] 24)).alloc (.cells #[.int .i64 x1, .int .i64 y2] 24)) (w.heap.size + 1) (.int .i64 x1) (.int .i64 y2)) := Lib.hid (pairAt.new' (by simp) _ _ _)
          with_reducible refine (awake11 _ HT.out).mono ?_
          rintro e w1 ⟨rfl, hb1⟩
          replace HBW := Lib.hid (chain HBW.out hb1)
          replace HT := Lib.hid (HT.out.below hb1)
          replace HL := Lib.hid (HL.out.below hb1)
          replace Q1 := Lib.hid (Q1.out.below hb1)
          replace Q2 := Lib.hid (Q2.out.below hb1)
          have yQ1 := Q1.out.lt
          obtain ⟨aQ1, bQ1, _, _⟩ := Q1.out
          have yQ2 := Q2.out.lt
          obtain ⟨aQ2, bQ2, _, _⟩ := Q2.out
          clear hb1
          go_wp2_with fail
          clear HT
          with_reducible refine (CK _ HL.out).mono ?_
          rintro e w2 ⟨rfl, hb2⟩
          replace HBW := Lib.hid (chain HBW.out hb2)
          replace HL := Lib.hid (HL.out.below hb2)
          replace Q1 := Lib.hid (Q1.out.below hb2)
          replace Q2 := Lib.hid (Q2.out.below hb2)
          clear yQ1 aQ1 bQ1
          clear yQ2 aQ2 bQ2
          have yQ1 := Q1.out.lt
          obtain ⟨aQ1, bQ1, _, _⟩ := Q1.out
          have yQ2 := Q2.out.lt
          obtain ⟨aQ2, bQ2, _, _⟩ := Q2.out
          clear hb2
          go_wp2_with fail
          refine (FA _ HL.out).mono ?_
          rintro e w3 ⟨⟨v3, rfl, ho⟩, hb3⟩
          simp only at ho ⊢
          replace HBW := Lib.hid (chain HBW.out hb3)
          replace HL := Lib.hid (HL.out.below hb3)
          replace Q1 := Lib.hid (Q1.out.below hb3)
          replace Q2 := Lib.hid (Q2.out.below hb3)
          clear yQ1 aQ1 bQ1
          clear yQ2 aQ2 bQ2
          have yQ1 := Q1.out.lt
          obtain ⟨aQ1, bQ1, _, _⟩ := Q1.out
          have yQ2 := Q2.out.lt
          obtain ⟨aQ2, bQ2, _, _⟩ := Q2.out
          have HA := Lib.hid ho.segs
          clear ho
          clear hb3
          go_wp2_with fail
          refine (FB _ _ HA.out).mono ?_
          rintro e w4 ⟨⟨v4, rfl, ho⟩, hb4⟩
          simp only at ho ⊢
          replace HBW := Lib.hid (chain HBW.out hb4)
          replace HL := Lib.hid (HL.out.below hb4)
          replace HA := Lib.hid (HA.out.below hb4)
          replace Q1 := Lib.hid (Q1.out.below hb4)
          replace Q2 := Lib.hid (Q2.out.below hb4)
          clear yQ1 aQ1 bQ1
          clear yQ2 aQ2 bQ2
          have yQ1 := Q1.out.lt
          obtain ⟨aQ1, bQ1, _, _⟩ := Q1.out
          have yQ2 := Q2.out.lt
          obtain ⟨aQ2, bQ2, _, _⟩ := Q2.out
          have HB := Lib.hid ho.segs
          clear ho
          clear hb4
          go_wp2_with fail
          refine (FC _ HL.out).mono ?_
          rintro e w5 ⟨⟨v5, rfl, ho⟩, hb5⟩
          simp only at ho ⊢
          replace HBW := Lib.hid (chain HBW.out hb5)
          replace HL := Lib.hid (HL.out.below hb5)
          replace HA := Lib.hid (HA.out.below hb5)
          replace HB := Lib.hid (HB.out.below hb5)
          replace Q1 := Lib.hid (Q1.out.below hb5)
          replace Q2 := Lib.hid (Q2.out.below hb5)
          clear yQ1 aQ1 bQ1
          clear yQ2 aQ2 bQ2
          have yQ1 := Q1.out.lt
          obtain ⟨aQ1, bQ1, _, _⟩ := Q1.out
          have yQ2 := Q2.out.lt
          obtain ⟨aQ2, bQ2, _, _⟩ := Q2.out
          have HC := Lib.hid ho.segs
          clear ho
          clear hb5
          go_wp2_with fail
          refine (FD _ _ HC.out).mono ?_
          rintro e w6 ⟨⟨v6, rfl, ho⟩, hb6⟩
          simp only at ho ⊢
          replace HBW := Lib.hid (chain HBW.out hb6)
          replace HL := Lib.hid (HL.out.below hb6)
          replace HA := Lib.hid (HA.out.below hb6)
          replace HB := Lib.hid (HB.out.below hb6)
          replace HC := Lib.hid (HC.out.below hb6)
          replace Q1 := Lib.hid (Q1.out.below hb6)
          replace Q2 := Lib.hid (Q2.out.below hb6)
          clear yQ1 aQ1 bQ1
          clear yQ2 aQ2 bQ2
          have yQ1 := Q1.out.lt
          obtain ⟨aQ1, bQ1, _, _⟩ := Q1.out
          have yQ2 := Q2.out.lt
          obtain ⟨aQ2, bQ2, _, _⟩ := Q2.out
          have HD := Lib.hid ho.segs
          clear ho
          clear hb6
          go_wp2_with fail
          refine (FI _ _ HB.out).mono ?_
          rintro e w7 ⟨⟨v7, rfl, ho⟩, hb7⟩
          simp only at ho ⊢
          replace HBW := Lib.hid (chain HBW.out hb7)
          replace HL := Lib.hid (HL.out.below hb7)
          replace HA := Lib.hid (HA.out.below hb7)
          replace HB := Lib.hid (HB.out.below hb7)
          replace HC := Lib.hid (HC.out.below hb7)
          replace HD := Lib.hid (HD.out.below hb7)
          replace Q1 := Lib.hid (Q1.out.below hb7)
          replace Q2 := Lib.hid (Q2.out.below hb7)
          clear yQ1 aQ1 bQ1
          clear yQ2 aQ2 bQ2
          have yQ1 := Q1.out.lt
          obtain ⟨aQ1, bQ1, _, _⟩ := Q1.out
          have yQ2 := Q2.out.lt
          obtain ⟨aQ2, bQ2, _, _⟩ := Q2.out
          have HI := Lib.hid ho.segs
          clear ho
          clear hb7
          go_wp2_with fail
          with_reducible refine (SM _ _ _ HB.out HD.out).mono ?_
          rintro e w8 ⟨rfl, hb8⟩
          replace HBW := Lib.hid (chain HBW.out hb8)
          replace HL := Lib.hid (HL.out.below hb8)
          replace HA := Lib.hid (HA.out.below hb8)
          replace HB := Lib.hid (HB.out.below hb8)
          replace HC := Lib.hid (HC.out.below hb8)
          replace HD := Lib.hid (HD.out.below hb8)
          replace HI := Lib.hid (HI.out.below hb8)
          replace Q1 := Lib.hid (Q1.out.below hb8)
          replace Q2 := Lib.hid (Q2.out.below hb8)
          clear yQ1 aQ1 bQ1
          clear yQ2 aQ2 bQ2
          have yQ1 := Q1.out.lt
          obtain ⟨aQ1, bQ1, _, _⟩ := Q1.out
          have yQ2 := Q2.out.lt
          obtain ⟨aQ2, bQ2, _, _⟩ := Q2.out
          clear hb8
          go_wp2_with fail
          with_reducible refine (TB _ _ HB.out).mono ?_
          rintro e w9 ⟨rfl, hb9⟩
          replace HBW := Lib.hid (chain HBW.out hb9)
          replace HL := Lib.hid (HL.out.below hb9)
          replace HA := Lib.hid (HA.out.below hb9)
          replace HB := Lib.hid (HB.out.below hb9)
          replace HC := Lib.hid (HC.out.below hb9)
          replace HD := Lib.hid (HD.out.below hb9)
          replace HI := Lib.hid (HI.out.below hb9)
          replace Q1 := Lib.hid (Q1.out.below hb9)
          replace Q2 := Lib.hid (Q2.out.below hb9)
          clear yQ1 aQ1 bQ1
          clear yQ2 aQ2 bQ2
          have yQ1 := Q1.out.lt
          obtain ⟨aQ1, bQ1, _, _⟩ := Q1.out
          have yQ2 := Q2.out.lt
          obtain ⟨aQ2, bQ2, _, _⟩ := Q2.out
          clear hb9
          go_wp2_with fail
          with_reducible refine (TL _ HL.out).mono ?_
          rintro e w10 ⟨rfl, hb10⟩
          replace HBW := Lib.hid (chain HBW.out hb10)
          replace HL := Lib.hid (HL.out.below hb10)
          replace HA := Lib.hid (HA.out.below hb10)
          replace HB := Lib.hid (HB.out.below hb10)
          replace HC := Lib.hid (HC.out.below hb10)
          replace HD := Lib.hid (HD.out.below hb10)
          replace HI := Lib.hid (HI.out.below hb10)
          replace Q1 := Lib.hid (Q1.out.below hb10)
          replace Q2 := Lib.hid (Q2.out.below hb10)
          clear yQ1 aQ1 bQ1
          clear yQ2 aQ2 bQ2
          have yQ1 := Q1.out.lt
          obtain ⟨aQ1, bQ1, _, _⟩ := Q1.out
          have yQ2 := Q2.out.lt
          obtain ⟨aQ2, bQ2, _, _⟩ := Q2.out
          clear hb10
          go_wp2_with fail
          go_ret
          exact ⟨by first | rfl | (simp; done), HBW.out⟩
    · have CK := fun W (h : Segs W (.slice A n cc) n l) => chk_c _ n l W h
      rw [decide_eq_false hc] at CK
      clear hc
      go_enter Tryd.func7, Tryd.ntmps7
      go_wp2_with fail
      have HBW := Lib.hid (chain1 (Below.refl w.heap.size w) (.cells #[.int .i64 x1, .int .i64 y1] 24))
      replace HT := Lib.hid (HT.out.below ((Below.refl _ _).alloc (Nat.le_refl _) (.cells #[.int .i64 x1, .int .i64 y1] 24)))
      replace HL := Lib.hid (HL.out.below ((Below.refl _ _).alloc (Nat.le_refl _) (.cells #[.int .i64 x1, .int .i64 y1] 24)))
      have Q1 : Hid (pairAt (w.alloc (.cells #[.int .i64 x1, .int .i64 y1] 24)) (w.heap.size) (.int .i64 x1) (.int .i64 y1)) := Lib.hid (pairAt.new' (by simp) _ _ _)
      replace HBW := Lib.hid (chain1 HBW.out (.cells #[.int .i64 x2, .int .i64 y2] 24))
      replace HT := Lib.hid (HT.out.below ((Below.refl _ _).alloc (Nat.le_refl _) (.cells #[.int .i64 x2, .int .i64 y2] 24)))
      replace HL := Lib.hid (HL.out.below ((Below.refl _ _).alloc (Nat.le_refl _) (.cells #[.int .i64 x2, .int .i64 y2] 24)))
      replace Q1 := Lib.hid (Q1.out.below ((Below.refl _ _).alloc (Nat.le_refl _) (.cells #[.int .i64 x2, .int .i64 y2] 24)))
      have Q2 : Hid (pairAt ((w.alloc (.cells #[.int .i64 x1, .int .i64 y1] 24)).alloc (.cells #[.int .i64 x2, .int .i64 y2] 24)) (w.heap.size + 1) (.int .i64 x2) (.int .i64 y2)) := Lib.hid (pairAt.new' (by simp) _ _ _)
      with_reducible refine (awake11 _ HT.out).mono ?_
      rintro e w1 ⟨rfl, hb1⟩
      replace HBW := Lib.hid (chain HBW.out hb1)
      replace HT := Lib.hid (HT.out.below hb1)
      replace HL := Lib.hid (HL.out.below hb1)
      replace Q1 := Lib.hid (Q1.out.below hb1)
      replace Q2 := Lib.hid (Q2.out.below hb1)
      clear hb1
      go_wp2_with fail
      with_reducible refine (CK _ HL.out).mono ?_
      rintro e w2 ⟨rfl, hb2⟩
      replace HBW := Lib.hid (chain HBW.out hb2)
      replace HT := Lib.hid (HT.out.below hb2)
      replace HL := Lib.hid (HL.out.below hb2)
      replace Q1 := Lib.hid (Q1.out.below hb2)
      replace Q2 := Lib.hid (Q2.out.below hb2)
      clear hb2
      go_wp2_with fail
      go_ret
      exact ⟨by first | rfl | (simp; done), HBW.out⟩
  · have hn' : (100 : Int) < (n : Int) := by omega
    clear hcap hl hu hs
    go_enter Tryd.func7, Tryd.ntmps7
    go_wp2_with fail
    have HBW := Lib.hid (chain1 (Below.refl w.heap.size w) (.cells #[.int .i64 x1, .int .i64 y1] 24))
    replace HT := Lib.hid (HT.out.below ((Below.refl _ _).alloc (Nat.le_refl _) (.cells #[.int .i64 x1, .int .i64 y1] 24)))
    have Q1 : Hid (pairAt (w.alloc (.cells #[.int .i64 x1, .int .i64 y1] 24)) (w.heap.size) (.int .i64 x1) (.int .i64 y1)) := Lib.hid (pairAt.new' (by simp) _ _ _)
    replace HBW := Lib.hid (chain1 HBW.out (.cells #[.int .i64 x2, .int .i64 y2] 24))
    replace HT := Lib.hid (HT.out.below ((Below.refl _ _).alloc (Nat.le_refl _) (.cells #[.int .i64 x2, .int .i64 y2] 24)))
    replace Q1 := Lib.hid (Q1.out.below ((Below.refl _ _).alloc (Nat.le_refl _) (.cells #[.int .i64 x2, .int .i64 y2] 24)))
    have Q2 : Hid (pairAt ((w.alloc (.cells #[.int .i64 x1, .int .i64 y1] 24)).alloc (.cells #[.int .i64 x2, .int .i64 y2] 24)) (w.heap.size + 1) (.int .i64 x2) (.int .i64 y2)) := Lib.hid (pairAt.new' (by simp) _ _ _)
    with_reducible refine (awake11 _ HT.out).mono ?_
    rintro e w1 ⟨rfl, hb1⟩
    replace HBW := Lib.hid (chain HBW.out hb1)
    replace HT := Lib.hid (HT.out.below hb1)
    replace Q1 := Lib.hid (Q1.out.below hb1)
    replace Q2 := Lib.hid (Q2.out.below hb1)
    clear hb1
    go_wp2_with fail
    go_ret
    exact ⟨by first | rfl | (simp; done), HBW.out⟩
end Go.Proofs.Tryd
