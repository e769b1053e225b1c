/- linhayref14.Same; awake of layer 14. -/
import Derived.Test.YtgkiijpheigpjaaHpH
import Derived.Test.YtgkiijpheigpjaaHpI
namespace Go.Proofs.Try
open Go.RowKit
set_option linter.unusedVariables false
set_option linter.unusedSimpArgs false
theorem atI_ext {a b : List It} (h : a.length = b.length) (k : ∀ j, j < a.length → atI a j = atI b j) : a = b := by
  apply List.ext_getElem h
  intro i h1 h2
  have := k i h1
  unfold atI at this
  rwa [List.getD_eq_getElem?_getD, List.getD_eq_getElem?_getD, List.getElem?_eq_getElem h1, List.getElem?_eq_getElem h2] at this
set_option maxRecDepth 100000 in
set_option maxHeartbeats 4000000 in
theorem sameI_c (v1 v2 : Value) (n m : Nat) (a b : List It) (w : World) (h1 : Rows encI 3 w v1 n a) (h2 : Rows encI 3 w v2 m b) :
    Calls Try.prog 24 #[v1, v2] w fun e w' => e = .returned (.bool (decide (a = b))) ∧ Below w.heap.size w w' := by
  obtain ⟨A, c1, rfl, _, hn, hl1, hs1⟩ := h1
  obtain ⟨B, c2, rfl, _, hm, hl2, hs2⟩ := h2
  have HS1 := Lib.hid hs1
  have HS2 := Lib.hid hs2
  have HL1 := Lib.hid hl1
  have HL2 := Lib.hid hl2
  by_cases hnm : n = m
  · subst hnm
    clear hs1 hs2 hl1 hl2
    go_enter Try.func24, Try.ntmps24
    go_wp2_with fail
    go_loopw [5] (fun i wr => ∃ k : Nat, k ≤ n ∧ i = .int .i64 k ∧ Hid (∀ j, j < k → atI a j = atI b j) ∧ Below w.heap.size w wr) (fun i _ => n - (intOf i).toNat)
    case atStart => exact ⟨0, by omega, rfl, Lib.hid (fun j hj => by omega), Below.refl _ _⟩
    case round =>
      obtain ⟨k, hk, rfl, HE, hb⟩ := hrel
      have HB := Lib.hid hb
      clear hb
      by_cases hlt : k < n
      · have hs := HS1.out.below HB.out
        obtain ⟨g, off, rfl, hbl⟩ := Rows.some hs (by omega)
        obtain ⟨s0, s1, s2, _⟩ := hs.item hlt
        have hs' := HS2.out.below HB.out
        obtain ⟨g', off', rfl, hbl'⟩ := Rows.some hs' (by omega)
        obtain ⟨t0, t1, t2, _⟩ := hs'.item hlt
        have hlt' : (k : Int) < (n : Int) := by omega
        clear hs hs'
        obtain ⟨x0, hx0⟩ : ∃ x, (atI a k).1 = x := ⟨_, rfl⟩
        obtain ⟨x1, hx1⟩ : ∃ x, (atI a k).2.1 = x := ⟨_, rfl⟩
        obtain ⟨x2, hx2⟩ : ∃ x, (atI a k).2.2 = x := ⟨_, rfl⟩
        have HX := Lib.hid (show atI a k = (x0, x1, x2) by rw [← hx0, ← hx1, ← hx2])
        obtain ⟨y0, hy0⟩ : ∃ x, (atI b k).1 = x := ⟨_, rfl⟩
        obtain ⟨y1, hy1⟩ : ∃ x, (atI b k).2.1 = x := ⟨_, rfl⟩
        obtain ⟨y2, hy2⟩ : ∃ x, (atI b k).2.2 = x := ⟨_, rfl⟩
        have HY := Lib.hid (show atI b k = (y0, y1, y2) by rw [← hy0, ← hy1, ← hy2])
        rw [hx0] at s0
        rw [hx1] at s1
        rw [hx2] at s2
        rw [hy0] at t0
        rw [hy1] at t1
        rw [hy2] at t2
        clear hx0 hx1 hx2 hy0 hy1 hy2
        have HD : Hid ((x0, x1, x2) ≠ (y0, y1, y2) → decide (a = b) = false) := Lib.hid (fun h => decide_eq_false (fun e => h (by rw [← HX.out, ← HY.out, e])))
        have out : ∀ W', Below wr.heap.size wr W' → Below w.heap.size w W' := fun W' h => chain HB.out h
        have OUT := Lib.hid out
        clear out
        by_cases e0 : x0 = y0
        · by_cases e1 : x1 = y1
          · by_cases e2 : x2 = y2
            · have HE' := Lib.hid (show ∀ j, j < k + 1 → atI a j = atI b j from fun j hj => by
                by_cases e : j = k
                · rw [e, HX.out, HY.out, e0, e1, e2]
                · exact HE.out j (by omega))
              subst e0 e1 e2
              go_wp2_with fail
              go_quiet (fail)
              go_wp2_with fail
              go_roundw
              case rel => exact ⟨k + 1, by omega, by go_num, HE', OUT.out _ (Below_drewN (Below.refl _ _) _)⟩
              case measure => first | (simp [intOf]; done) | (simp [intOf]; omega)
            · have q : (x2 == y2) = false := by rw [beq_eq_false_iff_ne]; exact e2
              have HF := Lib.hid (HD.out (by intro e; simp only [Prod.mk.injEq] at e; exact e2 e.2.2))
              subst e0 e1
              clear e2
              go_wp2_with fail
              go_quiet (fail)
              go_wp2_with fail
              go_ret
              exact ⟨by rw [HF.out]; rfl, OUT.out _ (Below_drewN (Below.refl _ _) _)⟩
          · have q : (x1 == y1) = false := by rw [beq_eq_false_iff_ne]; exact e1
            have HF := Lib.hid (HD.out (by intro e; simp only [Prod.mk.injEq] at e; exact e1 e.2.1))
            subst e0
            clear e1
            go_wp2_with fail
            go_quiet (fail)
            go_wp2_with fail
            go_ret
            exact ⟨by rw [HF.out]; rfl, OUT.out _ (Below_drewN (Below.refl _ _) _)⟩
        · have q : (x0 == y0) = false := by rw [beq_eq_false_iff_ne]; exact e0
          have HF := Lib.hid (HD.out (by intro e; simp only [Prod.mk.injEq] at e; exact e0 e.1))
          clear e0
          go_wp2_with fail
          go_quiet (fail)
          go_wp2_with fail
          go_ret
          exact ⟨by rw [HF.out]; rfl, OUT.out _ (Below_drewN (Below.refl _ _) _)⟩
      · obtain rfl : k = n := by omega
        have HM := Lib.hid (show decide (a = b) = true from decide_eq_true (atI_ext (by rw [HL1.out, HL2.out]) (fun j hj => HE.out j (by rw [HL1.out] at hj; exact hj))))
        go_wp2_with fail
        go_ret
        exact ⟨by rw [HM.out]; rfl, HB.out⟩
  · have e : decide (a = b) = false := decide_eq_false (fun h => hnm (by rw [← hl1, ← hl2, h]))
    have hni : ((n : Int) != (m : Int)) = true := by rw [bne_iff_ne]; omega
    have hnn : (n != m) = true := by rw [bne_iff_ne]; omega
    rw [e]
    clear hs1 hs2 hl1 hl2 hnm e
    go_enter Try.func24, Try.ntmps24
    go_wp2_with fail
    go_ret
    exact ⟨rfl, Below.refl _ _⟩
theorem set_yes {l l' : List It} {x : It} {E : Int} (h : SetP l x l' E) (hc : chkI l) (hx : 0 ≤ x.1 ∧ x.1 < 64) : E = 0 ∧ chkI l' ∧ l'.Perm (x :: wo l x.1) := by
  rcases h with ⟨h, _⟩ | ⟨_, h, _⟩ | ⟨_, _, h1, h2, h3⟩
  · exact absurd hc h
  · exact absurd hx h
  · exact ⟨h1, h2, h3⟩
theorem set_out {l l' : List It} {x : It} {E : Int} (h : SetP l x l' E) (hc : chkI l) (hx : ¬(0 ≤ x.1 ∧ x.1 < 64)) : E = 110 ∧ l' = l := by
  rcases h with ⟨h, _⟩ | ⟨_, _, h1, h2⟩ | ⟨_, h, _⟩
  · exact absurd hc h
  · exact ⟨h2, h1⟩
  · exact absurd h hx
theorem set_bad {l l' : List It} {x : It} {E : Int} (h : SetP l x l' E) (hc : ¬chkI l) : E = 120 ∧ l' = l := by
  rcases h with ⟨_, h1, h2⟩ | ⟨h, _⟩ | ⟨h, _⟩
  · exact ⟨h2, h1⟩
  · exact absurd h hc
  · exact absurd h hc
theorem drop_yes {l l' : List It} {z : Int} {E : Int} (h : DropP l z l' E) (hc : chkI l) (hz : hasI l z = true) : E = 0 ∧ chkI l' ∧ l'.Perm (wo l z) := by
  rcases h with ⟨h, _⟩ | ⟨_, _, h1, h2, h3⟩
  · exact absurd ⟨hc, hz⟩ h
  · exact ⟨h1, h2, h3⟩
theorem drop_no {l l' : List It} {z : Int} {E : Int} (h : DropP l z l' E) (hz : ¬(chkI l ∧ hasI l z = true)) : E = 120 ∧ l' = l := by
  rcases h with ⟨_, h1, h2⟩ | ⟨h1, h2, _⟩
  · exact ⟨h2, h1⟩
  · exact absurd ⟨h1, h2⟩ hz
theorem find_yes {l : List It} {z : Int} {x y : It} {b : Bool} (h : FindP l z x b) (hc : chkI l) (hy : y ∈ l) (hz : y.1 = z) : x = y ∧ b = true := by
  rcases h with ⟨_, _, h1, h2, h3⟩ | ⟨h, _⟩
  · refine ⟨?_, h3⟩
    obtain ⟨i, hi, ei⟩ := List.getElem_of_mem h1
    obtain ⟨j, hj, ej⟩ := List.getElem_of_mem hy
    have hn := hc.2.1
    by_cases e : i = j
    · subst e; rw [← ei, ← ej]
    · exfalso
      rcases Nat.lt_or_gt_of_ne e with h4 | h4
      · have := List.pairwise_iff_getElem.1 hn i j (by simpa using hi) (by simpa using hj) h4
        simp only [List.getElem_map] at this
        exact this (by rw [ei, ej, h2, hz])
      · have := List.pairwise_iff_getElem.1 hn j i (by simpa using hj) (by simpa using hi) h4
        simp only [List.getElem_map] at this
        exact this (by rw [ei, ej, h2, hz])
  · exact absurd ⟨hc, (hasI_iff l z).2 ⟨y, hy, hz⟩⟩ h
theorem find_no {l : List It} {z : Int} {x : It} {b : Bool} (h : FindP l z x b) (hc : ¬(chkI l ∧ hasI l z = true)) : x = (0, 0, 0) ∧ b = false := by
  rcases h with ⟨h1, h2, _⟩ | ⟨_, h1, h2⟩
  · exact absurd ⟨h1, h2⟩ hc
  · exact ⟨h1, h2⟩
theorem min_yes {l s : List It} {x y : It} {b : Bool} (h : MinP l x b) (hc : chkI l) (hs : rises (y :: s)) (hp : l.Perm (y :: s)) : x = y ∧ b = true := by
  rcases h with ⟨_, h1, h2, h3⟩ | ⟨h, _⟩
  · refine ⟨?_, h3⟩
    have := min_first hc.2.2 hs hp.symm h1
    simp at this
    rw [h2, this]
  · exact absurd ⟨hc, fun e => by rw [e] at hp; exact absurd hp.length_eq (by simp)⟩ h
theorem min_no {l : List It} {x : It} {b : Bool} (h : MinP l x b) (hc : ¬(chkI l ∧ l ≠ [])) : x = (0, 0, 0) ∧ b = false := by
  rcases h with ⟨h1, h2, _⟩ | ⟨_, h1, h2⟩
  · exact absurd ⟨h1, h2⟩ hc
  · exact ⟨h1, h2⟩
theorem sort_yes {l s t : List It} (h : SortP l s) (hc : chkI l) (ht : rises t) (hp : l.Perm t) : s = t := by
  rcases h with ⟨h, _⟩ | ⟨_, h1, h2⟩
  · exact absurd hc h
  · exact rises_eq h2 ht (h1.trans hp)
theorem sort_no {l s : List It} (h : SortP l s) (hc : ¬chkI l) : s = [] := by
  rcases h with ⟨_, h⟩ | ⟨h, _⟩
  · exact h
  · exact absurd h hc
theorem wo_perm {a b : List It} (h : a.Perm b) (z : Int) : (wo a z).Perm (wo b z) := h.filter _
theorem rises_iff (l : List It) : (∀ i, i < l.length → ∀ j, j < i → LtI (atI l j) (atI l i)) ↔ rises l := by
  unfold rises
  rw [List.pairwise_iff_getElem]
  have e : ∀ j (h : j < l.length), atI l j = l[j] := fun j h => by
    unfold atI
    rw [List.getD_eq_getElem?_getD, List.getElem?_eq_getElem h]; rfl
  constructor
  · intro h i j hi hj hij
    have := h j hj i hij
    rwa [e i hi, e j hj] at this
  · intro h i hi j hj
    have := h j i (by omega) hi hj
    rwa [e i hi, e j (by omega)]
instance (l : List It) : Decidable (rises l) := decidable_of_iff _ (rises_iff l)
set_option maxRecDepth 100000 in
set_option maxHeartbeats 4000000 in
theorem awake14 (w : World) : Calls Try.prog 15 #[] w fun r w' => r = .returned (.bool true) ∧ Below w.heap.size w w' := by
  go_enter Try.func15, Try.ntmps15
  go_wp2_with fail
  refine (set_c (.slice none 0 0) 0 [] 5 7 0 (by omega) _ (Rows.nil _ _ _)).mono ?_
  rintro e w1 ⟨v1, l1, E1, rfl, hP1, hR1, hb1⟩
  have HBW := Lib.hid (show Below w.heap.size w _ from hb1)
  obtain ⟨rfl, hc1, hp1⟩ := set_yes hP1 chk_nil (by decide)
  have C1 := Lib.hid hc1
  have P1 := Lib.hid (show l1.Perm [(5, 7, 0)] from hp1)
  have R1 := Lib.hid hR1
  clear hc1 hp1 hR1 hP1
  have n1 : l1.length ≤ 1000 := by rw [P1.out.length_eq]; decide
  clear hb1
  go_wp2_with fail
  refine (set_c v1 _ l1 9 8 0 n1 _ R1.out).mono ?_
  rintro e w2 ⟨v2, l2, E2, rfl, hP2, hR2, hb2⟩
  replace HBW := Lib.hid (chain HBW.out hb2)
  replace R1 := Lib.hid (R1.out.below hb2)
  obtain ⟨rfl, hc2, hp2⟩ := set_yes hP2 C1.out (by decide)
  have C2 := Lib.hid hc2
  have P2 := Lib.hid (show l2.Perm [(9, 8, 0), (5, 7, 0)] from hp2.trans ((wo_perm P1.out 9).cons _))
  have R2 := Lib.hid hR2
  clear hc2 hp2 hR2 hP2 n1 R1
  have n2 : l2.length ≤ 1000 := by rw [P2.out.length_eq]; decide
  clear hb2
  go_wp2_with fail
  refine (set_c v2 _ l2 3 7 0 n2 _ R2.out).mono ?_
  rintro e w3 ⟨v3, l3, E3, rfl, hP3, hR3, hb3⟩
  replace HBW := Lib.hid (chain HBW.out hb3)
  replace R2 := Lib.hid (R2.out.below hb3)
  obtain ⟨rfl, hc3, hp3⟩ := set_yes hP3 C2.out (by decide)
  have C3 := Lib.hid hc3
  have P3 := Lib.hid (show l3.Perm [(3, 7, 0), (5, 7, 0), (9, 8, 0)] from (hp3.trans ((wo_perm P2.out 3).cons _)).trans (by decide))
  have R3 := Lib.hid hR3
  clear hc3 hp3 hR3 hP3 n2 R2
  have n3 : l3.length ≤ 1000 := by rw [P3.out.length_eq]; decide
  clear hb3
  go_wp2_with fail
  refine (set_c v3 _ l3 64 0 0 n3 _ R3.out).mono ?_
  rintro e w4 ⟨v4, l4, E4, rfl, hP4, hR4, hb4⟩
  replace HBW := Lib.hid (chain HBW.out hb4)
  replace R3 := Lib.hid (R3.out.below hb4)
  obtain ⟨rfl, -⟩ := set_out hP4 C3.out (by decide)
  clear hP4 hR4
  clear hb4
  go_wp2_with fail
  refine (min_c v3 _ l3 n3 _ R3.out).mono ?_
  rintro e w5 ⟨i5, p5, q5, b5, rfl, hP5, hb5⟩
  replace HBW := Lib.hid (chain HBW.out hb5)
  replace R3 := Lib.hid (R3.out.below hb5)
  obtain ⟨hx5, rfl⟩ := min_yes hP5 C3.out (s := [(5, 7, 0), (9, 8, 0)]) (by decide) P3.out
  simp only [Prod.mk.injEq] at hx5
  obtain ⟨rfl, rfl, rfl⟩ := hx5
  clear hP5
  clear hb5
  go_wp2_with fail
  have T5 := Lib.hid (tri.new w5 (.int .i64 3) (.int .u64 7) (.int .u64 0) 25)
  replace HBW := Lib.hid (chain1 HBW.out (.cells #[.int .i64 3, .int .u64 7, .int .u64 0] 25))
  replace R3 := Lib.hid (R3.out.below ((Below.refl _ _).alloc (Nat.le_refl _) (.cells #[.int .i64 3, .int .u64 7, .int .u64 0] 25)))
  refine (drop_c v3 _ l3 3 n3 _ R3.out).mono ?_
  rintro e w6 ⟨v6, l6, E6, rfl, hP6, hR6, hb6⟩
  replace HBW := Lib.hid (chain HBW.out hb6)
  replace R3 := Lib.hid (R3.out.below hb6)
  replace T5 := Lib.hid (T5.out.below hb6)
  obtain ⟨rfl, hc6, hp6⟩ := drop_yes hP6 C3.out (by rw [hasI_perm P3.out]; decide)
  have C6 := Lib.hid hc6
  have P6 := Lib.hid (show l6.Perm [(5, 7, 0), (9, 8, 0)] from hp6.trans (wo_perm P3.out 3))
  have R6 := Lib.hid hR6
  clear hc6 hp6 hR6 hP6
  have n6 : l6.length ≤ 1000 := by rw [P6.out.length_eq]; decide
  clear hb6
  go_wp2_with fail
  refine (min_c v6 _ l6 n6 _ R6.out).mono ?_
  rintro e w7 ⟨i7, p7, q7, b7, rfl, hP7, hb7⟩
  replace HBW := Lib.hid (chain HBW.out hb7)
  replace R3 := Lib.hid (R3.out.below hb7)
  replace T5 := Lib.hid (T5.out.below hb7)
  replace R6 := Lib.hid (R6.out.below hb7)
  obtain ⟨hx7, rfl⟩ := min_yes hP7 C6.out (s := [(9, 8, 0)]) (by decide) P6.out
  simp only [Prod.mk.injEq] at hx7
  obtain ⟨rfl, rfl, rfl⟩ := hx7
  clear hP7
  clear hb7
  go_wp2_with fail
  have T7 := Lib.hid (tri.new w7 (.int .i64 5) (.int .u64 7) (.int .u64 0) 25)
  replace HBW := Lib.hid (chain1 HBW.out (.cells #[.int .i64 5, .int .u64 7, .int .u64 0] 25))
  replace R3 := Lib.hid (R3.out.below ((Below.refl _ _).alloc (Nat.le_refl _) (.cells #[.int .i64 5, .int .u64 7, .int .u64 0] 25)))
  replace T5 := Lib.hid (T5.out.below ((Below.refl _ _).alloc (Nat.le_refl _) (.cells #[.int .i64 5, .int .u64 7, .int .u64 0] 25)))
  replace R6 := Lib.hid (R6.out.below ((Below.refl _ _).alloc (Nat.le_refl _) (.cells #[.int .i64 5, .int .u64 7, .int .u64 0] 25)))
  refine (drop_c v6 _ l6 3 n6 _ R6.out).mono ?_
  rintro e w8 ⟨v8, l8, E8, rfl, hP8, hR8, hb8⟩
  replace HBW := Lib.hid (chain HBW.out hb8)
  replace R3 := Lib.hid (R3.out.below hb8)
  replace T5 := Lib.hid (T5.out.below hb8)
  replace R6 := Lib.hid (R6.out.below hb8)
  replace T7 := Lib.hid (T7.out.below hb8)
  obtain ⟨rfl, -⟩ := drop_no hP8 (fun h => by have := h.2; rw [hasI_perm P6.out] at this; exact absurd this (by decide))
  clear hP8 hR8
  clear hb8
  go_wp2_with fail
  refine (findh_c v6 _ l6 9 n6 _ R6.out).mono ?_
  rintro e w9 ⟨i9, p9, q9, b9, rfl, hP9, hb9⟩
  replace HBW := Lib.hid (chain HBW.out hb9)
  replace R3 := Lib.hid (R3.out.below hb9)
  replace T5 := Lib.hid (T5.out.below hb9)
  replace R6 := Lib.hid (R6.out.below hb9)
  replace T7 := Lib.hid (T7.out.below hb9)
  obtain ⟨hx9, rfl⟩ := find_yes hP9 C6.out (y := (9, 8, 0)) (P6.out.mem_iff.2 (by decide)) rfl
  simp only [Prod.mk.injEq] at hx9
  obtain ⟨rfl, rfl, rfl⟩ := hx9
  clear hP9
  clear hb9
  go_wp2_with fail
  have T9 := Lib.hid (tri.new w9 (.int .i64 9) (.int .u64 8) (.int .u64 0) 25)
  replace HBW := Lib.hid (chain1 HBW.out (.cells #[.int .i64 9, .int .u64 8, .int .u64 0] 25))
  replace R3 := Lib.hid (R3.out.below ((Below.refl _ _).alloc (Nat.le_refl _) (.cells #[.int .i64 9, .int .u64 8, .int .u64 0] 25)))
  replace T5 := Lib.hid (T5.out.below ((Below.refl _ _).alloc (Nat.le_refl _) (.cells #[.int .i64 9, .int .u64 8, .int .u64 0] 25)))
  replace R6 := Lib.hid (R6.out.below ((Below.refl _ _).alloc (Nat.le_refl _) (.cells #[.int .i64 9, .int .u64 8, .int .u64 0] 25)))
  replace T7 := Lib.hid (T7.out.below ((Below.refl _ _).alloc (Nat.le_refl _) (.cells #[.int .i64 9, .int .u64 8, .int .u64 0] 25)))
  refine (findh_c v6 _ l6 3 n6 _ R6.out).mono ?_
  rintro e w10 ⟨i10, p10, q10, b10, rfl, hP10, hb10⟩
  replace HBW := Lib.hid (chain HBW.out hb10)
  replace R3 := Lib.hid (R3.out.below hb10)
  replace T5 := Lib.hid (T5.out.below hb10)
  replace R6 := Lib.hid (R6.out.below hb10)
  replace T7 := Lib.hid (T7.out.below hb10)
  replace T9 := Lib.hid (T9.out.below hb10)
  obtain ⟨hx10, rfl⟩ := find_no hP10 (fun h => by have := h.2; rw [hasI_perm P6.out] at this; exact absurd this (by decide))
  simp only [Prod.mk.injEq] at hx10
  obtain ⟨rfl, rfl, rfl⟩ := hx10
  clear hP10
  clear hb10
  go_wp2_with fail
  replace HBW := Lib.hid (chain1 HBW.out (.cells #[.int .i64 0, .int .u64 0, .int .u64 0] 25))
  replace R3 := Lib.hid (R3.out.below ((Below.refl _ _).alloc (Nat.le_refl _) (.cells #[.int .i64 0, .int .u64 0, .int .u64 0] 25)))
  replace T5 := Lib.hid (T5.out.below ((Below.refl _ _).alloc (Nat.le_refl _) (.cells #[.int .i64 0, .int .u64 0, .int .u64 0] 25)))
  replace R6 := Lib.hid (R6.out.below ((Below.refl _ _).alloc (Nat.le_refl _) (.cells #[.int .i64 0, .int .u64 0, .int .u64 0] 25)))
  replace T7 := Lib.hid (T7.out.below ((Below.refl _ _).alloc (Nat.le_refl _) (.cells #[.int .i64 0, .int .u64 0, .int .u64 0] 25)))
  replace T9 := Lib.hid (T9.out.below ((Below.refl _ _).alloc (Nat.le_refl _) (.cells #[.int .i64 0, .int .u64 0, .int .u64 0] 25)))
  clear R6
  have M11 := fun W => min_c (.slice none 0 0) 0 [] (by omega) W (Rows.nil _ _ _)
  refine (M11 _).mono ?_
  rintro e w11 ⟨i11, p11, q11, b11, rfl, hP11, hb11⟩
  replace HBW := Lib.hid (chain HBW.out hb11)
  replace R3 := Lib.hid (R3.out.below hb11)
  replace T5 := Lib.hid (T5.out.below hb11)
  replace T7 := Lib.hid (T7.out.below hb11)
  replace T9 := Lib.hid (T9.out.below hb11)
  obtain ⟨hx11, rfl⟩ := min_no hP11 (fun h => h.2 rfl)
  simp only [Prod.mk.injEq] at hx11
  obtain ⟨rfl, rfl, rfl⟩ := hx11
  clear hP11 M11
  clear hb11
  replace HBW := Lib.hid (chain1 HBW.out (.cells #[.int .i64 0, .int .u64 0, .int .u64 0] 25))
  replace R3 := Lib.hid (R3.out.below ((Below.refl _ _).alloc (Nat.le_refl _) (.cells #[.int .i64 0, .int .u64 0, .int .u64 0] 25)))
  replace T5 := Lib.hid (T5.out.below ((Below.refl _ _).alloc (Nat.le_refl _) (.cells #[.int .i64 0, .int .u64 0, .int .u64 0] 25)))
  replace T7 := Lib.hid (T7.out.below ((Below.refl _ _).alloc (Nat.le_refl _) (.cells #[.int .i64 0, .int .u64 0, .int .u64 0] 25)))
  replace T9 := Lib.hid (T9.out.below ((Below.refl _ _).alloc (Nat.le_refl _) (.cells #[.int .i64 0, .int .u64 0, .int .u64 0] 25)))
  obtain ⟨a0, a1, a2, al⟩ := T5.out
  obtain ⟨b0, b1, b2, bl⟩ := T7.out
  obtain ⟨c0, c1, c2, cl⟩ := T9.out
  clear T5
  clear T7
  clear T9
  go_wp2_with fail
  clear a0 a1 a2 al b0 b1 b2 bl c0 c1 c2 cl
  refine (sorted_c v3 _ l3 n3 _ R3.out).mono ?_
  rintro e w12 ⟨v12, s12, rfl, hP12, hR12, hb12⟩
  replace HBW := Lib.hid (chain HBW.out hb12)
  replace R3 := Lib.hid (R3.out.below hb12)
  obtain rfl := sort_yes hP12 C3.out (t := [(3, 7, 0), (5, 7, 0), (9, 8, 0)]) (by decide) P3.out
  have R12 := Lib.hid hR12
  clear hP12 hR12
  clear hb12
  go_wp2_with fail
  have R13 := Lib.hid (show Rows encI 3 (w12.alloc (.cells #[.int .i64 3, .int .u64 7, .int .u64 0, .int .i64 5, .int .u64 7, .int .u64 0, .int .i64 9, .int .u64 8, .int .u64 0] 25)) (.slice (some ⟨w12.heap.size, 0, none⟩) 3 3) 3 [(3, 7, 0), (5, 7, 0), (9, 8, 0)] from ⟨_, 3, rfl, cap_some (by omega), by omega, rfl, sees_blk w12 #[.int .i64 3, .int .u64 7, .int .u64 0, .int .i64 5, .int .u64 7, .int .u64 0, .int .i64 9, .int .u64 8, .int .u64 0] 25 3 3 rfl⟩)
  replace HBW := Lib.hid (chain1 HBW.out (.cells #[.int .i64 3, .int .u64 7, .int .u64 0, .int .i64 5, .int .u64 7, .int .u64 0, .int .i64 9, .int .u64 8, .int .u64 0] 25))
  replace R3 := Lib.hid (R3.out.below ((Below.refl _ _).alloc (Nat.le_refl _) (.cells #[.int .i64 3, .int .u64 7, .int .u64 0, .int .i64 5, .int .u64 7, .int .u64 0, .int .i64 9, .int .u64 8, .int .u64 0] 25)))
  replace R12 := Lib.hid (R12.out.below ((Below.refl _ _).alloc (Nat.le_refl _) (.cells #[.int .i64 3, .int .u64 7, .int .u64 0, .int .i64 5, .int .u64 7, .int .u64 0, .int .i64 9, .int .u64 8, .int .u64 0] 25)))
  have S13 := fun W h1 h2 => sameI_c v12 (.slice (some ⟨w12.heap.size, 0, none⟩) 3 3) ([(3, 7, 0), (5, 7, 0), (9, 8, 0)] : List It).length 3 [(3, 7, 0), (5, 7, 0), (9, 8, 0)] [(3, 7, 0), (5, 7, 0), (9, 8, 0)] W h1 h2
  simp only [decide_true] at S13
  refine (S13 _ R12.out R13.out).mono ?_
  rintro e w13 ⟨rfl, hb13⟩
  replace HBW := Lib.hid (chain HBW.out hb13)
  replace R3 := Lib.hid (R3.out.below hb13)
  replace R12 := Lib.hid (R12.out.below hb13)
  clear S13
  clear hb13
  go_wp2_with fail
  clear R12
  clear R13
  have CK := fun W h => checkh_c v3 l3.length l3 W h
  rw [decide_eq_true C3.out] at CK
  refine (CK _ R3.out).mono ?_
  rintro e w14 ⟨rfl, hb14⟩
  replace HBW := Lib.hid (chain HBW.out hb14)
  replace R3 := Lib.hid (R3.out.below hb14)
  clear CK
  clear hb14
  go_wp2_with fail
  clear R3
  have R15 := Lib.hid (show Rows encI 3 (w14.alloc (.cells #[.int .i64 1, .int .u64 2, .int .u64 0, .int .i64 2, .int .u64 1, .int .u64 0] 25)) (.slice (some ⟨w14.heap.size, 0, none⟩) 2 2) 2 [(1, 2, 0), (2, 1, 0)] from ⟨_, 2, rfl, cap_some (by omega), by omega, rfl, sees_blk w14 #[.int .i64 1, .int .u64 2, .int .u64 0, .int .i64 2, .int .u64 1, .int .u64 0] 25 3 2 rfl⟩)
  replace HBW := Lib.hid (chain1 HBW.out (.cells #[.int .i64 1, .int .u64 2, .int .u64 0, .int .i64 2, .int .u64 1, .int .u64 0] 25))
  have CK := fun W h => checkh_c (.slice (some ⟨w14.heap.size, 0, none⟩) 2 2) 2 [(1, 2, 0), (2, 1, 0)] W h
  rw [show decide (chkI [(1, 2, 0), (2, 1, 0)]) = false by decide] at CK
  refine (CK _ R15.out).mono ?_
  rintro e w15 ⟨rfl, hb15⟩
  replace HBW := Lib.hid (chain HBW.out hb15)
  clear CK R15
  clear hb15
  go_wp2_with fail
  have LS := fun W => less_c 9 1 2 1 1 3 W
  rw [show decide (LtI (9, 1, 2) (1, 1, 3)) = true by decide] at LS
  refine (LS _).mono ?_
  rintro e w16 ⟨rfl, hb16⟩
  replace HBW := Lib.hid (chain HBW.out hb16)
  clear hb16
  go_wp2_with fail
  go_ret
  exact ⟨by first | rfl | (simp; done), HBW.out⟩
end Go.Proofs.Try
