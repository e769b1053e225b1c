/- The walks of ArenaBack, ArenaTurns. -/
import Derived.Test.YtgphmjhhfcgnaaaDoorOpenS
import Derived.Test.YtgphmjhhfcgnaaaDoorW11
import Derived.Test.YtgphmjhhfcgnaaaDoorLater
import Derived.Test.YtgphmjhhfcgnaaaDoorRef10
namespace Go.Proofs.Tryd
open Go.RowKit
set_option linter.unusedVariables false
set_option linter.unusedSimpArgs false
theorem segs_of {w : World} {A : Option Addr} {n c : Nat} {l : List Sg} (hc : CapOk A n c) (hn : n ≤ 100) (hl : l.length = n) (hu : ∀ j, (at' l j).2 < 18446744073709551616) (hs : Sees w 2 A n (segC l)) : Segs w (.slice A n c) n l :=
  ⟨A, c, rfl, hc, by omega, hl, hu, hs⟩
/-- What Take answers is one of three. -/
theorem tk_err (l : List Sg) (c : Int) (hc : chkL l) : (∃ E, (E = 100 ∨ E = 110) ∧ tkR l c = (l, 0, 0, E)) ∨ ∃ i k, slN c ≠ 0 ∧ seekL l c = some (i, k) ∧ tkR l c = (putL l c i k, (i : Int), (k : Int), 0) := by
  unfold tkR
  rw [if_pos hc]
  by_cases hk : slN c = 0
  · exact .inl ⟨100, .inl rfl, by rw [if_pos hk]⟩
  · rw [if_neg hk]
    cases hs : seekL l c with
    | none => exact .inl ⟨110, .inr rfl, rfl⟩
    | some p => exact .inr ⟨p.1, p.2, hk, rfl, rfl⟩
theorem put_has (l : List Sg) (c : Int) (i k : Nat) (hi : i < l.length) (x y : Int) : hasL (putL l c i k) x y = (hasL l x y || decide (x = (i : Int) ∧ y = (k : Int))) := by
  unfold hasL
  by_cases hx : 0 ≤ x
  · by_cases hy : 0 ≤ y
    · rw [put_tk _ _ _ _ _ _ hi]
      have e : decide (x.toNat = i ∧ y.toNat = k) = decide (x = (i : Int) ∧ y = (k : Int)) := by
        congr 1
        apply propext
        omega
      rw [e]
      simp [hx, hy]
    · have e : decide (x = (i : Int) ∧ y = (k : Int)) = false := by simp; omega
      simp [hy, e]
  · have e : decide (x = (i : Int) ∧ y = (k : Int)) = false := by simp; omega
    simp [hx, e]
set_option maxRecDepth 100000 in
set_option maxHeartbeats 4000000 in
theorem walk_ArenaBack (v0 : Value) (c x y : Int) (w1 : (Lit.int .i64 c).wf = true) (w2 : (Lit.int .i64 x).wf = true) (w3 : (Lit.int .i64 y).wf = true) (w : World) (hT : Deb w) (o0 : SegIn w v0) :
    Calls Tryd.prog 3 #[v0, .int .i64 c, .agg #[.int .i64 x, .int .i64 y]] w fun e w' => e = .returned (.bool true) ∧ Below w.heap.size w w' := by
  obtain ⟨A, n, cc, l, rfl, hcap, hmax, hl, hu, hs⟩ := o0
  clear w1 w2 w3 hmax
  have HT := Lib.hid hT
  clear hT
  by_cases hn : n ≤ 100
  · have hn' : decide (100 < (n : Int)) = false := by simp; omega
    have HL := Lib.hid (segs_of hcap hn hl hu hs)
    have HN := Lib.hid hl
    clear hcap hu hs hl
    by_cases hc : chkL l
    · have CK := fun W (h : Segs W (.slice A n cc) n l) => chk_c _ n l W h
      rw [decide_eq_true hc] at CK
      rcases tk_err l c hc with ⟨E, hE, hR⟩ | ⟨i, k, hk, hsk, hR⟩
      · have TK := fun W (h : Segs W (.slice A n cc) n l) (hT : Deb W) => take_c _ n l c _ hR W h hT
        have e1 : (E != 0) = true := by rw [bne_iff_ne]; omega
        have SM := fun v W (h1 : Segs W v n l) (h2 : Segs W (.slice A n cc) n l) => sames_c v _ n n l l W h1 h2
        simp only [decide_true] at SM
        clear hE hR hc
        go_enter Tryd.func3, Tryd.ntmps3
        go_wp2_with fail
        have HBW := Lib.hid (chain1 (Below.refl w.heap.size w) (.cells #[.int .i64 x, .int .i64 y] 24))
        replace HT := Lib.hid (HT.out.below ((Below.refl _ _).alloc (Nat.le_refl _) (.cells #[.int .i64 x, .int .i64 y] 24)))
        replace HL := Lib.hid (HL.out.below ((Below.refl _ _).alloc (Nat.le_refl _) (.cells #[.int .i64 x, .int .i64 y] 24)))
        have Qo := Lib.hid (pairAt.new w (.int .i64 x) (.int .i64 y) 24)
        with_reducible refine (awake11 _ HT.out).mono ?_
        rintro e w1 ⟨rfl, hb1⟩
        replace HBW := Lib.hid (chain HBW.out hb1)
        replace HT := Lib.hid (HT.out.below hb1)
        replace HL := Lib.hid (HL.out.below hb1)
        replace Qo := Lib.hid (Qo.out.below hb1)
        clear hb1
        go_wp2_with fail
        with_reducible refine (CK _ HL.out).mono ?_
        rintro e w2 ⟨rfl, hb2⟩
        replace HBW := Lib.hid (chain HBW.out hb2)
        replace HT := Lib.hid (HT.out.below hb2)
        replace HL := Lib.hid (HL.out.below hb2)
        replace Qo := Lib.hid (Qo.out.below hb2)
        clear hb2
        go_wp2_with fail
        refine (TK _ HL.out HT.out).mono ?_
        rintro e w3 ⟨⟨v3, rfl, ho⟩, hb3⟩
        simp only at ho ⊢
        replace HBW := Lib.hid (chain HBW.out hb3)
        replace HT := Lib.hid (HT.out.below hb3)
        replace HL := Lib.hid (HL.out.below hb3)
        replace Qo := Lib.hid (Qo.out.below hb3)
        have HO := Lib.hid ho.segs
        clear ho
        clear hb3
        go_wp2_with fail
        clear HT
        replace HBW := Lib.hid (chain1 HBW.out (.cells #[.int .i64 0, .int .i64 0] 24))
        replace HL := Lib.hid (HL.out.below ((Below.refl _ _).alloc (Nat.le_refl _) (.cells #[.int .i64 0, .int .i64 0] 24)))
        replace HO := Lib.hid (HO.out.below ((Below.refl _ _).alloc (Nat.le_refl _) (.cells #[.int .i64 0, .int .i64 0] 24)))
        replace Qo := Lib.hid (Qo.out.below ((Below.refl _ _).alloc (Nat.le_refl _) (.cells #[.int .i64 0, .int .i64 0] 24)))
        have Qs := Lib.hid (pairAt.new w3 (.int .i64 0) (.int .i64 0) 24)
        have HC9 := SM _ _ HO.out HL.out
        with_reducible refine (HC9).mono ?_
        rintro e w4 ⟨rfl, hb4⟩
        replace HBW := Lib.hid (chain HBW.out hb4)
        replace HL := Lib.hid (HL.out.below hb4)
        replace HO := Lib.hid (HO.out.below hb4)
        replace Qo := Lib.hid (Qo.out.below hb4)
        replace Qs := Lib.hid (Qs.out.below hb4)
        have yQo := Qo.out.lt
        obtain ⟨aQo, bQo, _, _⟩ := Qo.out
        have yQs := Qs.out.lt
        obtain ⟨aQs, bQs, _, _⟩ := Qs.out
        clear hb4
        go_wp2_with fail
        go_ret
        exact ⟨by first | rfl | (simp; done), HBW.out⟩
      · have TK := fun W (h : Segs W (.slice A n cc) n l) (hT : Deb W) => take_c _ n l c _ hR W h hT
        obtain ⟨hi, hk2, hkt, hkc⟩ := seek_is l c hc hk i k hsk
        have hput := put_ok l c hc hk i k hi hk2 hkc
        have hpt : tkL (putL l c i k) i k = true := by rw [put_tk _ _ _ _ _ _ hi]; simp
        have hpd := put_del l c hc hk i k hi hkt hkc
        have hk64 : k < 64 := by have := slN_le c; omega
        have hsum := tkn_put l c i k hi hk64 hkt hkc
        have FR := fun v W (h : Segs W v n (putL l c i k)) => free_ok v n (putL l c i k) i k hput hpt W h
        rw [hpd] at FR
        have SM := fun v W (h1 : Segs W v n l) (h2 : Segs W (.slice A n cc) n l) => sames_c v _ n n l l W h1 h2
        simp only [decide_true] at SM
        have HS1 := fun W (h : Segs W (.slice A n cc) n l) => has_c _ n l (i : Int) (k : Int) W h
        rw [has_nat, hkt, Bool.and_false] at HS1
        have HS2 := fun v W (h : Segs W v n (putL l c i k)) => has_c _ n (putL l c i k) (i : Int) (k : Int) W h
        rw [has_nat, hpt, decide_eq_true hput, Bool.and_true] at HS2
        have CK2 := fun v W (h : Segs W v n (putL l c i k)) => chk_c _ n (putL l c i k) W h
        rw [decide_eq_true hput] at CK2
        have TN1 := fun W (h : Segs W (.slice A n cc) n l) => taken_c _ n l hc W h
        have TN2 := fun v W (h : Segs W v n (putL l c i k)) => taken_c v n (putL l c i k) hput W h
        rw [hsum, Int.natCast_add] at TN2
        have BY := rbytes_c c
        rw [clsB_by] at BY
        have hT1 := tkn_le l
        have hT2 := byN_le c
        rw [HN.out] at hT1
        have HO1 := fun W (h : Segs W (.slice A n cc) n l) => has_c _ n l x y W h
        have HO2 := fun v W (h : Segs W v n (putL l c i k)) => has_c _ n (putL l c i k) x y W h
        rw [put_has l c i k hi, decide_eq_true hput, Bool.true_and] at HO2
        rw [decide_eq_true hc, Bool.true_and] at HO1
        clear hR hput hpt hpd hsum hkc hk2 hkt hk hsk hi hc HN
        generalize putL l c i k = P at *
        generalize hasL l x y = B at *
        generalize tknL l = T at *
        generalize byN c = Y at *
        have e1 : IntKind.i64.wrap ((T : Int) + (Y : Int)) = (T : Int) + (Y : Int) := by rw [IntKind.wrap_i64]; omega
        by_cases hxy : x = (i : Int) ∧ y = (k : Int)
        · obtain ⟨rfl, rfl⟩ := hxy
          go_enter Tryd.func3, Tryd.ntmps3
          go_wp2_with fail
          have HBW := Lib.hid (chain1 (Below.refl w.heap.size w) (.cells #[.int .i64 (i : Int), .int .i64 (k : Int)] 24))
          replace HT := Lib.hid (HT.out.below ((Below.refl _ _).alloc (Nat.le_refl _) (.cells #[.int .i64 (i : Int), .int .i64 (k : Int)] 24)))
          replace HL := Lib.hid (HL.out.below ((Below.refl _ _).alloc (Nat.le_refl _) (.cells #[.int .i64 (i : Int), .int .i64 (k : Int)] 24)))
          have Qo := Lib.hid (pairAt.new w (.int .i64 (i : Int)) (.int .i64 (k : Int)) 24)
          with_reducible refine (awake11 _ HT.out).mono ?_
          rintro e w1 ⟨rfl, hb1⟩
          replace HBW := Lib.hid (chain HBW.out hb1)
          replace HT := Lib.hid (HT.out.below hb1)
          replace HL := Lib.hid (HL.out.below hb1)
          replace Qo := Lib.hid (Qo.out.below hb1)
          clear hb1
          go_wp2_with fail
          with_reducible refine (CK _ HL.out).mono ?_
          rintro e w2 ⟨rfl, hb2⟩
          replace HBW := Lib.hid (chain HBW.out hb2)
          replace HT := Lib.hid (HT.out.below hb2)
          replace HL := Lib.hid (HL.out.below hb2)
          replace Qo := Lib.hid (Qo.out.below hb2)
          clear hb2
          go_wp2_with fail
          refine (TK _ HL.out HT.out).mono ?_
          rintro e w3 ⟨⟨v3, rfl, ho⟩, hb3⟩
          simp only at ho ⊢
          replace HBW := Lib.hid (chain HBW.out hb3)
          replace HT := Lib.hid (HT.out.below hb3)
          replace HL := Lib.hid (HL.out.below hb3)
          replace Qo := Lib.hid (Qo.out.below hb3)
          have HO := Lib.hid ho.segs
          clear ho
          clear hb3
          go_wp2_with fail
          clear HT
          replace HBW := Lib.hid (chain1 HBW.out (.cells #[.int .i64 (i : Int), .int .i64 (k : Int)] 24))
          replace HL := Lib.hid (HL.out.below ((Below.refl _ _).alloc (Nat.le_refl _) (.cells #[.int .i64 (i : Int), .int .i64 (k : Int)] 24)))
          replace HO := Lib.hid (HO.out.below ((Below.refl _ _).alloc (Nat.le_refl _) (.cells #[.int .i64 (i : Int), .int .i64 (k : Int)] 24)))
          replace Qo := Lib.hid (Qo.out.below ((Below.refl _ _).alloc (Nat.le_refl _) (.cells #[.int .i64 (i : Int), .int .i64 (k : Int)] 24)))
          have Qs := Lib.hid (pairAt.new w3 (.int .i64 (i : Int)) (.int .i64 (k : Int)) 24)
          have HC9 := FR _ _ HO.out
          refine (HC9).mono ?_
          rintro e w4 ⟨⟨v4, rfl, ho⟩, hb4⟩
          simp only at ho ⊢
          clear HC9
          replace HBW := Lib.hid (chain HBW.out hb4)
          replace HL := Lib.hid (HL.out.below hb4)
          replace HO := Lib.hid (HO.out.below hb4)
          replace Qo := Lib.hid (Qo.out.below hb4)
          replace Qs := Lib.hid (Qs.out.below hb4)
          have yQo := Qo.out.lt
          obtain ⟨aQo, bQo, _, _⟩ := Qo.out
          have yQs := Qs.out.lt
          obtain ⟨aQs, bQs, _, _⟩ := Qs.out
          have HF := Lib.hid ho.segs
          clear ho
          clear hb4
          go_wp2_with fail
          go_quiet (fail)
          replace HBW := Lib.hid (chain HBW.out (Below_drewN (Below.refl _ _) nq))
          replace HL := Lib.hid (HL.out.below (Below_drewN (Below.refl _ _) nq))
          replace HO := Lib.hid (HO.out.below (Below_drewN (Below.refl _ _) nq))
          replace HF := Lib.hid (HF.out.below (Below_drewN (Below.refl _ _) nq))
          replace Qo := Lib.hid (Qo.out.below (Below_drewN (Below.refl _ _) nq))
          replace Qs := Lib.hid (Qs.out.below (Below_drewN (Below.refl _ _) nq))
          clear yQo aQo bQo
          clear yQs aQs bQs
          have yQo := Qo.out.lt
          obtain ⟨aQo, bQo, _, _⟩ := Qo.out
          have yQs := Qs.out.lt
          obtain ⟨aQs, bQs, _, _⟩ := Qs.out
          go_wp2_with fail
          with_reducible refine (HS1 _ HL.out).mono ?_
          rintro e w5 ⟨rfl, hb5⟩
          replace HBW := Lib.hid (chain HBW.out hb5)
          replace HL := Lib.hid (HL.out.below hb5)
          replace HO := Lib.hid (HO.out.below hb5)
          replace HF := Lib.hid (HF.out.below hb5)
          replace Qo := Lib.hid (Qo.out.below hb5)
          replace Qs := Lib.hid (Qs.out.below hb5)
          clear yQo aQo bQo
          clear yQs aQs bQs
          have yQo := Qo.out.lt
          obtain ⟨aQo, bQo, _, _⟩ := Qo.out
          have yQs := Qs.out.lt
          obtain ⟨aQs, bQs, _, _⟩ := Qs.out
          clear hb5
          go_wp2_with fail
          with_reducible refine (HS2 _ _ HO.out).mono ?_
          rintro e w6 ⟨rfl, hb6⟩
          replace HBW := Lib.hid (chain HBW.out hb6)
          replace HL := Lib.hid (HL.out.below hb6)
          replace HO := Lib.hid (HO.out.below hb6)
          replace HF := Lib.hid (HF.out.below hb6)
          replace Qo := Lib.hid (Qo.out.below hb6)
          replace Qs := Lib.hid (Qs.out.below hb6)
          clear yQo aQo bQo
          clear yQs aQs bQs
          have yQo := Qo.out.lt
          obtain ⟨aQo, bQo, _, _⟩ := Qo.out
          have yQs := Qs.out.lt
          obtain ⟨aQs, bQs, _, _⟩ := Qs.out
          clear hb6
          go_wp2_with fail
          have HC9 := SM _ _ HF.out HL.out
          with_reducible refine (HC9).mono ?_
          rintro e w7 ⟨rfl, hb7⟩
          replace HBW := Lib.hid (chain HBW.out hb7)
          replace HL := Lib.hid (HL.out.below hb7)
          replace HO := Lib.hid (HO.out.below hb7)
          replace HF := Lib.hid (HF.out.below hb7)
          replace Qo := Lib.hid (Qo.out.below hb7)
          replace Qs := Lib.hid (Qs.out.below hb7)
          clear yQo aQo bQo
          clear yQs aQs bQs
          have yQo := Qo.out.lt
          obtain ⟨aQo, bQo, _, _⟩ := Qo.out
          have yQs := Qs.out.lt
          obtain ⟨aQs, bQs, _, _⟩ := Qs.out
          clear hb7
          go_wp2_with fail
          with_reducible refine (CK2 _ _ HO.out).mono ?_
          rintro e w8 ⟨rfl, hb8⟩
          replace HBW := Lib.hid (chain HBW.out hb8)
          replace HL := Lib.hid (HL.out.below hb8)
          replace HO := Lib.hid (HO.out.below hb8)
          replace HF := Lib.hid (HF.out.below hb8)
          replace Qo := Lib.hid (Qo.out.below hb8)
          replace Qs := Lib.hid (Qs.out.below hb8)
          clear yQo aQo bQo
          clear yQs aQs bQs
          have yQo := Qo.out.lt
          obtain ⟨aQo, bQo, _, _⟩ := Qo.out
          have yQs := Qs.out.lt
          obtain ⟨aQs, bQs, _, _⟩ := Qs.out
          clear hb8
          go_wp2_with fail
          with_reducible refine (TN2 _ _ HO.out).mono ?_
          rintro e w9 ⟨rfl, hb9⟩
          replace HBW := Lib.hid (chain HBW.out hb9)
          replace HL := Lib.hid (HL.out.below hb9)
          replace HO := Lib.hid (HO.out.below hb9)
          replace HF := Lib.hid (HF.out.below hb9)
          replace Qo := Lib.hid (Qo.out.below hb9)
          replace Qs := Lib.hid (Qs.out.below hb9)
          clear yQo aQo bQo
          clear yQs aQs bQs
          have yQo := Qo.out.lt
          obtain ⟨aQo, bQo, _, _⟩ := Qo.out
          have yQs := Qs.out.lt
          obtain ⟨aQs, bQs, _, _⟩ := Qs.out
          clear hb9
          go_wp2_with fail
          with_reducible refine (TN1 _ HL.out).mono ?_
          rintro e w10 ⟨rfl, hb10⟩
          replace HBW := Lib.hid (chain HBW.out hb10)
          replace HL := Lib.hid (HL.out.below hb10)
          replace HO := Lib.hid (HO.out.below hb10)
          replace HF := Lib.hid (HF.out.below hb10)
          replace Qo := Lib.hid (Qo.out.below hb10)
          replace Qs := Lib.hid (Qs.out.below hb10)
          clear yQo aQo bQo
          clear yQs aQs bQs
          have yQo := Qo.out.lt
          obtain ⟨aQo, bQo, _, _⟩ := Qo.out
          have yQs := Qs.out.lt
          obtain ⟨aQs, bQs, _, _⟩ := Qs.out
          clear hb10
          go_wp2_with fail
          with_reducible refine (BY _).mono ?_
          rintro e w' ⟨rfl, rfl⟩
          go_wp2_with fail
          go_ret
          exact ⟨by first | rfl | (simp; done), HBW.out⟩
        · have hd : decide (x = (i : Int) ∧ y = (k : Int)) = false := decide_eq_false hxy
          rw [hd, Bool.or_false] at HO2
          clear hd
          by_cases hx : x = (i : Int)
          · have hy : (y == (k : Int)) = false := by rw [beq_eq_false_iff_ne]; exact fun h => hxy ⟨hx, h⟩
            subst hx
            clear hxy
            go_enter Tryd.func3, Tryd.ntmps3
            go_wp2_with fail
            have HBW := Lib.hid (chain1 (Below.refl w.heap.size w) (.cells #[.int .i64 (i : Int), .int .i64 y] 24))
            replace HT := Lib.hid (HT.out.below ((Below.refl _ _).alloc (Nat.le_refl _) (.cells #[.int .i64 (i : Int), .int .i64 y] 24)))
            replace HL := Lib.hid (HL.out.below ((Below.refl _ _).alloc (Nat.le_refl _) (.cells #[.int .i64 (i : Int), .int .i64 y] 24)))
            have Qo := Lib.hid (pairAt.new w (.int .i64 (i : Int)) (.int .i64 y) 24)
            with_reducible refine (awake11 _ HT.out).mono ?_
            rintro e w1 ⟨rfl, hb1⟩
            replace HBW := Lib.hid (chain HBW.out hb1)
            replace HT := Lib.hid (HT.out.below hb1)
            replace HL := Lib.hid (HL.out.below hb1)
            replace Qo := Lib.hid (Qo.out.below hb1)
            clear hb1
            go_wp2_with fail
            with_reducible refine (CK _ HL.out).mono ?_
            rintro e w2 ⟨rfl, hb2⟩
            replace HBW := Lib.hid (chain HBW.out hb2)
            replace HT := Lib.hid (HT.out.below hb2)
            replace HL := Lib.hid (HL.out.below hb2)
            replace Qo := Lib.hid (Qo.out.below hb2)
            clear hb2
            go_wp2_with fail
            refine (TK _ HL.out HT.out).mono ?_
            rintro e w3 ⟨⟨v3, rfl, ho⟩, hb3⟩
            simp only at ho ⊢
            replace HBW := Lib.hid (chain HBW.out hb3)
            replace HT := Lib.hid (HT.out.below hb3)
            replace HL := Lib.hid (HL.out.below hb3)
            replace Qo := Lib.hid (Qo.out.below hb3)
            have HO := Lib.hid ho.segs
            clear ho
            clear hb3
            go_wp2_with fail
            clear HT
            replace HBW := Lib.hid (chain1 HBW.out (.cells #[.int .i64 (i : Int), .int .i64 (k : Int)] 24))
            replace HL := Lib.hid (HL.out.below ((Below.refl _ _).alloc (Nat.le_refl _) (.cells #[.int .i64 (i : Int), .int .i64 (k : Int)] 24)))
            replace HO := Lib.hid (HO.out.below ((Below.refl _ _).alloc (Nat.le_refl _) (.cells #[.int .i64 (i : Int), .int .i64 (k : Int)] 24)))
            replace Qo := Lib.hid (Qo.out.below ((Below.refl _ _).alloc (Nat.le_refl _) (.cells #[.int .i64 (i : Int), .int .i64 (k : Int)] 24)))
            have Qs := Lib.hid (pairAt.new w3 (.int .i64 (i : Int)) (.int .i64 (k : Int)) 24)
            have HC9 := FR _ _ HO.out
            refine (HC9).mono ?_
            rintro e w4 ⟨⟨v4, rfl, ho⟩, hb4⟩
            simp only at ho ⊢
            clear HC9
            replace HBW := Lib.hid (chain HBW.out hb4)
            replace HL := Lib.hid (HL.out.below hb4)
            replace HO := Lib.hid (HO.out.below hb4)
            replace Qo := Lib.hid (Qo.out.below hb4)
            replace Qs := Lib.hid (Qs.out.below hb4)
            have yQo := Qo.out.lt
            obtain ⟨aQo, bQo, _, _⟩ := Qo.out
            have yQs := Qs.out.lt
            obtain ⟨aQs, bQs, _, _⟩ := Qs.out
            have HF := Lib.hid ho.segs
            clear ho
            clear hb4
            go_wp2_with fail
            (refine region_later (by kernel_rfl) (by kernel_rfl) ?_); (intro hlat); (repeat (go_big_quiet_step ((first | (go_at_call 13; with_reducible exact later_call (HO1 _ (HL.out.below (later_below _ _)))) | (go_at_call 13; with_reducible exact later_call (HO2 _ _ (HO.out.below (later_below _ _)))))))); (refine wpQuiet_nil ?_); (intro w5 hb5); (clear hlat)
            replace HBW := Lib.hid (chain HBW.out hb5)
            replace HL := Lib.hid (HL.out.below hb5)
            replace HO := Lib.hid (HO.out.below hb5)
            replace HF := Lib.hid (HF.out.below hb5)
            replace Qo := Lib.hid (Qo.out.below hb5)
            replace Qs := Lib.hid (Qs.out.below hb5)
            clear yQo aQo bQo
            clear yQs aQs bQs
            have yQo := Qo.out.lt
            obtain ⟨aQo, bQo, _, _⟩ := Qo.out
            have yQs := Qs.out.lt
            obtain ⟨aQs, bQs, _, _⟩ := Qs.out
            clear hb5
            go_wp2_with fail
            with_reducible refine (HS1 _ HL.out).mono ?_
            rintro e w6 ⟨rfl, hb6⟩
            replace HBW := Lib.hid (chain HBW.out hb6)
            replace HL := Lib.hid (HL.out.below hb6)
            replace HO := Lib.hid (HO.out.below hb6)
            replace HF := Lib.hid (HF.out.below hb6)
            replace Qo := Lib.hid (Qo.out.below hb6)
            replace Qs := Lib.hid (Qs.out.below hb6)
            clear yQo aQo bQo
            clear yQs aQs bQs
            have yQo := Qo.out.lt
            obtain ⟨aQo, bQo, _, _⟩ := Qo.out
            have yQs := Qs.out.lt
            obtain ⟨aQs, bQs, _, _⟩ := Qs.out
            clear hb6
            go_wp2_with fail
            with_reducible refine (HS2 _ _ HO.out).mono ?_
            rintro e w7 ⟨rfl, hb7⟩
            replace HBW := Lib.hid (chain HBW.out hb7)
            replace HL := Lib.hid (HL.out.below hb7)
            replace HO := Lib.hid (HO.out.below hb7)
            replace HF := Lib.hid (HF.out.below hb7)
            replace Qo := Lib.hid (Qo.out.below hb7)
            replace Qs := Lib.hid (Qs.out.below hb7)
            clear yQo aQo bQo
            clear yQs aQs bQs
            have yQo := Qo.out.lt
            obtain ⟨aQo, bQo, _, _⟩ := Qo.out
            have yQs := Qs.out.lt
            obtain ⟨aQs, bQs, _, _⟩ := Qs.out
            clear hb7
            go_wp2_with fail
            have HC9 := SM _ _ HF.out HL.out
            with_reducible refine (HC9).mono ?_
            rintro e w8 ⟨rfl, hb8⟩
            replace HBW := Lib.hid (chain HBW.out hb8)
            replace HL := Lib.hid (HL.out.below hb8)
            replace HO := Lib.hid (HO.out.below hb8)
            replace HF := Lib.hid (HF.out.below hb8)
            replace Qo := Lib.hid (Qo.out.below hb8)
            replace Qs := Lib.hid (Qs.out.below hb8)
            clear yQo aQo bQo
            clear yQs aQs bQs
            have yQo := Qo.out.lt
            obtain ⟨aQo, bQo, _, _⟩ := Qo.out
            have yQs := Qs.out.lt
            obtain ⟨aQs, bQs, _, _⟩ := Qs.out
            clear hb8
            go_wp2_with fail
            with_reducible refine (CK2 _ _ HO.out).mono ?_
            rintro e w9 ⟨rfl, hb9⟩
            replace HBW := Lib.hid (chain HBW.out hb9)
            replace HL := Lib.hid (HL.out.below hb9)
            replace HO := Lib.hid (HO.out.below hb9)
            replace HF := Lib.hid (HF.out.below hb9)
            replace Qo := Lib.hid (Qo.out.below hb9)
            replace Qs := Lib.hid (Qs.out.below hb9)
            clear yQo aQo bQo
            clear yQs aQs bQs
            have yQo := Qo.out.lt
            obtain ⟨aQo, bQo, _, _⟩ := Qo.out
            have yQs := Qs.out.lt
            obtain ⟨aQs, bQs, _, _⟩ := Qs.out
            clear hb9
            go_wp2_with fail
            with_reducible refine (TN2 _ _ HO.out).mono ?_
            rintro e w10 ⟨rfl, hb10⟩
            replace HBW := Lib.hid (chain HBW.out hb10)
            replace HL := Lib.hid (HL.out.below hb10)
            replace HO := Lib.hid (HO.out.below hb10)
            replace HF := Lib.hid (HF.out.below hb10)
            replace Qo := Lib.hid (Qo.out.below hb10)
            replace Qs := Lib.hid (Qs.out.below hb10)
            clear yQo aQo bQo
            clear yQs aQs bQs
            have yQo := Qo.out.lt
            obtain ⟨aQo, bQo, _, _⟩ := Qo.out
            have yQs := Qs.out.lt
            obtain ⟨aQs, bQs, _, _⟩ := Qs.out
            clear hb10
            go_wp2_with fail
            with_reducible refine (TN1 _ HL.out).mono ?_
            rintro e w11 ⟨rfl, hb11⟩
            replace HBW := Lib.hid (chain HBW.out hb11)
            replace HL := Lib.hid (HL.out.below hb11)
            replace HO := Lib.hid (HO.out.below hb11)
            replace HF := Lib.hid (HF.out.below hb11)
            replace Qo := Lib.hid (Qo.out.below hb11)
            replace Qs := Lib.hid (Qs.out.below hb11)
            clear yQo aQo bQo
            clear yQs aQs bQs
            have yQo := Qo.out.lt
            obtain ⟨aQo, bQo, _, _⟩ := Qo.out
            have yQs := Qs.out.lt
            obtain ⟨aQs, bQs, _, _⟩ := Qs.out
            clear hb11
            go_wp2_with fail
            with_reducible refine (BY _).mono ?_
            rintro e w' ⟨rfl, rfl⟩
            go_wp2_with fail
            go_ret
            exact ⟨by first | rfl | (simp; done), HBW.out⟩
          · have hy : (x == (i : Int)) = false := by rw [beq_eq_false_iff_ne]; exact hx
            clear hxy hx
            go_enter Tryd.func3, Tryd.ntmps3
            go_wp2_with fail
            have HBW := Lib.hid (chain1 (Below.refl w.heap.size w) (.cells #[.int .i64 x, .int .i64 y] 24))
            replace HT := Lib.hid (HT.out.below ((Below.refl _ _).alloc (Nat.le_refl _) (.cells #[.int .i64 x, .int .i64 y] 24)))
            replace HL := Lib.hid (HL.out.below ((Below.refl _ _).alloc (Nat.le_refl _) (.cells #[.int .i64 x, .int .i64 y] 24)))
            have Qo := Lib.hid (pairAt.new w (.int .i64 x) (.int .i64 y) 24)
            with_reducible refine (awake11 _ HT.out).mono ?_
            rintro e w1 ⟨rfl, hb1⟩
            replace HBW := Lib.hid (chain HBW.out hb1)
            replace HT := Lib.hid (HT.out.below hb1)
            replace HL := Lib.hid (HL.out.below hb1)
            replace Qo := Lib.hid (Qo.out.below hb1)
            clear hb1
            go_wp2_with fail
            with_reducible refine (CK _ HL.out).mono ?_
            rintro e w2 ⟨rfl, hb2⟩
            replace HBW := Lib.hid (chain HBW.out hb2)
            replace HT := Lib.hid (HT.out.below hb2)
            replace HL := Lib.hid (HL.out.below hb2)
            replace Qo := Lib.hid (Qo.out.below hb2)
            clear hb2
            go_wp2_with fail
            refine (TK _ HL.out HT.out).mono ?_
            rintro e w3 ⟨⟨v3, rfl, ho⟩, hb3⟩
            simp only at ho ⊢
            replace HBW := Lib.hid (chain HBW.out hb3)
            replace HT := Lib.hid (HT.out.below hb3)
            replace HL := Lib.hid (HL.out.below hb3)
            replace Qo := Lib.hid (Qo.out.below hb3)
            have HO := Lib.hid ho.segs
            clear ho
            clear hb3
            go_wp2_with fail
            clear HT
            replace HBW := Lib.hid (chain1 HBW.out (.cells #[.int .i64 (i : Int), .int .i64 (k : Int)] 24))
            replace HL := Lib.hid (HL.out.below ((Below.refl _ _).alloc (Nat.le_refl _) (.cells #[.int .i64 (i : Int), .int .i64 (k : Int)] 24)))
            replace HO := Lib.hid (HO.out.below ((Below.refl _ _).alloc (Nat.le_refl _) (.cells #[.int .i64 (i : Int), .int .i64 (k : Int)] 24)))
            replace Qo := Lib.hid (Qo.out.below ((Below.refl _ _).alloc (Nat.le_refl _) (.cells #[.int .i64 (i : Int), .int .i64 (k : Int)] 24)))
            have Qs := Lib.hid (pairAt.new w3 (.int .i64 (i : Int)) (.int .i64 (k : Int)) 24)
            have HC9 := FR _ _ HO.out
            refine (HC9).mono ?_
            rintro e w4 ⟨⟨v4, rfl, ho⟩, hb4⟩
            simp only at ho ⊢
            clear HC9
            replace HBW := Lib.hid (chain HBW.out hb4)
            replace HL := Lib.hid (HL.out.below hb4)
            replace HO := Lib.hid (HO.out.below hb4)
            replace Qo := Lib.hid (Qo.out.below hb4)
            replace Qs := Lib.hid (Qs.out.below hb4)
            have yQo := Qo.out.lt
            obtain ⟨aQo, bQo, _, _⟩ := Qo.out
            have yQs := Qs.out.lt
            obtain ⟨aQs, bQs, _, _⟩ := Qs.out
            have HF := Lib.hid ho.segs
            clear ho
            clear hb4
            go_wp2_with fail
            (refine region_later (by kernel_rfl) (by kernel_rfl) ?_); (intro hlat); (repeat (go_big_quiet_step ((first | (go_at_call 13; with_reducible exact later_call (HO1 _ (HL.out.below (later_below _ _)))) | (go_at_call 13; with_reducible exact later_call (HO2 _ _ (HO.out.below (later_below _ _)))))))); (refine wpQuiet_nil ?_); (intro w5 hb5); (clear hlat)
            replace HBW := Lib.hid (chain HBW.out hb5)
            replace HL := Lib.hid (HL.out.below hb5)
            replace HO := Lib.hid (HO.out.below hb5)
            replace HF := Lib.hid (HF.out.below hb5)
            replace Qo := Lib.hid (Qo.out.below hb5)
            replace Qs := Lib.hid (Qs.out.below hb5)
            clear yQo aQo bQo
            clear yQs aQs bQs
            have yQo := Qo.out.lt
            obtain ⟨aQo, bQo, _, _⟩ := Qo.out
            have yQs := Qs.out.lt
            obtain ⟨aQs, bQs, _, _⟩ := Qs.out
            clear hb5
            go_wp2_with fail
            with_reducible refine (HS1 _ HL.out).mono ?_
            rintro e w6 ⟨rfl, hb6⟩
            replace HBW := Lib.hid (chain HBW.out hb6)
            replace HL := Lib.hid (HL.out.below hb6)
            replace HO := Lib.hid (HO.out.below hb6)
            replace HF := Lib.hid (HF.out.below hb6)
            replace Qo := Lib.hid (Qo.out.below hb6)
            replace Qs := Lib.hid (Qs.out.below hb6)
            clear yQo aQo bQo
            clear yQs aQs bQs
            have yQo := Qo.out.lt
            obtain ⟨aQo, bQo, _, _⟩ := Qo.out
            have yQs := Qs.out.lt
            obtain ⟨aQs, bQs, _, _⟩ := Qs.out
            clear hb6
            go_wp2_with fail
            with_reducible refine (HS2 _ _ HO.out).mono ?_
            rintro e w7 ⟨rfl, hb7⟩
            replace HBW := Lib.hid (chain HBW.out hb7)
            replace HL := Lib.hid (HL.out.below hb7)
            replace HO := Lib.hid (HO.out.below hb7)
            replace HF := Lib.hid (HF.out.below hb7)
            replace Qo := Lib.hid (Qo.out.below hb7)
            replace Qs := Lib.hid (Qs.out.below hb7)
            clear yQo aQo bQo
            clear yQs aQs bQs
            have yQo := Qo.out.lt
            obtain ⟨aQo, bQo, _, _⟩ := Qo.out
            have yQs := Qs.out.lt
            obtain ⟨aQs, bQs, _, _⟩ := Qs.out
            clear hb7
            go_wp2_with fail
            have HC9 := SM _ _ HF.out HL.out
            with_reducible refine (HC9).mono ?_
            rintro e w8 ⟨rfl, hb8⟩
            replace HBW := Lib.hid (chain HBW.out hb8)
            replace HL := Lib.hid (HL.out.below hb8)
            replace HO := Lib.hid (HO.out.below hb8)
            replace HF := Lib.hid (HF.out.below hb8)
            replace Qo := Lib.hid (Qo.out.below hb8)
            replace Qs := Lib.hid (Qs.out.below hb8)
            clear yQo aQo bQo
            clear yQs aQs bQs
            have yQo := Qo.out.lt
            obtain ⟨aQo, bQo, _, _⟩ := Qo.out
            have yQs := Qs.out.lt
            obtain ⟨aQs, bQs, _, _⟩ := Qs.out
            clear hb8
            go_wp2_with fail
            with_reducible refine (CK2 _ _ HO.out).mono ?_
            rintro e w9 ⟨rfl, hb9⟩
            replace HBW := Lib.hid (chain HBW.out hb9)
            replace HL := Lib.hid (HL.out.below hb9)
            replace HO := Lib.hid (HO.out.below hb9)
            replace HF := Lib.hid (HF.out.below hb9)
            replace Qo := Lib.hid (Qo.out.below hb9)
            replace Qs := Lib.hid (Qs.out.below hb9)
            clear yQo aQo bQo
            clear yQs aQs bQs
            have yQo := Qo.out.lt
            obtain ⟨aQo, bQo, _, _⟩ := Qo.out
            have yQs := Qs.out.lt
            obtain ⟨aQs, bQs, _, _⟩ := Qs.out
            clear hb9
            go_wp2_with fail
            with_reducible refine (TN2 _ _ HO.out).mono ?_
            rintro e w10 ⟨rfl, hb10⟩
            replace HBW := Lib.hid (chain HBW.out hb10)
            replace HL := Lib.hid (HL.out.below hb10)
            replace HO := Lib.hid (HO.out.below hb10)
            replace HF := Lib.hid (HF.out.below hb10)
            replace Qo := Lib.hid (Qo.out.below hb10)
            replace Qs := Lib.hid (Qs.out.below hb10)
            clear yQo aQo bQo
            clear yQs aQs bQs
            have yQo := Qo.out.lt
            obtain ⟨aQo, bQo, _, _⟩ := Qo.out
            have yQs := Qs.out.lt
            obtain ⟨aQs, bQs, _, _⟩ := Qs.out
            clear hb10
            go_wp2_with fail
            with_reducible refine (TN1 _ HL.out).mono ?_
            rintro e w11 ⟨rfl, hb11⟩
            replace HBW := Lib.hid (chain HBW.out hb11)
            replace HL := Lib.hid (HL.out.below hb11)
            replace HO := Lib.hid (HO.out.below hb11)
            replace HF := Lib.hid (HF.out.below hb11)
            replace Qo := Lib.hid (Qo.out.below hb11)
            replace Qs := Lib.hid (Qs.out.below hb11)
            clear yQo aQo bQo
            clear yQs aQs bQs
            have yQo := Qo.out.lt
            obtain ⟨aQo, bQo, _, _⟩ := Qo.out
            have yQs := Qs.out.lt
            obtain ⟨aQs, bQs, _, _⟩ := Qs.out
            clear hb11
            go_wp2_with fail
            with_reducible refine (BY _).mono ?_
            rintro e w' ⟨rfl, rfl⟩
            go_wp2_with fail
            go_ret
            exact ⟨by first | rfl | (simp; done), HBW.out⟩
    · have CK := fun W (h : Segs W (.slice A n cc) n l) => chk_c _ n l W h
      rw [decide_eq_false hc] at CK
      clear hc HN
      go_enter Tryd.func3, Tryd.ntmps3
      go_wp2_with fail
      have HBW := Lib.hid (chain1 (Below.refl w.heap.size w) (.cells #[.int .i64 x, .int .i64 y] 24))
      replace HT := Lib.hid (HT.out.below ((Below.refl _ _).alloc (Nat.le_refl _) (.cells #[.int .i64 x, .int .i64 y] 24)))
      replace HL := Lib.hid (HL.out.below ((Below.refl _ _).alloc (Nat.le_refl _) (.cells #[.int .i64 x, .int .i64 y] 24)))
      have Qo := Lib.hid (pairAt.new w (.int .i64 x) (.int .i64 y) 24)
      with_reducible refine (awake11 _ HT.out).mono ?_
      rintro e w1 ⟨rfl, hb1⟩
      replace HBW := Lib.hid (chain HBW.out hb1)
      replace HT := Lib.hid (HT.out.below hb1)
      replace HL := Lib.hid (HL.out.below hb1)
      replace Qo := Lib.hid (Qo.out.below hb1)
      clear hb1
      go_wp2_with fail
      with_reducible refine (CK _ HL.out).mono ?_
      rintro e w2 ⟨rfl, hb2⟩
      replace HBW := Lib.hid (chain HBW.out hb2)
      replace HT := Lib.hid (HT.out.below hb2)
      replace HL := Lib.hid (HL.out.below hb2)
      replace Qo := Lib.hid (Qo.out.below hb2)
      clear hb2
      go_wp2_with fail
      go_ret
      exact ⟨by first | rfl | (simp; done), HBW.out⟩
  · have hn' : (100 : Int) < (n : Int) := by omega
    clear hcap hl hu hs
    go_enter Tryd.func3, Tryd.ntmps3
    go_wp2_with fail
    have HBW := Lib.hid (chain1 (Below.refl w.heap.size w) (.cells #[.int .i64 x, .int .i64 y] 24))
    replace HT := Lib.hid (HT.out.below ((Below.refl _ _).alloc (Nat.le_refl _) (.cells #[.int .i64 x, .int .i64 y] 24)))
    have Qo := Lib.hid (pairAt.new w (.int .i64 x) (.int .i64 y) 24)
    with_reducible refine (awake11 _ HT.out).mono ?_
    rintro e w1 ⟨rfl, hb1⟩
    replace HBW := Lib.hid (chain HBW.out hb1)
    replace HT := Lib.hid (HT.out.below hb1)
    replace Qo := Lib.hid (Qo.out.below hb1)
    clear hb1
    go_wp2_with fail
    go_ret
    exact ⟨by first | rfl | (simp; done), HBW.out⟩
end Go.Proofs.Tryd
