/- heap: Set. -/
import Derived.Test.YtgkiijpheigpjaaHpF
namespace Go.Proofs.Try
open Go.RowKit
set_option linter.unusedVariables false
set_option linter.unusedSimpArgs false
/-- A block whose first three cells are these. -/
def tri (W : World) (b : Nat) (x y z : Value) : Prop := W.cell? ⟨b, 0, none⟩ = some x ∧ W.cell? ⟨b, 1, none⟩ = some y ∧ W.cell? ⟨b, 2, none⟩ = some z ∧ b < W.heap.size
theorem tri.below {W W' : World} {b : Nat} {x y z : Value} (h : tri W b x y z) (hb : Below W.heap.size W W') : tri W' b x y z :=
  ⟨(hb.cell (p := ⟨b, 0, none⟩) h.2.2.2).trans h.1, (hb.cell (p := ⟨b, 1, none⟩) h.2.2.2).trans h.2.1, (hb.cell (p := ⟨b, 2, none⟩) h.2.2.2).trans h.2.2.1, Nat.lt_of_lt_of_le h.2.2.2 hb.size⟩
theorem tri.belowB {W W' : World} {b B : Nat} {x y z : Value} (h : tri W b x y z) (hb : Below B W W') (hlt : b < B) : tri W' b x y z :=
  ⟨(hb.cell (p := ⟨b, 0, none⟩) hlt).trans h.1, (hb.cell (p := ⟨b, 1, none⟩) hlt).trans h.2.1, (hb.cell (p := ⟨b, 2, none⟩) hlt).trans h.2.2.1, Nat.lt_of_lt_of_le h.2.2.2 hb.size⟩
theorem tri.alloc {W : World} {b : Nat} {x y z : Value} (h : tri W b x y z) (o : Obj) : tri (W.alloc o) b x y z := h.below ((Below.refl _ _).alloc (Nat.le_refl _) _)
theorem tri.new (w : World) (x y z : Value) (T : TypeId) : tri (w.alloc (.cells #[x, y, z] T)) w.heap.size x y z := ⟨by simp, by simp, by simp, by simp⟩
theorem sees_blk (w : World) (cs : Array Value) (t : TypeId) (k n : Nat) (h : cs.size = n * k) : Sees (w.alloc (.cells cs t)) k (some ⟨w.heap.size, 0, none⟩) n cs.toList := by
  refine ⟨by simpa using h, .inr ⟨_, _, rfl, by simp, fun j hj => ?_⟩⟩
  rw [Nat.zero_add, cell_of_row _ _ j cs t (0, 0) (heap_alloc_new w _)]
  simp
/-- How Set and Drop end. -/
def SetE (R : List It → Int → Prop) (w : World) (e : Ending) (w' : World) : Prop := ∃ v' l' E, e = .returned (.tuple #[v', .int .i64 E]) ∧ R l' E ∧ Rows encI 3 w' v' l'.length l' ∧ Below w.heap.size w w'
theorem own_rows {w : World} {base : Nat} {e : TypeId} {v : Value} {n : Nat} {l : List It} (h : w.ownsRow base e 3 v n (flat encI l)) (hn : n ≤ 100000) : Rows encI 3 w v l.length l := by
  have hl := own_len h
  subst hl
  exact Rows.of_own h rfl hn
theorem own_some {w : World} {base : Nat} {e : TypeId} {v : Value} {n : Nat} {xs : List Value} (h : w.ownsRow base e 3 v n xs) (hn : n ≠ 0) : ∃ g c, v = .slice (some ⟨g, 0, none⟩) n c ∧ base ≤ g ∧ n ≤ c := by
  rcases h.2 with ⟨_, h0⟩ | ⟨g, cap, cur, rfl, hb, _, hnc, _⟩
  · exact absurd h0 hn
  · exact ⟨g, cap, rfl, hb, hnc⟩
set_option maxRecDepth 100000 in
set_option maxHeartbeats 4000000 in
theorem set_c (v : Value) (n : Nat) (l : List It) (x0 x1 x2 : Int) (hn : n ≤ 1000) (w : World) (h : Rows encI 3 w v n l) :
    Calls Try.prog 26 #[v, .agg #[.int .i64 x0, .int .u64 x1, .int .u64 x2]] w (SetE (SetP l (x0, x1, x2)) w) := by
  have HS := Lib.hid (h.below ((Below.refl w.heap.size w).alloc (Nat.le_refl _) (.cells #[.int .i64 x0, .int .u64 x1, .int .u64 x2] 25)))
  have HP := Lib.hid (tri.new w (.int .i64 x0) (.int .u64 x1) (.int .u64 x2) 25)
  have HB := Lib.hid (chain1 (Below.refl w.heap.size w) (.cells #[.int .i64 x0, .int .u64 x1, .int .u64 x2] 25))
  have HL := Lib.hid h.len
  have CL := fun W (h : Rows encI 3 W v n l) => cloneI_c v n l W h
  have CK := fun W (h : Rows encI 3 W v n l) => checkh_c v n l W h
  clear h
  go_enter Try.func26, Try.ntmps26
  go_wp2_with fail
  refine (CL _ HS.out).mono ?_
  rintro e w1 ⟨⟨v1, rfl, ho⟩, hb1⟩
  replace HS := Lib.hid (HS.out.below hb1)
  replace HP := Lib.hid (HP.out.below hb1)
  replace HB := Lib.hid (chain HB.out hb1)
  have HO := Lib.hid (own_mono' (base' := w.heap.size + 1) ho (by simp))
  clear ho hb1 CL
  go_wp2_with fail
  by_cases hc : chkI l
  · rw [decide_eq_true hc] at CK
    have HC := Lib.hid hc
    clear hc
    refine (CK _ HS.out).mono ?_
    rintro e w2 ⟨rfl, hb2⟩
    replace HO := Lib.hid (own_below' HO.out hb2)
    replace HP := Lib.hid (HP.out.below hb2)
    replace HB := Lib.hid (chain HB.out hb2)
    clear hb2 HS CK
    obtain ⟨p0, p1, p2, hpl⟩ := HP.out
    by_cases hr : 0 ≤ x0 ∧ x0 < 64
    · have HR := Lib.hid hr
      have N1 := fun W => named_yes x0 hr.1 hr.2 W
      clear hr
      go_wp2_with fail
      with_reducible refine (N1 _).mono ?_
      rintro e w' ⟨rfl, rfl⟩
      have HRW := Lib.hid (Rows.of_own HO.out HL.out (by omega))
      have F1 := fun W (h : Rows encI 3 W v1 n l) => find_c v1 n l x0 W h
      rcases fndI_cases l x0 with ⟨e1, e2⟩ | ⟨j, hj, e1, e2, e3⟩
      · rw [e1] at F1
        have HN := Lib.hid e2
        clear e1 e2
        go_wp2_with fail
        refine (F1 _ HRW.out).mono ?_
        rintro e w3 ⟨rfl, hb3⟩
        replace HO := Lib.hid (own_below' HO.out hb3)
        replace HP := Lib.hid (HP.out.below hb3)
        replace HB := Lib.hid (chain HB.out hb3)
        clear hb3 HRW F1 p0 p1 p2 hpl
        obtain ⟨p0, p1, p2, hpl⟩ := HP.out
        obtain ⟨i0, hi, hz0, hz1, hz2⟩ := info_parts item_info
        obtain ⟨A1, c1, rfl, hc1, hs1⟩ := Sees.of_own HO.out
        have hbz := HB.out.size
        clear hs1
        have HNK := Lib.hid (almost_app HC.out.2.2 (x0, x1, x2))
        have HLN : (l ++ [(x0, x1, x2)]).length = n + 1 := by rw [List.length_append, HL.out]; rfl
        have HLN2 := Lib.hid HLN
        clear HLN
        go_wp2_with (at_builtin
                     refine wpList_app rfl (.tmp 27) (.tmp 29) _ rfl (w.heap.size + 1) 25 i0 _ 3 24 Try.underlying22 hi hz0 hz1 hz2 rfl (by omega) (.slice A1 n c1) n (flat encI l) rfl (HO.out.alloc _) (some ⟨w3.heap.size, 0, none⟩) 1 1 [.int .i64 x0, .int .u64 x1, .int .u64 x2] rfl (cap_some (by omega)) (sees_blk _ _ _ 3 1 rfl) (by simp [Value.oneCell']) (by unfold maxLen; omega) (by omega) (by simp; omega) ?_
                     intro v4 w4 hown4 hb4
                     have HB4 := Lib.hid ((chain1 HB.out (.cells #[.int .i64 x0, .int .u64 x1, .int .u64 x2] 25)).trans (hb4.mono (by omega)))
                     have hp4 := (HP.out.alloc (.cells #[.int .i64 x0, .int .u64 x1, .int .u64 x2] 25)).belowB hb4 (by omega)
                     obtain ⟨r0, r1, r2, hrl⟩ := hp4
                     rw [show flat encI l ++ [Value.int .i64 x0, .int .u64 x1, .int .u64 x2] = flat encI (l ++ [(x0, x1, x2)]) by rw [flat_app]; rfl] at hown4
                     obtain ⟨g, c4, rfl, hg4, hc4⟩ := own_some hown4 (by omega)
                     have HO4 := Lib.hid hown4
                     obtain ⟨_, f0, f1, f2, hgl⟩ := own_item hown4 (j := n) (by omega)
                     obtain ⟨⟨d0, d1, d2⟩, _⟩ := own_item hown4 (j := n) (by omega)
                     clear p0 p1 p2 hpl hown4 hb4)
        obtain ⟨o1, g1⟩ := flat_set_own (l ++ [(x0, x1, x2)]) n (by rw [HLN2.out]; omega) x0 x1 x2 HO4.out
        rw [show (l ++ [(x0, x1, x2)]).set n (x0, x1, x2) = l ++ [(x0, x1, x2)] by
          have := HL.out
          apply List.ext_getElem?
          intro i
          rw [List.getElem?_set]
          by_cases h : n = i
          · subst h; simp [this]
          · rw [if_neg h]] at o1
        have ST := settle_c g (n + 1) c4 (w.heap.size + 1) (l ++ [(x0, x1, x2)]) n (by omega) (by omega) (by have := HNK.out; rwa [HL.out] at this) _ o1
        have HG1 := Lib.hid g1
        clear o1 g1 d0 d1 d2 f0 f1 f2
        refine ST.mono ?_
        rintro e w5 ⟨l', rfl, ⟨hp5, hh5⟩, ho5, hg5⟩
        have hbz4 := HB4.out.size
        have HB5 := Lib.hid (HB4.out.grown (HG1.out.trans hg5) hbz4 (fun k hk => by injection hk with hk; omega))
        have HO5 := Lib.hid ho5
        have HPP := Lib.hid hp5
        have HHH := Lib.hid hh5
        clear ho5 hg5 hp5 hh5 ST
        go_wp2_with fail
        go_ret2
        have hpw : l'.Perm ((x0, x1, x2) :: wo l x0) := by
          rw [wo_not HN.out]
          exact HPP.out.trans (List.perm_append_comm)
        exact ⟨_, l', 0, rfl, .inr (.inr ⟨HC.out, HR.out, rfl, chk_of_set HC.out (by exact HR.out) hpw HHH.out, hpw⟩), own_rows HO5.out (by omega), HB5.out⟩
      · rw [e1] at F1
        subst e2
        have hjn : j < n := by rw [← HL.out]; exact hj
        have hjd : decide ((j : Int) < 0) = false := by simp
        have HJ := Lib.hid hj
        clear e1 hj
        go_wp2_with fail
        refine (F1 _ HRW.out).mono ?_
        rintro e w3 ⟨rfl, hb3⟩
        replace HO := Lib.hid (own_below' HO.out hb3)
        replace HP := Lib.hid (HP.out.below hb3)
        replace HB := Lib.hid (chain HB.out hb3)
        clear hb3 HRW F1 p0 p1 p2 hpl
        obtain ⟨p0, p1, p2, hpl⟩ := HP.out
        obtain ⟨g, c4, rfl, hg4, hc4⟩ := own_some HO.out (by omega)
        obtain ⟨⟨d0, d1, d2⟩, f0, f1, f2, hgl⟩ := own_item HO.out hjn
        have hji : (j : Int) < (n : Int) := by omega
        obtain ⟨o1, g1⟩ := flat_set_own l j HJ.out (atI l j).1 x1 x2 HO.out
        have ST := settle_c g n c4 (w.heap.size + 1) _ j hjn (by omega) (almost_set HC.out.2.2 HJ.out _) _ o1
        have HG1 := Lib.hid g1
        have HSW := Lib.hid (set_wo HC.out.2.1 HJ.out ((atI l j).1, x1, x2))
        clear o1 g1
        go_wp2_with fail
        refine ST.mono ?_
        rintro e w5 ⟨l', rfl, ⟨hp5, hh5⟩, ho5, hg5⟩
        have hbz4 := HB.out.size
        have HB5 := Lib.hid (HB.out.grown (HG1.out.trans hg5) hbz4 (fun k hk => by injection hk with hk; omega))
        have HO5 := Lib.hid ho5
        have HPP := Lib.hid hp5
        have HHH := Lib.hid hh5
        clear ho5 hg5 hp5 hh5 ST
        go_wp2_with fail
        go_ret2
        have hpw := HPP.out.trans HSW.out
        exact ⟨_, l', 0, rfl, .inr (.inr ⟨HC.out, HR.out, rfl, chk_of_set HC.out (by exact HR.out) hpw HHH.out, hpw⟩), own_rows HO5.out (by omega), HB5.out⟩
    · have HR := Lib.hid hr
      have N1 := fun W => named_no x0 (by omega) W
      clear hr
      go_wp2_with fail
      with_reducible refine (N1 _).mono ?_
      rintro e w' ⟨rfl, rfl⟩
      go_wp2_with fail
      go_ret2
      exact ⟨v1, l, 110, rfl, .inr (.inl ⟨HC.out, HR.out, rfl, rfl⟩), own_rows HO.out (by omega), HB.out⟩
  · rw [decide_eq_false hc] at CK
    refine (CK _ HS.out).mono ?_
    rintro e w2 ⟨rfl, hb2⟩
    go_wp2_with fail
    go_ret2
    exact ⟨v1, l, 120, rfl, .inl ⟨hc, rfl, rfl⟩, own_rows (own_below' HO.out hb2) (by omega), chain HB.out hb2⟩
end Go.Proofs.Try
