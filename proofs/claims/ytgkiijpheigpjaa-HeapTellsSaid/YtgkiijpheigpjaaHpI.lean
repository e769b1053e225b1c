/- heap: Drop, Find, Min. -/
import Derived.Test.YtgkiijpheigpjaaHpG
namespace Go.Proofs.Try
open Go.RowKit
set_option linter.unusedVariables false
set_option linter.unusedSimpArgs false
set_option maxRecDepth 100000 in
set_option maxHeartbeats 4000000 in
theorem drop_c (v : Value) (n : Nat) (l : List It) (z : Int) (hn : n ≤ 1000) (w : World) (h : Rows encI 3 w v n l) :
    Calls Try.prog 27 #[v, .int .i64 z] w (SetE (DropP l z) w) := by
  have HS := Lib.hid h
  have HL := Lib.hid h.len
  have CL := fun W (h : Rows encI 3 W v n l) => cloneI_c v n l W h
  have CK := fun W (h : Rows encI 3 W v n l) => checkh_c v n l W h
  have F1 := fun W (h : Rows encI 3 W v n l) => find_c v n l z W h
  clear h
  go_enter Try.func27, Try.ntmps27
  go_wp2_with fail
  refine (CL _ HS.out).mono ?_
  rintro e w1 ⟨⟨v1, rfl, ho⟩, hb1⟩
  replace HS := Lib.hid (HS.out.below hb1)
  have HB := Lib.hid hb1
  have HO := Lib.hid ho
  clear ho hb1 CL
  go_wp2_with fail
  refine (F1 _ HS.out).mono ?_
  rintro e w2 ⟨rfl, hb2⟩
  replace HS := Lib.hid (HS.out.below hb2)
  replace HB := Lib.hid (chain HB.out hb2)
  replace HO := Lib.hid (own_below' HO.out hb2)
  clear hb2 F1
  rcases fndI_cases l z with ⟨e1, e2⟩ | ⟨j, hj, e1, e2, e3⟩
  · rw [e1]
    have HN := Lib.hid e2
    clear e1 e2
    go_wp2_with fail
    go_ret2
    exact ⟨v1, l, 120, rfl, .inl ⟨fun h => by rw [HN.out] at h; exact absurd h.2 (by simp), rfl, rfl⟩, own_rows HO.out (by omega), HB.out⟩
  · rw [e1]
    have HE := Lib.hid e2
    have HH := Lib.hid e3
    have hjn : j < n := by rw [← HL.out]; exact hj
    have hjd : decide ((j : Int) < 0) = false := by simp
    have HJ := Lib.hid hj
    clear e1 e2 e3 hj
    by_cases hc : chkI l
    · rw [decide_eq_true hc] at CK
      have HC := Lib.hid hc
      clear hc
      go_wp2_with fail
      refine (CK _ HS.out).mono ?_
      rintro e w3 ⟨rfl, hb3⟩
      replace HB := Lib.hid (chain HB.out hb3)
      replace HO := Lib.hid (own_below' HO.out hb3)
      clear hb3 CK HS
      obtain ⟨m, rfl⟩ : ∃ m, n = m + 1 := ⟨n - 1, by omega⟩
      obtain ⟨g, c4, rfl, hg4, hc4⟩ := own_some HO.out (by omega)
      obtain ⟨⟨d0, d1, d2⟩, f0, f1, f2, hgl⟩ := own_item HO.out (j := m) (by omega)
      obtain ⟨⟨b0, b1, b2⟩, k0, k1, k2, _⟩ := own_item HO.out hjn
      have hji : (j : Int) ≤ (m : Int) := by omega
      have hmc : (m : Int) ≤ (c4 : Int) := by omega
      have hmc' : m ≤ c4 := by omega
      obtain ⟨o1, g1⟩ := flat_set_own l j HJ.out (atI l m).1 (atI l m).2.1 (atI l m).2.2 HO.out
      have o2 := own_cut o1 m (by omega)
      rw [flat_take encI_len] at o2
      have HLM : l.length - 1 = m := by rw [HL.out]; rfl
      have HLM2 := Lib.hid HLM
      have HG1 := Lib.hid g1
      have HO2 := Lib.hid o2
      clear o1 g1 o2 HLM
      have hbz := HB.out.size
      by_cases hjm : j = m
      · subst hjm
        have HT := Lib.hid (show (l.set j ((atI l j).1, (atI l j).2.1, (atI l j).2.2)).take j = l.take j by rw [List.take_set_of_le (Nat.le_refl _)])
        go_wp2_with fail
        go_ret2
        have hp : (l.take j).Perm (wo l z) := by
          have := last_wo HC.out.2.1 (by rw [HLM2.out]; exact HJ.out)
          rw [HLM2.out, HE.out] at this
          exact this
        refine ⟨_, l.take j, 0, rfl, .inr ⟨HC.out, HH.out, rfl, chk_take HC.out j, hp⟩, ?_, HB.out.grown HG1.out hbz (fun k hk => by injection hk with hk; omega)⟩
        have := own_rows HO2.out (by omega)
        rw [HT.out] at this
        exact this
      · have hne1 : ((j : Int) == (m : Int)) = false := by rw [beq_eq_false_iff_ne]; omega
        have hne2 : (j == m) = false := by rw [beq_eq_false_iff_ne]; omega
        have hjm2 : j < m := by omega
        have hjT : j < (l.take m).length := by rw [List.length_take]; have := HJ.out; omega
        have HT := Lib.hid (show (l.set j ((atI l m).1, (atI l m).2.1, (atI l m).2.2)).take m = (l.take m).set j (atI l m) by rw [List.take_set])
        have ST := settle_c g m c4 w.heap.size ((l.take m).set j (atI l m)) j hjm2 (by omega) (almost_set (heap_cut HC.out.2.2 m (by rw [HL.out]; omega)) hjT _) _ (by have := HO2.out; rwa [HT.out] at this)
        clear hjm
        go_wp2_with fail
        refine ST.mono ?_
        rintro e w5 ⟨l', rfl, ⟨hp5, hh5⟩, ho5, hg5⟩
        have HB5 := Lib.hid (HB.out.grown (HG1.out.trans hg5) hbz (fun k hk => by injection hk with hk; omega))
        have HO5 := Lib.hid ho5
        have HPP := Lib.hid hp5
        have HHH := Lib.hid hh5
        clear ho5 hg5 hp5 hh5 ST d0 d1 d2 b0 b1 b2 f0 f1 f2 k0 k1 k2
        go_wp2_with fail
        go_ret2
        have hp : l'.Perm (wo l z) := by
          have := drop_wo HC.out.2.1 HJ.out (by rw [HLM2.out]; omega)
          rw [HLM2.out, HE.out, List.take_set] at this
          exact HPP.out.trans this
        exact ⟨_, l', 0, rfl, .inr ⟨HC.out, HH.out, rfl, chk_of_drop HC.out hp HHH.out, hp⟩, own_rows HO5.out (by omega), HB5.out⟩
    · rw [decide_eq_false hc] at CK
      go_wp2_with fail
      refine (CK _ HS.out).mono ?_
      rintro e w3 ⟨rfl, hb3⟩
      go_wp2_with fail
      go_ret2
      exact ⟨v1, l, 120, rfl, .inl ⟨fun h => hc h.1, rfl, rfl⟩, own_rows (own_below' HO.out hb3) (by omega), chain HB.out hb3⟩
/-- A block of the call's own whose three cells are these, and may be written. -/
def triW (W : World) (b : Nat) (x y z : Value) : Prop := tri W b x y z ∧ W.frozen? ⟨b, 0, none⟩ = false ∧ W.frozen? ⟨b, 1, none⟩ = false ∧ W.frozen? ⟨b, 2, none⟩ = false
theorem triW.below {W W' : World} {b : Nat} {x y z : Value} (h : triW W b x y z) (hb : Below W.heap.size W W') : triW W' b x y z :=
  ⟨h.1.below hb, (hb.frozen (p := ⟨b, 0, none⟩) h.1.2.2.2).trans h.2.1, (hb.frozen (p := ⟨b, 1, none⟩) h.1.2.2.2).trans h.2.2.1, (hb.frozen (p := ⟨b, 2, none⟩) h.1.2.2.2).trans h.2.2.2⟩
theorem frozen_new3 (w : World) (cs : Array Value) (T : TypeId) (j : Nat) : (w.alloc (.cells cs T)).frozen? ⟨w.heap.size, j, none⟩ = false := by
  have h : (w.alloc (.cells cs T)).heap[w.heap.size]? = some (.cells cs T (0, 0)) := heap_alloc_new w _
  unfold World.frozen?
  simp only
  rw [h]
  simp
theorem triW.new (w : World) (x y z : Value) (T : TypeId) : triW (w.alloc (.cells #[x, y, z] T)) w.heap.size x y z := ⟨tri.new w x y z T, frozen_new3 _ _ _ _, frozen_new3 _ _ _ _, frozen_new3 _ _ _ _⟩
theorem triW.set {W : World} {b : Nat} {x y z : Value} (h : triW W b x y z) (x' y' z' : Value) : tri (((W.setCell ⟨b, 0, none⟩ x').setCell ⟨b, 1, none⟩ y').setCell ⟨b, 2, none⟩ z') b x' y' z' := by
  obtain ⟨⟨h0, h1, h2, hl⟩, _⟩ := h
  have e1 : (W.setCell ⟨b, 0, none⟩ x').cell? ⟨b, 1, none⟩ = some y := (World.cell?_setCell_other _ _ _ _ (by simp)).trans h1
  have e2 : ((W.setCell ⟨b, 0, none⟩ x').setCell ⟨b, 1, none⟩ y').cell? ⟨b, 2, none⟩ = some z := (World.cell?_setCell_other _ _ _ _ (by simp)).trans ((World.cell?_setCell_other _ _ _ _ (by simp)).trans h2)
  refine ⟨?_, ?_, World.cell?_setCell_same _ _ _ e2, by simpa using hl⟩
  · exact (World.cell?_setCell_other _ _ _ _ (by simp)).trans ((World.cell?_setCell_other _ _ _ _ (by simp)).trans (World.cell?_setCell_same _ _ _ h0))
  · exact (World.cell?_setCell_other _ _ _ _ (by simp)).trans (World.cell?_setCell_same _ _ _ e1)
/-- How Find and Min end. -/
def FindE (R : It → Bool → Prop) (w : World) (e : Ending) (w' : World) : Prop := ∃ (i p q : Int) (b : Bool), e = .returned (.tuple #[.agg #[.int .i64 i, .int .u64 p, .int .u64 q], .bool b]) ∧ R (i, p, q) b ∧ Below w.heap.size w w'
def FindP (l : List It) (z : Int) (x : It) (b : Bool) : Prop := (chkI l ∧ hasI l z = true ∧ x ∈ l ∧ x.1 = z ∧ b = true) ∨ (¬(chkI l ∧ hasI l z = true) ∧ x = (0, 0, 0) ∧ b = false)
def MinP (l : List It) (x : It) (b : Bool) : Prop := (chkI l ∧ l ≠ [] ∧ x = atI l 0 ∧ b = true) ∨ (¬(chkI l ∧ l ≠ []) ∧ x = (0, 0, 0) ∧ b = false)
set_option maxRecDepth 100000 in
set_option maxHeartbeats 4000000 in
theorem findh_c (v : Value) (n : Nat) (l : List It) (z : Int) (hn : n ≤ 1000) (w : World) (h : Rows encI 3 w v n l) :
    Calls Try.prog 17 #[v, .int .i64 z] w (FindE (FindP l z) w) := by
  have HS := Lib.hid (h.below ((Below.refl w.heap.size w).alloc (Nat.le_refl _) (.cells #[.int .i64 0, .int .u64 0, .int .u64 0] 25)))
  have HT := Lib.hid (triW.new w (.int .i64 0) (.int .u64 0) (.int .u64 0) 25)
  have HB := Lib.hid (chain1 (Below.refl w.heap.size w) (.cells #[.int .i64 0, .int .u64 0, .int .u64 0] 25))
  have HL := Lib.hid h.len
  have CK := fun W (h : Rows encI 3 W v n l) => checkh_c v n l W h
  have F1 := fun W (h : Rows encI 3 W v n l) => find_c v n l z W h
  clear h
  go_enter Try.func17, Try.ntmps17
  go_wp2_with fail
  refine (F1 _ HS.out).mono ?_
  rintro e w1 ⟨rfl, hb1⟩
  replace HS := Lib.hid (HS.out.below hb1)
  replace HB := Lib.hid (chain HB.out hb1)
  replace HT := Lib.hid (HT.out.below hb1)
  clear hb1 F1
  rcases fndI_cases l z with ⟨e1, e2⟩ | ⟨j, hj, e1, e2, e3⟩
  · rw [e1]
    have HN := Lib.hid e2
    clear e1 e2
    obtain ⟨⟨c0, c1, c2, hl⟩, f0, f1, f2⟩ := HT.out
    go_wp2_with fail
    obtain ⟨r0, r1, r2, _⟩ := HT.out.set (.int .i64 0) (.int .u64 0) (.int .u64 0)
    refine bodyPost_ret (by simp [results, Try.results17, go_sem, r0, r1, r2]; try rfl) rfl ?_
    exact ⟨0, 0, 0, false, rfl, .inr ⟨fun h => by rw [HN.out] at h; exact absurd h.2 (by simp), rfl, rfl⟩, by have := HB.out; (repeat' (first | (with_reducible exact Below.refl _ _) | (with_reducible assumption) | (with_reducible refine Below.alloc ?_ ?_ _) | (with_reducible refine Below.drew ?_) | (with_reducible refine Below_drewN ?_ _) | (with_reducible refine Below.setCell ?_ ?_ _) | (refine Below.step (B' := ?_) (b := ?_) ?_ ?_ ?_; rotate_left 2; (with_reducible assumption)) | go_size))⟩
  · rw [e1]
    have HE := Lib.hid e2
    have HH := Lib.hid e3
    have hjn : j < n := by rw [← HL.out]; exact hj
    have hjd : decide ((j : Int) < 0) = false := by simp
    have HJ := Lib.hid hj
    clear e1 e2 e3 hj
    by_cases hc : chkI l
    · rw [decide_eq_true hc] at CK
      have HC := Lib.hid hc
      clear hc
      go_wp2_with fail
      refine (CK _ HS.out).mono ?_
      rintro e w3 ⟨rfl, hb3⟩
      replace HS := Lib.hid (HS.out.below hb3)
      replace HB := Lib.hid (chain HB.out hb3)
      replace HT := Lib.hid (HT.out.below hb3)
      clear hb3 CK
      obtain ⟨A, c, rfl, hcc, _, _, hs⟩ := HS.out
      obtain ⟨b, off, rfl, _⟩ := Rows.some hs (by omega)
      obtain ⟨d0, d1, d2, hbl⟩ := hs.item hjn
      have hji : (j : Int) < (n : Int) := by omega
      obtain ⟨⟨c0, c1, c2, hl⟩, f0, f1, f2⟩ := HT.out
      have HM := Lib.hid (List.mem_of_getElem? (atI_some HJ.out))
      clear hs
      go_wp2_with fail
      obtain ⟨r0, r1, r2, _⟩ := HT.out.set (.int .i64 (atI l j).1) (.int .u64 (atI l j).2.1) (.int .u64 (atI l j).2.2)
      refine bodyPost_ret (by simp [results, Try.results17, go_sem, r0, r1, r2]; try rfl) rfl ?_
      exact ⟨_, _, _, true, rfl, .inl ⟨HC.out, HH.out, HM.out, HE.out, rfl⟩, by have := HB.out; (repeat' (first | (with_reducible exact Below.refl _ _) | (with_reducible assumption) | (with_reducible refine Below.alloc ?_ ?_ _) | (with_reducible refine Below.drew ?_) | (with_reducible refine Below_drewN ?_ _) | (with_reducible refine Below.setCell ?_ ?_ _) | (refine Below.step (B' := ?_) (b := ?_) ?_ ?_ ?_; rotate_left 2; (with_reducible assumption)) | go_size))⟩
    · rw [decide_eq_false hc] at CK
      have HC := Lib.hid hc
      clear hc
      go_wp2_with fail
      refine (CK _ HS.out).mono ?_
      rintro e w3 ⟨rfl, hb3⟩
      replace HB := Lib.hid (chain HB.out hb3)
      replace HT := Lib.hid (HT.out.below hb3)
      clear hb3 CK HS
      obtain ⟨⟨c0, c1, c2, hl⟩, f0, f1, f2⟩ := HT.out
      go_wp2_with fail
      obtain ⟨r0, r1, r2, _⟩ := HT.out.set (.int .i64 0) (.int .u64 0) (.int .u64 0)
      refine bodyPost_ret (by simp [results, Try.results17, go_sem, r0, r1, r2]; try rfl) rfl ?_
      exact ⟨0, 0, 0, false, rfl, .inr ⟨fun h => HC.out h.1, rfl, rfl⟩, by have := HB.out; (repeat' (first | (with_reducible exact Below.refl _ _) | (with_reducible assumption) | (with_reducible refine Below.alloc ?_ ?_ _) | (with_reducible refine Below.drew ?_) | (with_reducible refine Below_drewN ?_ _) | (with_reducible refine Below.setCell ?_ ?_ _) | (refine Below.step (B' := ?_) (b := ?_) ?_ ?_ ?_; rotate_left 2; (with_reducible assumption)) | go_size))⟩
set_option maxRecDepth 100000 in
set_option maxHeartbeats 4000000 in
theorem min_c (v : Value) (n : Nat) (l : List It) (hn : n ≤ 1000) (w : World) (h : Rows encI 3 w v n l) :
    Calls Try.prog 19 #[v] w (FindE (MinP l) w) := by
  have HS := Lib.hid (h.below ((Below.refl w.heap.size w).alloc (Nat.le_refl _) (.cells #[.int .i64 0, .int .u64 0, .int .u64 0] 25)))
  have HT := Lib.hid (triW.new w (.int .i64 0) (.int .u64 0) (.int .u64 0) 25)
  have HB := Lib.hid (chain1 (Below.refl w.heap.size w) (.cells #[.int .i64 0, .int .u64 0, .int .u64 0] 25))
  have HL := Lib.hid h.len
  have CK := fun W (h : Rows encI 3 W v n l) => checkh_c v n l W h
  obtain ⟨A, c, rfl, hcc, _, _, hs0⟩ := h
  clear hs0
  by_cases hn0 : n = 0
  · subst hn0
    have HN := Lib.hid (show l = [] from List.eq_nil_of_length_eq_zero HL.out)
    go_enter Try.func19, Try.ntmps19
    go_wp2_with fail
    refine bodyPost_ret (by simp [results, Try.results19, go_sem, World.heap]; try rfl) rfl ?_
    exact ⟨0, 0, 0, false, rfl, .inr ⟨fun h => h.2 HN.out, rfl, rfl⟩, by (repeat' (first | (with_reducible exact Below.refl _ _) | (with_reducible assumption) | (with_reducible refine Below.alloc ?_ ?_ _) | (with_reducible refine Below.drew ?_) | (with_reducible refine Below_drewN ?_ _) | (with_reducible refine Below.setCell ?_ ?_ _) | (refine Below.step (B' := ?_) (b := ?_) ?_ ?_ ?_; rotate_left 2; (with_reducible assumption)) | go_size))⟩
  · have hni : ((n : Int) == 0) = false := by rw [beq_eq_false_iff_ne]; omega
    have hnn : (n == 0) = false := by rw [beq_eq_false_iff_ne]; omega
    have hnp : 0 < n := by omega
    have hnpi : (0 : Int) < (n : Int) := by omega
    have HN := Lib.hid (show l ≠ [] from fun e => by have := HL.out; rw [e] at this; simp at this; omega)
    clear hn0
    by_cases hc : chkI l
    · rw [decide_eq_true hc] at CK
      have HC := Lib.hid hc
      clear hc
      go_enter Try.func19, Try.ntmps19
      go_wp2_with fail
      refine (CK _ HS.out).mono ?_
      rintro e w3 ⟨rfl, hb3⟩
      replace HS := Lib.hid (HS.out.below hb3)
      replace HB := Lib.hid (chain HB.out hb3)
      replace HT := Lib.hid (HT.out.below hb3)
      clear hb3 CK
      obtain ⟨A', c', he, _, _, _, hs⟩ := HS.out
      injection he with e1 _ e3
      subst e1
      obtain ⟨b, off, rfl, _⟩ := Rows.some hs (by omega)
      obtain ⟨d0, d1, d2, hbl⟩ := hs.item hnp
      rw [Nat.zero_mul, Nat.add_zero] at d0 d1 d2
      obtain ⟨⟨c0, c1, c2, hl⟩, f0, f1, f2⟩ := HT.out
      clear hs e3
      go_wp2_with fail
      obtain ⟨r0, r1, r2, _⟩ := HT.out.set (.int .i64 (atI l 0).1) (.int .u64 (atI l 0).2.1) (.int .u64 (atI l 0).2.2)
      refine bodyPost_ret (by simp [results, Try.results19, go_sem, r0, r1, r2]; try rfl) rfl ?_
      exact ⟨_, _, _, true, rfl, .inl ⟨HC.out, HN.out, rfl, rfl⟩, by have := HB.out; (repeat' (first | (with_reducible exact Below.refl _ _) | (with_reducible assumption) | (with_reducible refine Below.alloc ?_ ?_ _) | (with_reducible refine Below.drew ?_) | (with_reducible refine Below_drewN ?_ _) | (with_reducible refine Below.setCell ?_ ?_ _) | (refine Below.step (B' := ?_) (b := ?_) ?_ ?_ ?_; rotate_left 2; (with_reducible assumption)) | go_size))⟩
    · rw [decide_eq_false hc] at CK
      have HC := Lib.hid hc
      clear hc
      go_enter Try.func19, Try.ntmps19
      go_wp2_with fail
      refine (CK _ HS.out).mono ?_
      rintro e w3 ⟨rfl, hb3⟩
      replace HB := Lib.hid (chain HB.out hb3)
      replace HT := Lib.hid (HT.out.below hb3)
      clear hb3 CK HS
      obtain ⟨⟨c0, c1, c2, hl⟩, f0, f1, f2⟩ := HT.out
      go_wp2_with fail
      obtain ⟨r0, r1, r2, _⟩ := HT.out.set (.int .i64 0) (.int .u64 0) (.int .u64 0)
      refine bodyPost_ret (by simp [results, Try.results19, go_sem, r0, r1, r2]; try rfl) rfl ?_
      exact ⟨0, 0, 0, false, rfl, .inr ⟨fun h => HC.out h.1, rfl, rfl⟩, by have := HB.out; (repeat' (first | (with_reducible exact Below.refl _ _) | (with_reducible assumption) | (with_reducible refine Below.alloc ?_ ?_ _) | (with_reducible refine Below.drew ?_) | (with_reducible refine Below_drewN ?_ _) | (with_reducible refine Below.setCell ?_ ?_ _) | (refine Below.step (B' := ?_) (b := ?_) ?_ ?_ ?_; rotate_left 2; (with_reducible assumption)) | go_size))⟩
end Go.Proofs.Try
