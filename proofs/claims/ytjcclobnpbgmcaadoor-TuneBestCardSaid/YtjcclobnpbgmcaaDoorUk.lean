/- tune.Note (stage 21). -/
import Derived.Test.YtjcclobnpbgmcaaDoorUj
namespace Go.Proofs.Tryd
open Go.RowKit Go.Sort
set_option linter.unusedVariables false
set_option linter.unusedSimpArgs false
/-- Is there a member of the key? -/
def fndN (l : List Sn) (k : ByteArray) : Bool := decide (posN l k < l.length ∧ (atN l (posN l k)).1 = k)
def updN (l : List Sn) (k : ByteArray) (z : Int) : List Sn := if fndN l k = true then l.set (posN l k) ((atN l (posN l k)).1, z, (atN l (posN l k)).2.2 + 1) else l.take (posN l k) ++ [(k, z, 1)] ++ l.drop (posN l k)
def noteN (l : List Sn) (k : ByteArray) (z : Int) : List Sn := if chkN l = true then (if chkN (updN l k z) = true then updN l k z else l) else l
theorem own_seen {w : World} {base : Nat} {e : TypeId} {g n c : Nat} {l : List Sn} (h : w.ownsRow base e 3 (.slice (some ⟨g, 0, none⟩) n c) n (flat encN l)) {j : Nat} (hj : j < n) :
    w.cell? ⟨g, j * 3, none⟩ = some (.string (atN l j).1) ∧ w.cell? ⟨g, j * 3 + 1, none⟩ = some (.int .i64 (atN l j).2.1) ∧ w.cell? ⟨g, j * 3 + 2, none⟩ = some (.int .i64 (atN l j).2.2) ∧ w.frozen? ⟨g, j * 3 + 1, none⟩ = false ∧ w.frozen? ⟨g, j * 3 + 2, none⟩ = false ∧ g < w.heap.size := by
  obtain ⟨a, b, c, d⟩ := (own_seesN h).1.seen hj
  rw [Nat.zero_add] at a b c
  exact ⟨a, b, c, h.frozenAt _, h.frozenAt _, d⟩
theorem flat_set_sn {w : World} {base : Nat} {e : TypeId} {g n c : Nat} (l : List Sn) (j : Nat) (hj : j < l.length) (x y : Int) (h : w.ownsRow base e 3 (.slice (some ⟨g, 0, none⟩) n c) n (flat encN l)) :
    ((w.setCell ⟨g, j * 3 + 1, none⟩ (.int .i64 x)).setCell ⟨g, j * 3 + 2, none⟩ (.int .i64 y)).ownsRow base e 3 (.slice (some ⟨g, 0, none⟩) n c) n (flat encN (l.set j ((atN l j).1, x, y))) ∧
    w.grownBy ((w.setCell ⟨g, j * 3 + 1, none⟩ (.int .i64 x)).setCell ⟨g, j * 3 + 2, none⟩ (.int .i64 y)) (some g) := by
  obtain ⟨h1, g1⟩ := h.stored (j * 3 + 1) (.int .i64 x)
  obtain ⟨h2, g2⟩ := h1.stored (j * 3 + 2) (.int .i64 y)
  have he : (flat encN l)[j * 3 + 0]? = some (Value.string (atN l j).1) := flat_get encN_len (atN_some hj) (i := 0) (by omega)
  rw [flat_set3 encN_len l j ((atN l j).1, x, y) (a := .string (atN l j).1) (b := .int .i64 x) (c := .int .i64 y) rfl hj]
  have hs : (flat encN l).set (j * 3) (Value.string (atN l j).1) = flat encN l := by
    obtain ⟨hlt, hv⟩ := List.getElem?_eq_some_iff.1 he
    rw [← hv]
    exact List.set_getElem_self hlt
  rw [hs]
  exact ⟨h2, g1.trans g2⟩
theorem own_rowsN {w : World} {base : Nat} {e : TypeId} {v : Value} {n : Nat} {l : List Sn} (h : w.ownsRow base e 3 v n (flat encN l)) (hn : n ≤ 100000) : Rows encN 3 w v n l :=
  Rows.of_own h (by have := h.1; rw [flat_len encN_len] at this; omega) hn
theorem insert_c (g n p : Nat) (l : List Sn) (x : Sn) (vb vo vc base : Nat) (hn : n ≤ 2000) (hl : l.length = n) (hp : p ≤ n) (hvc : 1 ≤ vc) (w : World) (ho : w.ownsRow base 25 3 (.slice (some ⟨g, 0, none⟩) n n) n (flat encN l)) (hx : Sees w 3 (some ⟨vb, vo, none⟩) 1 (encN x)) (hb : base ≤ w.heap.size) :
    Calls Tryd.prog 33 #[.slice (some ⟨g, 0, none⟩) n n, .int .i64 (p : Int), .slice (some ⟨vb, vo, none⟩) 1 vc] w fun e w' => ∃ v', e = .returned v' ∧ w'.ownsRow base 25 3 v' (n + 1) (flat encN (l.take p ++ [x] ++ l.drop p)) ∧ Below base w w' := by
  rcases Nat.lt_or_eq_of_le hp with hlt | heq
  · exact insert_mid g n p l x vb vo vc base hn hlt hvc w ho hx hb
  · subst heq
    rw [← hl, List.take_length, List.drop_length, List.append_nil, hl]
    exact insert_end g p l x vb vo vc base hn hvc w ho hx hb
theorem own_some {w : World} {base : Nat} {e : TypeId} {v : Value} {n : Nat} {l : List Sn} (h : w.ownsRow base e 3 v (n + 1) (flat encN l)) (hl : l.length = n + 1) : ∃ g c, v = .slice (some ⟨g, 0, none⟩) (n + 1) c ∧ base ≤ g := by
  rcases h.2 with ⟨c, rfl, hle, h0⟩ | ⟨g, c, row, rfl, hg, _⟩
  exact ⟨g, c, rfl, hg⟩
/-- What a call leaves that tells a window. -/
def NoteP (w : World) (l : List Sn) : Ending → World → Prop := fun e w' => ∃ v' n', e = .returned v' ∧ Rows encN 3 w' v' n' l ∧ Below w.heap.size w w'
set_option maxRecDepth 100000 in
set_option maxHeartbeats 8000000 in
theorem note_no (v : Value) (n : Nat) (l : List Sn) (k : ByteArray) (z : Int) (hok : chkN l = false) (w : World) (h : Rows encN 3 w v n l) :
    Calls Tryd.prog 15 #[v, .string k, .int .i64 z] w (NoteP w l) := by
  have CK := fun W h => tcheck_c v n l W h
  have CC := fun W h => copied_c v n l W h
  rw [hok] at CK
  have HR := Lib.hid h
  have hn : n ≤ 100000 := by obtain ⟨_, _, _, _, hn, _⟩ := h; exact hn
  clear h hok
  go_enter Tryd.func15, Tryd.ntmps15
  go_wp2_with (go_at_call 12; refine (CK _ HR.out).mono ?_; rintro e w1 ⟨rfl, hb1⟩)
  replace HR := Lib.hid (HR.out.below hb1)
  go_wp2_with fail
  refine (CC _ HR.out).mono ?_
  rintro e w2 ⟨rfl, ho, hb2⟩
  have HO := Lib.hid ho
  clear ho
  go_wp2_with fail
  go_ret
  exact ⟨_, n, rfl, own_rowsN HO.out hn, chain hb1 hb2⟩
set_option maxRecDepth 100000 in
set_option maxHeartbeats 8000000 in
theorem note_yes (v : Value) (n : Nat) (l : List Sn) (k : ByteArray) (z : Int) (hok : chkN l = true) (w : World) (h : Rows encN 3 w v n l) :
    Calls Tryd.prog 15 #[v, .string k, .int .i64 z] w (NoteP w (if chkN (updN l k z) = true then updN l k z else l)) := by
  have CK := fun W h => tcheck_c v n l W h
  have CC := fun W h => copied_c v n l W h
  have SC := fun v W h => search_c v n l k hok W h
  have hn : n ≤ 1000 := by have := (chkN_iff.1 hok).1; rw [h.len] at this; exact this
  have HL := Lib.hid h.len
  have HR := Lib.hid h
  have HR0 := Lib.hid h
  have hpn : posN l k ≤ n := by have := posN_le l k; rw [h.len] at this; exact this
  rw [hok] at CK
  rw [show decide (posN l k < l.length ∧ (atN l (posN l k)).1 = k) = fndN l k from rfl] at SC
  have hN1 : posN l k < n → (atN l (posN l k)).2.2 ≤ 1000 := fun hp => by
    obtain ⟨s, X, Y, he, _, _, _, hy⟩ := mem_nat hok (k := posN l k) (by rw [h.len]; exact hp)
    rw [he]; show ((Y : Nat) : Int) ≤ 1000; omega
  have hN0 : posN l k < n → 0 ≤ (atN l (posN l k)).2.2 := fun hp => by
    obtain ⟨s, X, Y, he, _, _, _, hy⟩ := mem_nat hok (k := posN l k) (by rw [h.len]; exact hp)
    rw [he]; show 0 ≤ ((Y : Nat) : Int); omega
  cases hf : fndN l k with
  | true =>
    have hp : posN l k < n := by
      have := of_decide_eq_true hf
      rw [h.len] at this
      exact this.1
    have hu : updN l k z = l.set (posN l k) ((atN l (posN l k)).1, z, (atN l (posN l k)).2.2 + 1) := by unfold updN; rw [if_pos hf]
    rw [hu]
    rw [hf] at SC
    have hn1 := hN1 hp
    have hn0 := hN0 hp
    clear hok hf hu hN1 hN0 h
    obtain ⟨p, hpe⟩ : ∃ p, posN l k = p := ⟨_, rfl⟩
    rw [hpe] at SC hp hpn hn1 hn0 ⊢
    have hpi : (p : Int) < (n : Int) := by omega
    clear hpe
    obtain ⟨l', hl'⟩ : ∃ l', l.set p ((atN l p).1, z, (atN l p).2.2 + 1) = l' := ⟨_, rfl⟩
    rw [hl']
    have HL' := Lib.hid hl'
    have hlen' : l'.length = n := by rw [← hl', List.length_set]; exact HL.out
    have CK2 := fun v W h => tcheck_c v n l' W h
    obtain ⟨R, hR⟩ : ∃ R, (if chkN l' = true then l' else l) = R := ⟨_, rfl⟩
    rw [hR]
    have HRR := Lib.hid hR
    clear hl' hR
    go_enter Tryd.func15, Tryd.ntmps15
    go_wp2_with (go_at_call 12; refine (CK _ HR.out).mono ?_; rintro e w1 ⟨rfl, hb1⟩)
    replace HR := Lib.hid (HR.out.below hb1)
    go_wp2_with fail
    refine (CC _ HR.out).mono ?_
    rintro e w2 ⟨rfl, ho, hb2⟩
    have hg2 : w1.heap.size < w2.heap.size := (own_seen ho hp).2.2.2.2.2
    have HO := Lib.hid ho
    have HB := Lib.hid (chain hb1 hb2)
    have hbs := hb1.size
    replace HR := Lib.hid (HR.out.below hb2)
    clear ho hb1 hb2
    go_wp2_with fail
    refine (SC _ _ (own_rowsN HO.out (by omega))).mono ?_
    rintro e w3 ⟨rfl, hb3⟩
    replace HO := Lib.hid (own_below' HO.out hb3)
    replace HB := Lib.hid (chain HB.out hb3)
    replace HR := Lib.hid (HR.out.below hb3)
    obtain ⟨c0, c1, c2, z1, z2, hgl⟩ := own_seen HO.out hp
    obtain ⟨hO2, hG2⟩ := flat_set_sn l p (by rw [HL.out]; exact hp) z ((atN l p).2.2 + 1) HO.out
    rw [HL'.out] at hO2
    have HO2 := Lib.hid hO2
    have hB4 := HB.out.grown hG2 HB.out.size (fun q hq => by injection hq with hq; omega)
    have HB4 := Lib.hid hB4
    have HG4 := Lib.hid hG2
    obtain ⟨N, hN⟩ : ∃ N, (atN l p).2.2 = N := ⟨_, rfl⟩
    rw [hN] at c2 hn1 hn0 HO2 HB4 HG4
    have hw : wrap64 (N + 1) = N + 1 := by unfold wrap64; omega
    clear hb3 hO2 hG2 hB4 hN
    go_wp2_with fail
    refine (CK2 _ _ (own_rowsN HO2.out (by omega))).mono ?_
    rintro e w4 ⟨rfl, hb4⟩
    have HO4 := Lib.hid (own_below' HO2.out hb4)
    have HB5 := Lib.hid (chain HB4.out hb4)
    have HRx := Lib.hid (HR0.out.below HB5.out)
    cases hc : chkN l' with
    | true =>
      have HRe : Hid (R = l') := Lib.hid (by rw [← HRR.out, if_pos hc])
      go_wp2_with fail
      go_ret
      rw [HRe.out]
      exact ⟨_, n, rfl, own_rowsN HO4.out (by omega), HB5.out⟩
    | false =>
      have HRe : Hid (R = l) := Lib.hid (by rw [← HRR.out, if_neg (by rw [hc]; simp)])
      go_wp2_with fail
      refine (CC _ HRx.out).mono ?_
      rintro e w5 ⟨rfl, ho5, hb5⟩
      have HO5 := Lib.hid ho5
      have HB6 := Lib.hid (chain HB5.out hb5)
      clear ho5 hb5
      go_wp2_with fail
      go_ret
      rw [HRe.out]
      exact ⟨_, n, rfl, own_rowsN HO5.out (by omega), HB6.out⟩
  | false =>
    have hu : updN l k z = l.take (posN l k) ++ [(k, z, 1)] ++ l.drop (posN l k) := by unfold updN; rw [if_neg (by rw [hf]; simp)]
    rw [hu]
    rw [hf] at SC
    clear hok hf hu hN1 hN0 h
    obtain ⟨p, hpe⟩ : ∃ p, posN l k = p := ⟨_, rfl⟩
    rw [hpe] at SC hpn ⊢
    clear hpe
    obtain ⟨l1, hl1⟩ : ∃ l1, l.take p ++ [(k, (0 : Int), (0 : Int))] ++ l.drop p = l1 := ⟨_, rfl⟩
    obtain ⟨l', hl'⟩ : ∃ l', l.take p ++ [(k, z, (1 : Int))] ++ l.drop p = l' := ⟨_, rfl⟩
    rw [hl']
    have htl : (l.take p).length = p := by rw [List.length_take, HL.out, Nat.min_eq_left hpn]
    have hlen1 : l1.length = n + 1 := by rw [← hl1]; simp only [List.length_append, htl, List.length_drop, HL.out, List.length_cons, List.length_nil]; omega
    have hat1 : atN l1 p = (k, 0, 0) := by
      unfold atN
      rw [← hl1, List.append_assoc, List.getD_eq_getElem?_getD, List.getElem?_append_right (by rw [htl]; exact Nat.le_refl _), htl, Nat.sub_self]
      rfl
    have hset : l1.set p ((atN l1 p).1, z, (1 : Int)) = l' := by
      rw [hat1, ← hl1, ← hl', List.append_assoc, List.append_assoc, List.set_append_right _ _ (by rw [htl]; exact Nat.le_refl _), htl, Nat.sub_self]
      rfl
    have HSET := Lib.hid hset
    have HAT := Lib.hid hat1
    have HL1 := Lib.hid hlen1
    have HE1 := Lib.hid hl1
    have CK2 := fun v W h => tcheck_c v (n + 1) l' W h
    obtain ⟨R, hR⟩ : ∃ R, (if chkN l' = true then l' else l) = R := ⟨_, rfl⟩
    rw [hR]
    have HRR := Lib.hid hR
    have hpi : (p : Int) < (n : Int) + 1 := by omega
    clear hl' hl1 hR hset hat1 hlen1 htl
    go_enter Tryd.func15, Tryd.ntmps15
    go_wp2_with (go_at_call 12; refine (CK _ HR.out).mono ?_; rintro e w1 ⟨rfl, hb1⟩)
    replace HR := Lib.hid (HR.out.below hb1)
    go_wp2_with fail
    refine (CC _ HR.out).mono ?_
    rintro e w2 ⟨rfl, ho, hb2⟩
    have HO := Lib.hid ho
    have HB := Lib.hid (chain hb1 hb2)
    have hbs := hb1.size
    have hbs2 := hb2.size
    clear ho hb1 hb2 HR
    go_wp2_with fail
    refine (SC _ _ (own_rowsN HO.out (by omega))).mono ?_
    rintro e w3 ⟨rfl, hb3⟩
    replace HO := Lib.hid (own_below' HO.out hb3)
    replace HB := Lib.hid (chain HB.out hb3)
    have hbs3 := hb3.size
    clear hb3
    go_wp2_with fail
    have HX : Hid (Sees (w3.alloc (.cells #[.string k, .int .i64 0, .int .i64 0] 25)) 3 (some ⟨w3.heap.size, 0, none⟩) 1 (encN (k, 0, 0))) := Lib.hid ⟨rfl, .inr ⟨_, _, rfl, by simp, fun j hj => by
      have hj3 : j < 3 := hj
      rw [Nat.zero_add, cell_of_row _ _ j _ _ (0, 0) (heap_alloc_new w3 _)]
      rcases (by omega : j = 0 ∨ j = 1 ∨ j = 2) with rfl | rfl | rfl <;> rfl⟩⟩
    have HO3 := Lib.hid (own_below' HO.out ((Below.refl w3.heap.size w3).alloc (Nat.le_refl _) (.cells #[.string k, .int .i64 0, .int .i64 0] 25)))
    have HB3 := Lib.hid (chain1 HB.out (.cells #[.string k, .int .i64 0, .int .i64 0] 25))
    refine (insert_c w1.heap.size n p l (k, 0, 0) w3.heap.size 0 1 w1.heap.size (by omega) HL.out hpn (by omega) _ HO3.out HX.out (by have := HB3.out.size; simp only [World.alloc, Array.size_push]; omega)).mono ?_
    rintro e w4 ⟨v4, rfl, ho4, hb4⟩
    rw [HE1.out] at ho4
    obtain ⟨g4, c4, rfl, hg4⟩ := own_some ho4 HL1.out
    have HB4 := Lib.hid (HB3.out.trans (hb4.mono hbs))
    have HO4 := Lib.hid ho4
    clear ho4 hb4
    obtain ⟨c0, c1, c2, z1, z2, hgl⟩ := own_seen HO4.out (j := p) (by omega)
    rw [HAT.out] at c0 c1 c2
    obtain ⟨hO2, hG2⟩ := flat_set_sn l1 p (by rw [HL1.out]; omega) z 1 HO4.out
    rw [HSET.out] at hO2
    have HO5 := Lib.hid hO2
    have hB4 := HB4.out.grown hG2 HB4.out.size (fun q hq => by injection hq with hq; omega)
    have HB5 := Lib.hid hB4
    clear hO2 hG2 hB4
    go_wp2_with fail
    refine (CK2 _ _ (own_rowsN HO5.out (by omega))).mono ?_
    rintro e w6 ⟨rfl, hb6⟩
    have HO6 := Lib.hid (own_below' HO5.out hb6)
    have HB6 := Lib.hid (chain HB5.out hb6)
    have HRx := Lib.hid (HR0.out.below HB6.out)
    cases hc : chkN l' with
    | true =>
      have HRe : Hid (R = l') := Lib.hid (by rw [← HRR.out, if_pos hc])
      go_wp2_with fail
      go_ret
      rw [HRe.out]
      exact ⟨_, n + 1, rfl, own_rowsN HO6.out (by omega), HB6.out⟩
    | false =>
      have HRe : Hid (R = l) := Lib.hid (by rw [← HRR.out, if_neg (by rw [hc]; simp)])
      go_wp2_with fail
      refine (CC _ HRx.out).mono ?_
      rintro e w7 ⟨rfl, ho7, hb7⟩
      have HO7 := Lib.hid ho7
      have HB7 := Lib.hid (chain HB6.out hb7)
      clear ho7 hb7
      go_wp2_with fail
      go_ret
      rw [HRe.out]
      exact ⟨_, n, rfl, own_rowsN HO7.out (by omega), HB7.out⟩
theorem note_c (v : Value) (n : Nat) (l : List Sn) (k : ByteArray) (z : Int) (w : World) (h : Rows encN 3 w v n l) :
    Calls Tryd.prog 15 #[v, .string k, .int .i64 z] w (NoteP w (noteN l k z)) := by
  unfold noteN
  cases hc : chkN l with
  | false => rw [if_neg (by simp)]; exact note_no v n l k z hc w h
  | true => rw [if_pos rfl]; exact note_yes v n l k z hc w h
end Go.Proofs.Tryd
