/- heap: Clone, rise. -/
import Derived.Test.YtgkiijpheigpjaaHpC
import Derived.ScopeJumps
import Derived.Lib.SliceRun
namespace Go.Proofs.Try
open Go.RowKit
set_option linter.unusedVariables false
set_option linter.unusedSimpArgs false
set_option maxRecDepth 100000 in
set_option maxHeartbeats 2000000 in
theorem cloneI_c (v : Value) (n : Nat) (l : List It) (w : World) (h : Rows encI 3 w v n l) :
    Calls Try.prog 51 #[v] w fun e w' => (∃ v', e = .returned v' ∧ w'.ownsRow w.heap.size 25 3 v' n (flat encI l)) ∧ Below w.heap.size w w' := by
  obtain ⟨i0, hi, hz0, hz1, hz2⟩ := info_parts item_info
  obtain ⟨A, c, rfl, hc, hn, hl, hs⟩ := h
  have HL := Lib.hid hl
  have q22 : ∀ (w : World) (a : Option Addr) (n c n' c' : Nat), (binOp .eql 22 (.slice a n c) (.slice none n' c')).run Try.prog w = .ok (.bool a.isNone) w := fun w a n c n' c' => Lib.run_eql_slice_nil w _ _ a n c n' c' Try.underlying22
  clear hl
  rcases A with _ | ad
  · have h0 : n = 0 := by
      rcases hs.2 with h0 | ⟨b, off, hA, _⟩
      · exact h0
      · cases hA
    subst h0
    have hl : l = [] := List.eq_nil_of_length_eq_zero HL.out
    have hc0 := hc.1 rfl
    subst hl hc0
    clear HL hs
    go_enter Try.func51, Try.ntmps51
    go_wp2_with fail
    go_ret
    exact ⟨⟨_, rfl, World.ownsRow_nil _ _ _ _⟩, Below.refl _ _⟩
  · go_enter Try.func51, Try.ntmps51
    go_wp2_with (at_builtin
                 refine wpList_app rfl (.tmp 5) (.tmp 6) _ rfl w.heap.size 25 i0 _ 3 24 Try.underlying22 hi hz0 hz1 hz2 rfl (by omega) _ 0 [] rfl (World.ownsRow_made w #[] 0 (Nat.le_refl _) (Nat.zero_le _) rfl) (some ad) n c (flat encI l) rfl hc (hs.alloc _) (flat_one encI_one l) (by unfold maxLen; omega) (by omega) (by simp) ?_
                 intro v1 w1 hown1 hb1)
    rw [List.nil_append, Nat.zero_add] at hown1
    go_ret
    exact ⟨⟨_, rfl, hown1⟩, Below.step1 (Below.refl w.heap.size w) hb1 (Nat.le_refl _)⟩
/-- A scope that begins with its one label, to which the run jumps back. -/
theorem wp_scope_again {P : Program} {a : Act} {w : World} {Q : Exit → Act → World → Prop} {rest : Code} (l : Nat) (J : Act → World → Prop) (μ : Act → World → Nat) (start : J a w)
    (pass : ∀ a w, J a w → rest.wp P (Exit.jump l (fun a' w' => J a' w' ∧ μ a' w' < μ a w) Q) a w) : (Code.scope ((Code.label l).seq rest)).wp P Q a w := by
  refine wp_scope_jumps (rest := Code.skip.seq rest) l J μ (by simp [findLabel]) (wp_seq (wp_label ?_)) (fun a w h => wp_seq (wp_skip (pass a w h)))
  exact wp_mono (pass a w start) (fun e a' w' h => by
    cases e <;> first | exact h | exact ⟨h.1, h.2.1⟩)
theorem flat_set_own {w : World} {base : Nat} {e : TypeId} {g n c : Nat} (l : List It) (j : Nat) (hj : j < l.length) (x0 x1 x2 : Int) (h : w.ownsRow base e 3 (.slice (some ⟨g, 0, none⟩) n c) n (flat encI l)) :
    (((w.setCell ⟨g, j * 3, none⟩ (.int .i64 x0)).setCell ⟨g, j * 3 + 1, none⟩ (.int .u64 x1)).setCell ⟨g, j * 3 + 2, none⟩ (.int .u64 x2)).ownsRow base e 3 (.slice (some ⟨g, 0, none⟩) n c) n (flat encI (l.set j (x0, x1, x2))) ∧
    w.grownBy (((w.setCell ⟨g, j * 3, none⟩ (.int .i64 x0)).setCell ⟨g, j * 3 + 1, none⟩ (.int .u64 x1)).setCell ⟨g, j * 3 + 2, none⟩ (.int .u64 x2)) (some g) := by
  obtain ⟨h1, g1⟩ := h.stored (j * 3) (.int .i64 x0)
  obtain ⟨h2, g2⟩ := h1.stored (j * 3 + 1) (.int .u64 x1)
  obtain ⟨h3, g3⟩ := h2.stored (j * 3 + 2) (.int .u64 x2)
  rw [flat_set3 encI_len l j (x0, x1, x2) (a := .int .i64 x0) (b := .int .u64 x1) (c := .int .u64 x2) rfl hj]
  exact ⟨h3, (g1.trans g2).trans g3⟩
/-- How rising ends. -/
def RiseR (l l' : List It) (q : Nat) : Prop := q < l.length ∧ l'.Perm l ∧ almost l' q ∧ upP l' q
theorem own_item {w : World} {base : Nat} {e : TypeId} {g n c : Nat} {l : List It} (h : w.ownsRow base e 3 (.slice (some ⟨g, 0, none⟩) n c) n (flat encI l)) {j : Nat} (hj : j < n) :
    (w.cell? ⟨g, j * 3, none⟩ = some (.int .i64 (atI l j).1) ∧ w.cell? ⟨g, j * 3 + 1, none⟩ = some (.int .u64 (atI l j).2.1) ∧ w.cell? ⟨g, j * 3 + 2, none⟩ = some (.int .u64 (atI l j).2.2)) ∧ w.frozen? ⟨g, j * 3, none⟩ = false ∧ w.frozen? ⟨g, j * 3 + 1, none⟩ = false ∧ w.frozen? ⟨g, j * 3 + 2, none⟩ = false ∧ g < w.heap.size := by
  obtain ⟨A, c', he, hc, hs⟩ := Sees.of_own h
  injection he with e1 _ _
  subst e1
  obtain ⟨a, b, d, f⟩ := hs.item hj
  rw [Nat.zero_add] at a b d
  exact ⟨⟨a, b, d⟩, h.frozenAt _, h.frozenAt _, h.frozenAt _, f⟩
theorem own_drew {w : World} {base : Nat} {e : TypeId} {size : Nat} {v : Value} {n : Nat} {xs : List Value} (h : w.ownsRow base e size v n xs) : w.drew.ownsRow base e size v n xs := h
theorem grown_drew {w W : World} {row : Option Nat} (h : w.grownBy W row) : w.grownBy W.drew row := ⟨h.os, h.tape, h.output, h.size, h.block⟩
theorem own_len {w : World} {base : Nat} {e : TypeId} {v : Value} {n : Nat} {l : List It} (h : w.ownsRow base e 3 v n (flat encI l)) : l.length = n := by
  have := h.1
  rw [flat_len encI_len] at this
  omega
set_option maxRecDepth 100000 in
set_option maxHeartbeats 4000000 in
theorem rise_c (g n c base : Nat) (l : List It) (p : Nat) (hp : p < n) (hn : n ≤ 100000) (ha : almost l p) (w : World) (h : w.ownsRow base 25 3 (.slice (some ⟨g, 0, none⟩) n c) n (flat encI l)) :
    Calls Try.prog 68 #[.slice (some ⟨g, 0, none⟩) n c, .int .i64 (p : Int)] w fun e w' => ∃ (l' : List It) (q : Nat), e = .returned (.int .i64 (q : Int)) ∧ RiseR l l' q ∧ w'.ownsRow base 25 3 (.slice (some ⟨g, 0, none⟩) n c) n (flat encI l') ∧ w.grownBy w' (some g) := by
  have HL := Lib.hid (own_len h)
  have HO := Lib.hid h
  have HA := Lib.hid ha
  clear h ha
  go_enter Try.func68, Try.ntmps68
  go_wp2_with fail
  refine wp_scope_again 0 (fun a' w' => ∃ (l' : List It) (p' : Nat) (u2 u3 u4 u5 u6 u7 u8 u9 u10 u11 u12 u13 u14 u15 u16 u17 u18 u19 u20 u21 u22 u23 u24 u25 u26 u27 u28 u29 u30 u31 u32 u33 u34 u35 u36 u37 u38 : Value), a' = { tmps := #[.slice (some ⟨g, 0, none⟩) n c, .int .i64 (p' : Int), u2, u3, u4, u5, u6, u7, u8, u9, u10, u11, u12, u13, u14, u15, u16, u17, u18, u19, u20, u21, u22, u23, u24, u25, u26, u27, u28, u29, u30, u31, u32, u33, u34, u35, u36, u37, u38], defers := [] } ∧ p' < n ∧ Hid (l'.Perm l) ∧ Hid (almost l' p') ∧ Hid (w'.ownsRow base 25 3 (.slice (some ⟨g, 0, none⟩) n c) n (flat encI l')) ∧ Hid (w.grownBy w' (some g))) (fun a' _ => (intOf (a'.tmps.getD 1 undef)).toNat) ?_ ?_
  · exact ⟨l, p, _, _, _, _, _, _, _, _, _, _, _, _, _, _, _, _, _, _, _, _, _, _, _, _, _, _, _, _, _, _, _, _, _, _, _, _, _, rfl, hp, Lib.hid (List.Perm.refl _), HA, HO, Lib.hid (World.grownBy.refl w _)⟩
  · rintro a' w1 ⟨l', p', u2, u3, u4, u5, u6, u7, u8, u9, u10, u11, u12, u13, u14, u15, u16, u17, u18, u19, u20, u21, u22, u23, u24, u25, u26, u27, u28, u29, u30, u31, u32, u33, u34, u35, u36, u37, u38, rfl, hp', HP, HA', HO', HG⟩
    have hL' := own_len HO'.out
    have HL' := Lib.hid hL'
    clear hL'
    by_cases h0 : p' = 0
    · subst h0
      go_wp2_with fail
      (refine region_later (by kernel_rfl) (by kernel_rfl) ?_); (intro hlat); (repeat (go_big_quiet_step ((fail)))); (refine wpQuiet_nil ?_); (intro W1 hb1); (clear hlat)
      go_wp2_with fail
      simp only [Exit.jump]
      go_ret
      exact ⟨l', 0, rfl, ⟨by rw [HL.out]; exact hp', HP.out, HA'.out, fun h => by omega⟩, own_below' HO'.out hb1, HG.out.trans (grown_below hb1)⟩
    · have hp1 : 1 ≤ p' := by omega
      have hpi : (p' : Int) < (n : Int) := by omega
      have hp0 : ((p' : Int) == 0) = false := by rw [beq_eq_false_iff_ne]; omega
      have hp0n : (p' == 0) = false := by rw [beq_eq_false_iff_ne]; omega
      have hq := par_lt (p := p') (by omega)
      have hqn : par p' < n := by omega
      have hqi : ((par p' : Nat) : Int) < (n : Int) := by omega
      have PC := fun W => parent_c p' hp1 (by omega) W
      obtain ⟨⟨c0, c1, c2⟩, f0, f1, f2, hgl⟩ := own_item HO'.out hp'
      obtain ⟨⟨d0, d1, d2⟩, k0, k1, k2, _⟩ := own_item HO'.out hqn
      obtain ⟨x0, hx0⟩ : ∃ x, (atI l' p').1 = x := ⟨_, rfl⟩
      obtain ⟨x1, hx1⟩ : ∃ x, (atI l' p').2.1 = x := ⟨_, rfl⟩
      obtain ⟨x2, hx2⟩ : ∃ x, (atI l' p').2.2 = x := ⟨_, rfl⟩
      have HX := Lib.hid (show atI l' p' = (x0, x1, x2) by rw [← hx0, ← hx1, ← hx2])
      obtain ⟨y0, hy0⟩ : ∃ x, (atI l' (par p')).1 = x := ⟨_, rfl⟩
      obtain ⟨y1, hy1⟩ : ∃ x, (atI l' (par p')).2.1 = x := ⟨_, rfl⟩
      obtain ⟨y2, hy2⟩ : ∃ x, (atI l' (par p')).2.2 = x := ⟨_, rfl⟩
      have HY := Lib.hid (show atI l' (par p') = (y0, y1, y2) by rw [← hy0, ← hy1, ← hy2])
      rw [hx0] at c0
      rw [hx1] at c1
      rw [hx2] at c2
      rw [hy0] at d0
      rw [hy1] at d1
      rw [hy2] at d2
      clear hx0 hx1 hx2 hy0 hy1 hy2 h0
      have LC := fun W => less_c x0 x1 x2 y0 y1 y2 W
      by_cases hlt : LtI (x0, x1, x2) (y0, y1, y2)
      · rw [decide_eq_true hlt] at LC
        have HST := Lib.hid (rise_step HA'.out (by omega) (by rw [HL'.out]; exact hp') (by rw [HX.out, HY.out]; exact hlt))
        have HSW := Lib.hid (show swapI l' p' (par p') = (l'.set p' (y0, y1, y2)).set (par p') (x0, x1, x2) by unfold swapI; rw [HX.out, HY.out])
        have HPM := Lib.hid (swapI_perm l' p' (par p') (by rw [HL'.out]; exact hp') (by rw [HL'.out]; exact hqn))
        have HQ := Lib.hid hq
        clear hlt
        generalize par p' = q at *
        go_wp2_with fail
        (refine region_later (by kernel_rfl) (by kernel_rfl) ?_); (intro hlat); (repeat (go_big_quiet_step ((first | (go_at_call 49; with_reducible exact later_same (PC _)) | (go_at_call 22; with_reducible exact later_call (LC _)))))); (refine wpQuiet_nil ?_); (intro W1 hb1); (clear hlat)
        have HO1 := Lib.hid (own_below' HO'.out hb1)
        have HG1 := Lib.hid (HG.out.trans (grown_below hb1))
        clear c0 c1 c2 f0 f1 f2 d0 d1 d2 k0 k1 k2 hgl
        obtain ⟨⟨c0, c1, c2⟩, f0, f1, f2, hgl⟩ := own_item HO1.out hp'
        obtain ⟨⟨d0, d1, d2⟩, k0, k1, k2, _⟩ := own_item HO1.out hqn
        rw [HX.out] at c0 c1 c2
        rw [HY.out] at d0 d1 d2
        dsimp only at c0 c1 c2 d0 d1 d2
        obtain ⟨o1, g1⟩ := flat_set_own l' p' (by rw [HL'.out]; exact hp') y0 y1 y2 HO1.out
        obtain ⟨o2, g2⟩ := flat_set_own (l'.set p' (y0, y1, y2)) q (by rw [List.length_set, HL'.out]; exact hqn) x0 x1 x2 o1
        rw [← HSW.out] at o2
        have HO2 := Lib.hid o2
        have HG2 := Lib.hid ((HG1.out.trans g1).trans g2)
        clear hb1 o1 g1 o2 g2
        go_wp2_with fail
        go_region_with (go_at_call 49; refine (PC _).mono ?_; rintro e w' ⟨rfl, rfl⟩)
        all_goals
          clear c0 c1 c2 d0 d1 d2 f0 f1 f2 k0 k1 k2
          go_wp2_with ((with_reducible refine (PC _).mono ?_); rintro e w' ⟨rfl, rfl⟩)
          go_step3
          refine ⟨rfl, ⟨swapI l' p' q, q, _, _, _, _, _, _, _, _, _, _, _, _, _, _, _, _, _, _, _, _, _, _, _, _, _, _, _, _, _, _, _, _, _, _, _, _, _, rfl, hqn, Lib.hid (HPM.out.trans HP.out), HST, Lib.hid (own_drew HO2.out), Lib.hid (grown_drew HG2.out)⟩, ?_⟩
          have := HQ.out
          simp [intOf]
          omega
      · rw [decide_eq_false hlt] at LC
        have HUP : Hid (upP l' p') := Lib.hid (fun _ => by rw [HX.out, HY.out]; exact hlt)
        clear hlt HY
        generalize par p' = q at *
        go_wp2_with fail
        (refine region_later (by kernel_rfl) (by kernel_rfl) ?_); (intro hlat); (repeat (go_big_quiet_step ((first | (go_at_call 49; with_reducible exact later_same (PC _)) | (go_at_call 22; with_reducible exact later_call (LC _)))))); (refine wpQuiet_nil ?_); (intro W1 hb1); (clear hlat)
        go_wp2_with fail
        simp only [Exit.jump]
        go_ret
        exact ⟨l', p', rfl, ⟨by rw [HL.out]; exact hp', HP.out, HA'.out, HUP.out⟩, own_below' HO'.out hb1, HG.out.trans (grown_below hb1)⟩
end Go.Proofs.Try
