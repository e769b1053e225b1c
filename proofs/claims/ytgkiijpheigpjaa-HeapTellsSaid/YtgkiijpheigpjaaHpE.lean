/- heap: sink. -/
import Derived.Test.YtgkiijpheigpjaaHpD
namespace Go.Proofs.Try
open Go.RowKit
set_option linter.unusedVariables false
set_option linter.unusedSimpArgs false
/-- Of the item at p, and its sons ahead of s, that at f stands ahead. -/
def fmin (l : List It) (p f s : Nat) : Prop := (f = p ∨ (par f = p ∧ 0 < f ∧ LtI (atI l f) (atI l p))) ∧ ∀ i, 0 < i → i < l.length → par i = p → i < s → ¬LtI (atI l i) (atI l f)
theorem par_iff {i p : Nat} (h : 0 < i) : par i = p ↔ 4 * p + 1 ≤ i ∧ i ≤ 4 * p + 4 := by unfold par; omega
theorem fmin_start (l : List It) (p : Nat) : fmin l p p (4 * p + 1) := ⟨.inl rfl, fun i hi _ h1 h2 => by rw [par_iff hi] at h1; omega⟩
theorem fmin_less {l : List It} {p f s : Nat} (h : fmin l p f s) (hs : 4 * p + 1 ≤ s) (hs' : s ≤ 4 * p + 4) (hlt : LtI (atI l s) (atI l f)) : fmin l p s (s + 1) := by
  refine ⟨.inr ⟨(par_iff (by omega)).2 ⟨hs, hs'⟩, by omega, ?_⟩, fun i hi hil h1 h2 => ?_⟩
  · rcases h.1 with rfl | ⟨_, _, h3⟩
    · exact hlt
    · exact hlt.tr h3
  · by_cases e : i = s
    · subst e; exact LtI.irr _
    · exact fun h4 => h.2 i hi hil h1 (by omega) (h4.tr hlt)
theorem fmin_not {l : List It} {p f s : Nat} (h : fmin l p f s) (hlt : ¬LtI (atI l s) (atI l f)) : fmin l p f (s + 1) := by
  refine ⟨h.1, fun i hi hil h1 h2 => ?_⟩
  by_cases e : i = s
  · subst e; exact hlt
  · exact h.2 i hi hil h1 (by omega)
set_option maxRecDepth 100000 in
set_option maxHeartbeats 4000000 in
theorem sink_c (g n c base : Nat) (l : List It) (p : Nat) (hp : p < n) (hn : n ≤ 100000) (ha : almost l p) (hu : upP l p) (w : World) (h : w.ownsRow base 25 3 (.slice (some ⟨g, 0, none⟩) n c) n (flat encI l)) :
    Calls Try.prog 69 #[.slice (some ⟨g, 0, none⟩) n c, .int .i64 (p : Int)] w fun e w' => ∃ (l' : List It) (q : Nat), e = .returned (.int .i64 (q : Int)) ∧ (l'.Perm l ∧ heapP l') ∧ w'.ownsRow base 25 3 (.slice (some ⟨g, 0, none⟩) n c) n (flat encI l') ∧ w.grownBy w' (some g) := by
  have HL := Lib.hid (own_len h)
  have HO := Lib.hid h
  have HA := Lib.hid ha
  have HU := Lib.hid hu
  clear h ha hu
  go_enter Try.func69, Try.ntmps69
  go_wp2_with fail
  go_step3
  go_wp2_with fail
  go_step3
  go_wp2_with fail
  go_loopw [1] (fun i wr => ∃ (l' : List It) (p' : Nat), i = .int .i64 (p' : Int) ∧ p' < n ∧ Hid (l'.Perm l) ∧ Hid (almost l' p') ∧ Hid (upP l' p') ∧ Hid (wr.ownsRow base 25 3 (.slice (some ⟨g, 0, none⟩) n c) n (flat encI l')) ∧ Hid (w.grownBy wr (some g))) (fun i _ => n - (intOf i).toNat)
  case atStart => exact ⟨l, p, rfl, hp, Lib.hid (List.Perm.refl _), HA, HU, HO, Lib.hid (World.grownBy.refl w _)⟩
  case round =>
    obtain ⟨l', p', rfl, hp', HP, HA', HU', HO', HG⟩ := hrel
    have HL' := Lib.hid (own_len HO'.out)
    have hpi : (p' : Int) ≤ 100000 := by omega
    obtain ⟨V, hV⟩ : ∃ V, V = wr := ⟨_, rfl⟩
    subst hV
    go_wp2_with fail
    go_loopw [5, 6] (fun u5 u6 W => ∃ (f s : Nat), u5 = .int .i64 (f : Int) ∧ u6 = .int .i64 (s : Int) ∧ f < n ∧ 4 * p' + 1 ≤ s ∧ s ≤ 4 * p' + 5 ∧ Hid (fmin l' p' f s) ∧ Below V.heap.size V W) (fun _ s _ => 4 * p' + 5 - (intOf s).toNat)
    case atStart => exact ⟨p', 4 * p' + 1, rfl, by go_num, hp', by omega, by omega, Lib.hid (fmin_start l' p'), Below.refl _ _⟩
    case round =>
      obtain ⟨f, s, rfl, rfl, hf, hs1, hs2, HF, hb⟩ := hrel
      have HB := Lib.hid hb
      clear hb
      have hsi : (s : Int) ≤ 4 * (p' : Int) + 5 := by omega
      by_cases hc : s ≤ 4 * p' + 4 ∧ s < n
      · obtain ⟨hc1, hc2⟩ := hc
        have hc1' : (s : Int) ≤ 4 * (p' : Int) + 4 := by omega
        have hc2' : (s : Int) < (n : Int) := by omega
        have hf' : (f : Int) < (n : Int) := by omega
        have hO := own_below' HO'.out HB.out
        obtain ⟨⟨c0, c1, c2⟩, f0, f1, f2, hgl⟩ := own_item hO hc2
        obtain ⟨⟨d0, d1, d2⟩, k0, k1, k2, _⟩ := own_item hO hf
        obtain ⟨x0, hx0⟩ : ∃ x, (atI l' s).1 = x := ⟨_, rfl⟩
        obtain ⟨x1, hx1⟩ : ∃ x, (atI l' s).2.1 = x := ⟨_, rfl⟩
        obtain ⟨x2, hx2⟩ : ∃ x, (atI l' s).2.2 = x := ⟨_, rfl⟩
        have HX := Lib.hid (show atI l' s = (x0, x1, x2) by rw [← hx0, ← hx1, ← hx2])
        obtain ⟨y0, hy0⟩ : ∃ x, (atI l' f).1 = x := ⟨_, rfl⟩
        obtain ⟨y1, hy1⟩ : ∃ x, (atI l' f).2.1 = x := ⟨_, rfl⟩
        obtain ⟨y2, hy2⟩ : ∃ x, (atI l' f).2.2 = x := ⟨_, rfl⟩
        have HY := Lib.hid (show atI l' f = (y0, y1, y2) by rw [← hy0, ← hy1, ← hy2])
        rw [hx0] at c0
        rw [hx1] at c1
        rw [hx2] at c2
        rw [hy0] at d0
        rw [hy1] at d1
        rw [hy2] at d2
        clear hx0 hx1 hx2 hy0 hy1 hy2 hO f0 f1 f2 k0 k1 k2
        have LC := fun W => less_c x0 x1 x2 y0 y1 y2 W
        by_cases hlt : LtI (x0, x1, x2) (y0, y1, y2)
        · rw [decide_eq_true hlt] at LC
          have HF2 := Lib.hid (fmin_less HF.out hs1 hc1 (by rw [HX.out, HY.out]; exact hlt))
          clear hlt
          go_wp2_with fail
          (refine region_later (by kernel_rfl) (by kernel_rfl) ?_); (intro hlat); (repeat (go_big_quiet_step (((go_at_call 22; with_reducible exact later_call (LC _)))))); (refine wpQuiet_nil ?_); (intro W1 hb1); (clear hlat)
          go_wp2_with fail
          go_roundw
          case rel => exact ⟨s, s + 1, rfl, by go_num, hc2, by omega, by omega, HF2, chain HB.out hb1⟩
          case measure => first | (simp [intOf]; done) | (simp [intOf]; omega)
        · rw [decide_eq_false hlt] at LC
          have HF2 := Lib.hid (fmin_not HF.out (by rw [HX.out, HY.out]; exact hlt))
          clear hlt
          go_wp2_with fail
          (refine region_later (by kernel_rfl) (by kernel_rfl) ?_); (intro hlat); (repeat (go_big_quiet_step (((go_at_call 22; with_reducible exact later_call (LC _)))))); (refine wpQuiet_nil ?_); (intro W1 hb1); (clear hlat)
          go_wp2_with fail
          go_roundw
          case rel => exact ⟨f, s + 1, rfl, by go_num, hf, by omega, by omega, HF2, chain HB.out hb1⟩
          case measure => first | (simp [intOf]; done) | (simp [intOf]; omega)
      · have hall : Hid (∀ i, 0 < i → i < l'.length → par i = p' → ¬LtI (atI l' i) (atI l' f)) := Lib.hid (fun i hi hil h1 => HF.out.2 i hi hil h1 (by
          have := HL'.out
          have h2 := (par_iff hi).1 h1
          by_cases h3 : s ≤ 4 * p' + 4
          · have : ¬s < n := fun h => hc ⟨h3, h⟩
            omega
          · omega))
        have HO2 := Lib.hid (own_below' HO'.out HB.out)
        have HG2 := Lib.hid (HG.out.trans (grown_below HB.out))
        have hcd : ∃ b : Bool, decide ((s : Int) ≤ 4 * (p' : Int) + 4) = b ∧ (b = true → decide ((s : Int) < (n : Int)) = false ∧ decide (s < n) = false) := by
          refine ⟨_, rfl, fun h => ?_⟩
          have h3 : ¬s < n := fun h' => hc ⟨by have := of_decide_eq_true h; omega, h'⟩
          exact ⟨decide_eq_false (by omega), decide_eq_false h3⟩
        obtain ⟨b, hb1, hb2⟩ := hcd
        clear hc HB
        by_cases hfp : f = p'
        · subst hfp
          have HH := Lib.hid (sink_done HA'.out HU'.out hall.out)
          cases b with
          | true =>
            obtain ⟨hb3, hb4⟩ := hb2 rfl
            clear hb2
            go_wp2_with fail
            rw [Exit.noGoto_ret]
            go_ret
            exact ⟨l', f, rfl, ⟨HP.out, HH.out⟩, HO2.out, HG2.out⟩
          | false =>
            clear hb2
            go_wp2_with fail
            rw [Exit.noGoto_ret]
            go_ret
            exact ⟨l', f, rfl, ⟨HP.out, HH.out⟩, HO2.out, HG2.out⟩
        · have hF1 : par f = p' ∧ 0 < f ∧ LtI (atI l' f) (atI l' p') := by
            rcases HF.out.1 with h | h
            · exact absurd h hfp
            · exact h
          have hfl : f < l'.length := by rw [HL'.out]; exact hf
          have hpl : p' < l'.length := by rw [HL'.out]; exact hp'
          have HST := Lib.hid (sink_step HA'.out HU'.out hF1.1 hF1.2.1 hfl hF1.2.2 hall.out)
          have hlt0 : p' < f := by have := par_lt hF1.2.1; omega
          have HPM := Lib.hid (swapI_perm l' p' f hpl hfl)
          obtain ⟨⟨c0, c1, c2⟩, f0, f1, f2, hgl⟩ := own_item HO2.out hp'
          obtain ⟨⟨d0, d1, d2⟩, k0, k1, k2, _⟩ := own_item HO2.out hf
          obtain ⟨x0, hx0⟩ : ∃ x, (atI l' p').1 = x := ⟨_, rfl⟩
          obtain ⟨x1, hx1⟩ : ∃ x, (atI l' p').2.1 = x := ⟨_, rfl⟩
          obtain ⟨x2, hx2⟩ : ∃ x, (atI l' p').2.2 = x := ⟨_, rfl⟩
          have HX := Lib.hid (show atI l' p' = (x0, x1, x2) by rw [← hx0, ← hx1, ← hx2])
          obtain ⟨y0, hy0⟩ : ∃ x, (atI l' f).1 = x := ⟨_, rfl⟩
          obtain ⟨y1, hy1⟩ : ∃ x, (atI l' f).2.1 = x := ⟨_, rfl⟩
          obtain ⟨y2, hy2⟩ : ∃ x, (atI l' f).2.2 = x := ⟨_, rfl⟩
          have HY := Lib.hid (show atI l' f = (y0, y1, y2) by rw [← hy0, ← hy1, ← hy2])
          rw [hx0] at c0
          rw [hx1] at c1
          rw [hx2] at c2
          rw [hy0] at d0
          rw [hy1] at d1
          rw [hy2] at d2
          obtain ⟨o1, g1⟩ := flat_set_own l' p' hpl y0 y1 y2 HO2.out
          obtain ⟨o2, g2⟩ := flat_set_own (l'.set p' (y0, y1, y2)) f (by rw [List.length_set]; exact hfl) x0 x1 x2 o1
          rw [← show swapI l' p' f = (l'.set p' (y0, y1, y2)).set f (x0, x1, x2) by unfold swapI; rw [HX.out, HY.out]] at o2
          have HO3 := Lib.hid o2
          have HG3 := Lib.hid ((HG2.out.trans g1).trans g2)
          have hne1 : ((f : Int) == (p' : Int)) = false := by rw [beq_eq_false_iff_ne]; omega
          have hne2 : (f == p') = false := by rw [beq_eq_false_iff_ne]; omega
          have hfi : (f : Int) < (n : Int) := by omega
          have hpi2 : (p' : Int) < (n : Int) := by omega
          clear hx0 hx1 hx2 hy0 hy1 hy2 o1 g1 o2 g2 hF1 hfl hpl hall hfp HO2 HG2 HF
          cases b with
          | true =>
            obtain ⟨hb3, hb4⟩ := hb2 rfl
            clear hb2
            go_wp2_with fail
            go_region
            all_goals
              clear c0 c1 c2 d0 d1 d2 f0 f1 f2 k0 k1 k2
              go_wp2_with fail
              go_roundw
              case rel => exact ⟨swapI l' p' f, f, rfl, hf, Lib.hid (HPM.out.trans HP.out), Lib.hid HST.out.1, Lib.hid HST.out.2, Lib.hid (own_drew HO3.out), Lib.hid (grown_drew HG3.out)⟩
              case measure => first | (simp [intOf]; done) | (simp [intOf]; omega)
          | false =>
            clear hb2
            go_wp2_with fail
            go_region
            all_goals
              clear c0 c1 c2 d0 d1 d2 f0 f1 f2 k0 k1 k2
              go_wp2_with fail
              go_roundw
              case rel => exact ⟨swapI l' p' f, f, rfl, hf, Lib.hid (HPM.out.trans HP.out), Lib.hid HST.out.1, Lib.hid HST.out.2, Lib.hid (own_drew HO3.out), Lib.hid (grown_drew HG3.out)⟩
              case measure => first | (simp [intOf]; done) | (simp [intOf]; omega)
end Go.Proofs.Try
