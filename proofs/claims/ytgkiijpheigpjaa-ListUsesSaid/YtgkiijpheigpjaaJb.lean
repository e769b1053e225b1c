/- linhayref15.Order (stage 15). -/
import Derived.Test.YtgkiijpheigpjaaJa
import Derived.Test.YtgkiijpheigpjaaVtb
namespace Go.Proofs.Try
open Go.RowKit
set_option linter.unusedVariables false
set_option linter.unusedSimpArgs false
theorem prv_app {o : List Nat} : ∀ {r : List Nat} {z : Nat}, z ∉ o → prv (r ++ z :: o) z = prv (r ++ [z]) z := by
  intro r
  induction r with
  | nil =>
    intro z hz
    cases o with
    | nil => rfl
    | cons b t =>
      have hb : ¬b = z := fun e => hz (by rw [e]; simp)
      simp only [List.nil_append]
      rw [prv, if_neg hb, prv_not hz]
      rfl
  | cons a r ih =>
    intro z hz
    have ih := ih hz
    cases r with
    | nil => simp only [List.cons_append, List.nil_append, prv, if_true]
    | cons c r =>
      simp only [List.cons_append, prv] at ih ⊢
      rw [ih]
theorem prv_mid {r o : List Nat} {z : Nat} (h : (r ++ z :: o).Nodup) : prv (r ++ z :: o) z = tlI r := by
  rw [List.nodup_append] at h
  rw [prv_app (List.nodup_cons.1 h.2.1).1, prv_snoc (fun hr => h.2.2 z hr z (by simp) rfl), if_pos rfl]
/-- How far the list has been gone through from its end. -/
def GoneB (x : Ls) (o : List Nat) (id : Int) : Prop := ∀ l, mayL l → x.same (told l) → ∃ rest, l = rest ++ o ∧ id = tlI rest
theorem goneB_start (x : Ls) : GoneB x [] x.tl := fun l hm h => ⟨l, by simp, h.2.2⟩
theorem goneB_step {x : Ls} {o : List Nat} {z : Nat} (h : GoneB x o (z : Int)) : GoneB x (z :: o) (x.pv z) := by
  intro l hm hs
  obtain ⟨rest, hl, hz⟩ := h l hm hs
  have hne : rest ≠ [] := by rintro rfl; simp [tlI] at hz
  obtain ⟨r, y, rfl⟩ : ∃ r y, rest = r ++ [y] := ⟨rest.dropLast, rest.getLast hne, (List.dropLast_concat_getLast hne).symm⟩
  rw [tl_snoc] at hz
  have : z = y := by omega
  subst this
  rw [List.append_assoc, List.singleton_append] at hl
  refine ⟨r, hl, ?_⟩
  have hz6 : z < 64 := hm.2 z (by rw [hl]; simp)
  rw [(hs.1 z hz6).2.1]
  show prv l z = tlI r
  rw [hl]
  exact prv_mid (by rw [← hl]; exact hm.1)
theorem goneB_end {x : Ls} {o : List Nat} {id : Int} (h : GoneB x o id) (hf : ¬(0 ≤ id ∧ id < 64 ∧ o.length < 64)) {l : List Nat} (hm : mayL l) (hs : x.same (told l)) : l = o := by
  obtain ⟨rest, hl, hz⟩ := h l hm hs
  by_cases hne : rest = []
  · rw [hl, hne]; simp
  · exfalso
    obtain ⟨y, hy, he⟩ := tl_nat hne
    have hy6 := hm.2 y (by rw [hl]; simp [hy])
    have hll := may_len hm
    rw [hl, List.length_append] at hll
    have := List.length_pos_iff.2 hne
    exact hf ⟨by omega, by omega, by omega⟩
theorem goneB_same {x : Ls} {o : List Nat} {id : Int} (h : GoneB x o id) (hf : ¬(0 ≤ id ∧ id < 64 ∧ o.length < 64)) : (mayL o → x.same (told o) → isTB x = true ∧ ordL x = o) ∧ (¬(mayL o ∧ x.same (told o)) → isTB x = false ∧ ordL x = []) := by
  refine ⟨fun hm h => ⟨isTB_of hm h, ordL_of hm h⟩, fun hn => ?_⟩
  have : isTB x = false := by
    cases hb : isTB x with
    | false => rfl
    | true =>
      have h1 := isTB_iff.1 hb
      have h2 := goneB_end h hf h1.1 h1.2
      exact absurd (by rw [← h2]; exact h1) hn
  exact ⟨this, ordL_no this⟩
theorem Rows.slN {w : World} {v : Value} {n : Nat} {l : List Int} (h : Rows encZ 1 w v n l) : slN v = n := by
  obtain ⟨A, c, rfl, _⟩ := h
  rfl
set_option maxRecDepth 100000 in
set_option maxHeartbeats 8000000 in
theorem rorder_c (x : Ls) (w : World) : Calls Try.prog 36 #[.agg (celV (lsC x))] w fun e w' => ∃ v', e = .returned (.tuple #[v', .bool (isTB x)]) ∧ Rows encZ 1 w' v' (ordL x).length (zs (ordL x)) ∧ Below w.heap.size w w' := by
  obtain ⟨i0, hi, hq0, hq1, hq2⟩ := info_parts int_info
  have htl : (celV (lsC x))[193]? = some (.int .i64 x.tl) := by rw [celV_at _ _ (by rw [lsC_len]; omega), lsC_tl]
  have HX0 := Lib.hid (show vbk (w.alloc (.cells (celV (lsC x)) 55)) w.heap.size 55 (lsC x) from vbk.new w _ _)
  go_enter Try.func36, Try.ntmps36
  go_wp2_with fail
  clear htl
  go_loopw [4, 5] (fun v i wr => ∃ (o : List Nat) (id : Int), i = .int .i64 id ∧ Hid (∀ y ∈ o, y < 64) ∧ o.length ≤ 64 ∧ Hid (GoneB x o id) ∧ Hid (Rows encZ 1 wr v o.length (zs o)) ∧ Hid (vbk wr w.heap.size 55 (lsC x)) ∧ Hid (Below w.heap.size w wr)) (fun v i _ => 64 - slN v)
  case atStart => exact ⟨[], x.tl, rfl, Lib.hid (by simp), by simp, Lib.hid (goneB_start x), Lib.hid (Rows.nil _ _ _), HX0, Lib.hid ((Below.refl _ _).alloc (Nat.le_refl _) _)⟩
  case round =>
    clear HX0
    obtain ⟨o, id, rfl, HY, ho64, HG, HR, HX, HB⟩ := hrel
    have hx1 := HX.out.lt
    have hsl := Rows.slN HR.out
    by_cases hf : 0 ≤ id ∧ id < 64 ∧ o.length < 64
    · obtain ⟨z, rfl⟩ := Int.eq_ofNat_of_zero_le hf.1
      have hz : z < 64 := by omega
      have hz0 : (0 : Int) ≤ (z : Int) := hf.1
      have hzl : (z : Int) < 64 := hf.2.1
      have hol : ((o.length : Nat) : Int) < 64 := by omega
      have hol' : o.length < 64 := hf.2.2
      have HYN := Lib.hid (show ∀ y ∈ z :: o, y < 64 from fun y hy => by
        rw [List.mem_cons] at hy
        rcases hy with rfl | hy
        · exact hz
        · exact HY.out y hy)
      have HGN := Lib.hid (goneB_step HG.out)
      have HHZ := Lib.hid hz
      have hr := HR.out
      obtain ⟨A, c, rfl, hc, hn, hl, hs⟩ := hr
      have HC := Lib.hid hc
      have HS := Lib.hid (hs.alloc (.cells #[.int .i64 (z : Int)] 3))
      clear hf hz hc hs hl hn hsl
      go_wp2_with (at_builtin
                   go_loud (refine wpList_app rfl (.tmp 21) (.tmp 22) _ rfl (w.heap.size + 1) 3 i0 _ 1 8 Try.underlying51 hi hq0 hq1 hq2 rfl (by omega) _ 1 _ (by first | rfl | (simp [Act.eval]; done)) (own_one (e := 3) wr (.int .i64 (z : Int)) (by omega)) A o.length c (flat encZ (zs o)) (by first | rfl | (simp [Act.eval]; done)) HC.out HS.out (flat_one encZ_one _) (by unfold maxLen; omega) (by omega) (by first | (simp; done) | omega | (simp; omega)) ?_
                            intro v4 w4 hown4 hb4
                            have HX4 := Lib.hid ((HX.out.alloc _).belowB hb4 (by omega))
                            have c4 := HX4.out.pv HHZ.out
                            skip))
      have HR4 : Hid (Rows encZ 1 w4 v4 (1 + o.length) (zs (z :: o))) := Lib.hid (Rows.of_own (enc := encZ) (k := 1) hown4 (by rw [zs_len]; simp only [List.length_cons]; omega) (by omega))
      have HB4 := Lib.hid ((HB.out.alloc (by omega) _).trans (hb4.mono (by omega)))
      clear hown4 hb4
      go_roundw
      case rel => exact ⟨z :: o, x.pv z, rfl, HYN, by simp only [List.length_cons]; omega, HGN, Lib.hid (by rw [show (z :: o).length = 1 + o.length by simp only [List.length_cons]; omega]; exact HR4.out), HX4, HB4⟩
      case measure =>
        have h1 := Rows.slN HR4.out
        rw [h1]
        show 64 - (1 + o.length) < 64 - o.length
        omega
    · have HGS := Lib.hid (goneB_same HG.out hf)
      have hr := HR.out
      obtain ⟨A, c, rfl, hc, hn, hl, hs⟩ := hr
      clear hc hs hl hn hsl
      have h3 : id < 0 ∨ (0 ≤ id ∧ 64 ≤ id) ∨ (0 ≤ id ∧ id < 64 ∧ 64 ≤ o.length) := by omega
      have MC := Lib.hid (may_c _ _ (zs o) wr HR.out)
      clear hf
      by_cases hm : mayL o
      · rw [decide_eq_true (isL_zs.2 hm)] at MC
        have TC := fun W (hb : Below wr.heap.size wr W) => told_c (.slice A o.length c) o.length o W hm (HR.out.below hb)
        by_cases hst : sameB (told o) x = true
        · have hQ2 : ∀ W, (binOp .neq 55 (.agg (celV (lsC (told o)))) (.agg (celV (lsC x)))).run Try.prog W = .ok (.bool false) W := fun W => by rw [eqS_neq, hst]; rfl
          obtain ⟨ht, ho⟩ := HGS.out.1 hm (sameB_iff.1 hst).symm
          have HT := Lib.hid ht
          have HOO := Lib.hid ho
          clear hst ht ho hm HGS
          rcases h3 with h1 | ⟨h1, h2⟩ | ⟨h1, h2, h4⟩
          · have h5 : ¬(0 ≤ id) := by omega
            go_wp2_with fail
            refine MC.out.mono ?_
            rintro e w2 ⟨rfl, hb2⟩
            have HX2 := Lib.hid (HX.out.below hb2)
            go_wp2_with fail
            refine region_later (by kernel_rfl) (by kernel_rfl) ?_
            intro hlat
            go_big_quiet_step (fail)
            go_big_quiet_step (fail)
            go_big_quiet_step (fail)
            go_big_quiet_step (fail)
            go_big_quiet_step ((go_at_call 45; with_reducible exact later_call (TC _ (hb2.trans ((later_below _ _).mono hb2.size)))))
            refine wpQuiet_load_vbkg 55 (.tmp 1) rfl w.heap.size 55 (lsC x) (by rfl) (by rfl) (later_vbk HX2.out) _ Try.underlying55 rfl (lsC_info _) ?_
            simp only [Act.put, List.setIfInBounds_toArray, List.set_cons_zero, List.set_cons_succ]
            go_big_quiet_step (fail)
            go_big_quiet_step (fail)
            refine wpQuiet_nil ?_
            intro W3 hb3
            clear hlat
            go_wp2_with fail
            go_ret2
            exact ⟨_, by rw [HT.out]; first | rfl | (simp; done), by rw [HOO.out]; exact (HR.out.below hb2).below hb3, chain (chain HB.out hb2) hb3⟩
          · have h6 : ¬(id < 64) := by omega
            go_wp2_with fail
            refine MC.out.mono ?_
            rintro e w2 ⟨rfl, hb2⟩
            have HX2 := Lib.hid (HX.out.below hb2)
            go_wp2_with fail
            refine region_later (by kernel_rfl) (by kernel_rfl) ?_
            intro hlat
            go_big_quiet_step (fail)
            go_big_quiet_step (fail)
            go_big_quiet_step (fail)
            go_big_quiet_step (fail)
            go_big_quiet_step ((go_at_call 45; with_reducible exact later_call (TC _ (hb2.trans ((later_below _ _).mono hb2.size)))))
            refine wpQuiet_load_vbkg 55 (.tmp 1) rfl w.heap.size 55 (lsC x) (by rfl) (by rfl) (later_vbk HX2.out) _ Try.underlying55 rfl (lsC_info _) ?_
            simp only [Act.put, List.setIfInBounds_toArray, List.set_cons_zero, List.set_cons_succ]
            go_big_quiet_step (fail)
            go_big_quiet_step (fail)
            refine wpQuiet_nil ?_
            intro W3 hb3
            clear hlat
            go_wp2_with fail
            go_ret2
            exact ⟨_, by rw [HT.out]; first | rfl | (simp; done), by rw [HOO.out]; exact (HR.out.below hb2).below hb3, chain (chain HB.out hb2) hb3⟩
          · have h7 : ¬(((o.length : Nat) : Int) < 64) := (by omega); clear h4 ho64
            go_wp2_with fail
            refine MC.out.mono ?_
            rintro e w2 ⟨rfl, hb2⟩
            have HX2 := Lib.hid (HX.out.below hb2)
            go_wp2_with fail
            refine region_later (by kernel_rfl) (by kernel_rfl) ?_
            intro hlat
            go_big_quiet_step (fail)
            go_big_quiet_step (fail)
            go_big_quiet_step (fail)
            go_big_quiet_step (fail)
            go_big_quiet_step ((go_at_call 45; with_reducible exact later_call (TC _ (hb2.trans ((later_below _ _).mono hb2.size)))))
            refine wpQuiet_load_vbkg 55 (.tmp 1) rfl w.heap.size 55 (lsC x) (by rfl) (by rfl) (later_vbk HX2.out) _ Try.underlying55 rfl (lsC_info _) ?_
            simp only [Act.put, List.setIfInBounds_toArray, List.set_cons_zero, List.set_cons_succ]
            go_big_quiet_step (fail)
            go_big_quiet_step (fail)
            refine wpQuiet_nil ?_
            intro W3 hb3
            clear hlat
            go_wp2_with fail
            go_ret2
            exact ⟨_, by rw [HT.out]; first | rfl | (simp; done), by rw [HOO.out]; exact (HR.out.below hb2).below hb3, chain (chain HB.out hb2) hb3⟩
        · have hQ2 : ∀ W, (binOp .neq 55 (.agg (celV (lsC (told o)))) (.agg (celV (lsC x)))).run Try.prog W = .ok (.bool true) W := fun W => by rw [eqS_neq, show sameB (told o) x = false by simpa using hst]; rfl
          obtain ⟨ht, ho⟩ := HGS.out.2 (fun h => hst (sameB_iff.2 h.2.symm))
          have HT := Lib.hid ht
          have HOO := Lib.hid ho
          clear hst ht ho hm HGS
          rcases h3 with h1 | ⟨h1, h2⟩ | ⟨h1, h2, h4⟩
          · have h5 : ¬(0 ≤ id) := by omega
            go_wp2_with fail
            refine MC.out.mono ?_
            rintro e w2 ⟨rfl, hb2⟩
            have HX2 := Lib.hid (HX.out.below hb2)
            go_wp2_with fail
            refine region_later (by kernel_rfl) (by kernel_rfl) ?_
            intro hlat
            go_big_quiet_step (fail)
            go_big_quiet_step (fail)
            go_big_quiet_step (fail)
            go_big_quiet_step (fail)
            go_big_quiet_step ((go_at_call 45; with_reducible exact later_call (TC _ (hb2.trans ((later_below _ _).mono hb2.size)))))
            refine wpQuiet_load_vbkg 55 (.tmp 1) rfl w.heap.size 55 (lsC x) (by rfl) (by rfl) (later_vbk HX2.out) _ Try.underlying55 rfl (lsC_info _) ?_
            simp only [Act.put, List.setIfInBounds_toArray, List.set_cons_zero, List.set_cons_succ]
            go_big_quiet_step (fail)
            go_big_quiet_step (fail)
            refine wpQuiet_nil ?_
            intro W3 hb3
            clear hlat
            go_wp2_with fail
            go_ret2
            exact ⟨_, by rw [HT.out]; first | rfl | (simp; done), by rw [HOO.out]; exact Rows.nil _ _ _, chain (chain HB.out hb2) hb3⟩
          · have h6 : ¬(id < 64) := by omega
            go_wp2_with fail
            refine MC.out.mono ?_
            rintro e w2 ⟨rfl, hb2⟩
            have HX2 := Lib.hid (HX.out.below hb2)
            go_wp2_with fail
            refine region_later (by kernel_rfl) (by kernel_rfl) ?_
            intro hlat
            go_big_quiet_step (fail)
            go_big_quiet_step (fail)
            go_big_quiet_step (fail)
            go_big_quiet_step (fail)
            go_big_quiet_step ((go_at_call 45; with_reducible exact later_call (TC _ (hb2.trans ((later_below _ _).mono hb2.size)))))
            refine wpQuiet_load_vbkg 55 (.tmp 1) rfl w.heap.size 55 (lsC x) (by rfl) (by rfl) (later_vbk HX2.out) _ Try.underlying55 rfl (lsC_info _) ?_
            simp only [Act.put, List.setIfInBounds_toArray, List.set_cons_zero, List.set_cons_succ]
            go_big_quiet_step (fail)
            go_big_quiet_step (fail)
            refine wpQuiet_nil ?_
            intro W3 hb3
            clear hlat
            go_wp2_with fail
            go_ret2
            exact ⟨_, by rw [HT.out]; first | rfl | (simp; done), by rw [HOO.out]; exact Rows.nil _ _ _, chain (chain HB.out hb2) hb3⟩
          · have h7 : ¬(((o.length : Nat) : Int) < 64) := (by omega); clear h4 ho64
            go_wp2_with fail
            refine MC.out.mono ?_
            rintro e w2 ⟨rfl, hb2⟩
            have HX2 := Lib.hid (HX.out.below hb2)
            go_wp2_with fail
            refine region_later (by kernel_rfl) (by kernel_rfl) ?_
            intro hlat
            go_big_quiet_step (fail)
            go_big_quiet_step (fail)
            go_big_quiet_step (fail)
            go_big_quiet_step (fail)
            go_big_quiet_step ((go_at_call 45; with_reducible exact later_call (TC _ (hb2.trans ((later_below _ _).mono hb2.size)))))
            refine wpQuiet_load_vbkg 55 (.tmp 1) rfl w.heap.size 55 (lsC x) (by rfl) (by rfl) (later_vbk HX2.out) _ Try.underlying55 rfl (lsC_info _) ?_
            simp only [Act.put, List.setIfInBounds_toArray, List.set_cons_zero, List.set_cons_succ]
            go_big_quiet_step (fail)
            go_big_quiet_step (fail)
            refine wpQuiet_nil ?_
            intro W3 hb3
            clear hlat
            go_wp2_with fail
            go_ret2
            exact ⟨_, by rw [HT.out]; first | rfl | (simp; done), by rw [HOO.out]; exact Rows.nil _ _ _, chain (chain HB.out hb2) hb3⟩
      · rw [decide_eq_false (fun h => hm (isL_zs.1 h))] at MC
        obtain ⟨ht, ho⟩ := HGS.out.2 (fun h => hm h.1)
        have HT := Lib.hid ht
        have HOO := Lib.hid ho
        clear ht ho hm HGS
        rcases h3 with h1 | ⟨h1, h2⟩ | ⟨h1, h2, h4⟩
        · have h5 : ¬(0 ≤ id) := by omega
          go_wp2_with fail
          refine MC.out.mono ?_
          rintro e w2 ⟨rfl, hb2⟩
          have HX2 := Lib.hid (HX.out.below hb2)
          go_wp2_with fail
          refine region_later (by kernel_rfl) (by kernel_rfl) ?_
          intro hlat
          repeat (go_big_quiet_step (fail))
          refine wpQuiet_nil ?_
          intro W3 hb3
          clear hlat
          go_wp2_with fail
          go_ret2
          exact ⟨_, by rw [HT.out]; first | rfl | (simp; done), by rw [HOO.out]; exact Rows.nil _ _ _, chain (chain HB.out hb2) hb3⟩
        · have h6 : ¬(id < 64) := by omega
          go_wp2_with fail
          refine MC.out.mono ?_
          rintro e w2 ⟨rfl, hb2⟩
          have HX2 := Lib.hid (HX.out.below hb2)
          go_wp2_with fail
          refine region_later (by kernel_rfl) (by kernel_rfl) ?_
          intro hlat
          repeat (go_big_quiet_step (fail))
          refine wpQuiet_nil ?_
          intro W3 hb3
          clear hlat
          go_wp2_with fail
          go_ret2
          exact ⟨_, by rw [HT.out]; first | rfl | (simp; done), by rw [HOO.out]; exact Rows.nil _ _ _, chain (chain HB.out hb2) hb3⟩
        · have h7 : ¬(((o.length : Nat) : Int) < 64) := (by omega); clear h4 ho64
          go_wp2_with fail
          refine MC.out.mono ?_
          rintro e w2 ⟨rfl, hb2⟩
          have HX2 := Lib.hid (HX.out.below hb2)
          go_wp2_with fail
          refine region_later (by kernel_rfl) (by kernel_rfl) ?_
          intro hlat
          repeat (go_big_quiet_step (fail))
          refine wpQuiet_nil ?_
          intro W3 hb3
          clear hlat
          go_wp2_with fail
          go_ret2
          exact ⟨_, by rw [HT.out]; first | rfl | (simp; done), by rw [HOO.out]; exact Rows.nil _ _ _, chain (chain HB.out hb2) hb3⟩
end Go.Proofs.Try
