/- linhayref15: Touch, Drop, Last (stage 15). -/
import Derived.Test.YtgkiijpheigpjaaJb
namespace Go.Proofs.Try
open Go.RowKit
set_option linter.unusedVariables false
set_option linter.unusedSimpArgs false
theorem Rows.eqL {w : World} {v : Value} {n : Nat} {l l' : List Int} (h : Rows encZ 1 w v n l) (e : l = l') : Rows encZ 1 w v n l' := e ▸ h
theorem woZ_not {l : List Int} {id : Int} (h : id ∉ l) : woZ l id = l := by
  unfold woZ
  rw [List.filter_eq_self]
  intro x hx
  have : x ≠ id := fun e => h (e ▸ hx)
  simp [this]
theorem woZ_lt {l : List Int} {id : Int} (h : id ∈ l) : (woZ l id).length < l.length := by
  have h1 : id ∉ woZ l id := by unfold woZ; simp
  apply Nat.lt_of_le_of_ne (woZ_len l id)
  intro e
  have : woZ l id = l := List.Sublist.eq_of_length (List.filter_sublist) e
  rw [this] at h1
  exact h1 h
set_option maxRecDepth 100000 in
set_option maxHeartbeats 8000000 in
theorem rlast_c (x : Ls) (w : World) : Calls Try.prog 42 #[.agg (celV (lsC x))] w fun e w' => e = .returned (.tuple #[.int .i64 (lastV x), .bool (lastB x)]) ∧ Below w.heap.size w w' := by
  have HX0 := Lib.hid (show vbk (w.alloc (.cells (celV (lsC x)) 55)) w.heap.size 55 (lsC x) from vbk.new w _ _)
  have OC := fun W => rorder_c x W
  by_cases ho : ordL x = []
  · have HV := Lib.hid (lastV_no ho)
    have HB := Lib.hid (lastB_no ho)
    cases ht : isTB x
    all_goals
      rw [ht, ho] at OC
      clear ht ho
      go_enter Try.func42, Try.ntmps42
      go_wp2_with (first
        | (refine wpList_load_vbk rfl 55 (.tmp 1) rfl w.heap.size 55 (lsC x) (by first | rfl | (simp [Act.eval]; done)) HX0.out _ Try.underlying55 rfl (lsC_info _) ?_)
        | (go_at_call 36; refine (OC _).mono ?_; rintro e w1 ⟨v1, rfl, ho1, hb1⟩; obtain ⟨A1, c1, rfl, _, _⟩ := ho1))
      go_ret2
      exact ⟨by rw [HV.out, HB.out]; first | rfl | (simp; done), chain2 (Below.refl _ _) hb1⟩
  · have HV := Lib.hid (lastV_yes ho)
    have HB := Lib.hid (lastB_yes ho)
    have ht : isTB x = true := by
      cases ht : isTB x with
      | true => rfl
      | false => exact absurd (ordL_no ht) ho
    have hp : 0 < (ordL x).length := List.length_pos_iff.2 ho
    have HA := Lib.hid (tl_at ho)
    have hlen := may_len (ordL_may x)
    rw [ht] at OC
    clear ht ho
    obtain ⟨n, hn⟩ : ∃ n, (ordL x).length = n := ⟨_, rfl⟩
    rw [hn] at OC HA hp hlen
    have HN := Lib.hid hn
    clear hn
    have hnz : ((n : Int) == 0) = false := by rw [beq_eq_false_iff_ne]; omega
    have hn1 : (n : Int) - 1 = ((n - 1 : Nat) : Int) := by omega
    have hnl : ((n - 1 : Nat) : Int) < (n : Int) := by omega
    go_enter Try.func42, Try.ntmps42
    go_wp2_with (first
      | (refine wpList_load_vbk rfl 55 (.tmp 1) rfl w.heap.size 55 (lsC x) (by first | rfl | (simp [Act.eval]; done)) HX0.out _ Try.underlying55 rfl (lsC_info _) ?_)
      | (go_at_call 36; refine (OC _).mono ?_; rintro e w1 ⟨v1, rfl, ho1, hb1⟩; obtain ⟨A1, c1, rfl, _, _, _, hs1⟩ := ho1; obtain ⟨b1, off1, rfl, hbl1⟩ := Rows.some hs1 (by omega)
         have ce := hs1.elZ (j := n - 1) (by rw [zs_len, HN.out]; omega)
         rw [HA.out] at ce
         clear hs1))
    go_ret2
    exact ⟨by rw [HV.out, HB.out]; first | rfl | (simp; done), chain2 (Below.refl _ _) hb1⟩
set_option maxRecDepth 100000 in
set_option maxHeartbeats 8000000 in
theorem rtouch_c (x : Ls) (id : Int) (w : World) : Calls Try.prog 38 #[.agg (celV (lsC x)), .int .i64 id] w fun e w' => e = .returned (.tuple #[.agg (celV (lsC (touchR x id))), .int .i64 (touchE x id)]) ∧ Below w.heap.size w w' := by
  obtain ⟨i0, hi, hq0, hq1, hq2⟩ := info_parts int_info
  have hzc := zero_cells
  have OC := fun W => rorder_c x W
  have HX0 := Lib.hid (show vbk ((w.alloc (.cells (celV (lsC x)) 55)).alloc (.cells (celV (lsC z0)) 55)) w.heap.size 55 (lsC x) from (vbk.new w _ _).alloc _)
  have HR0 := Lib.hid (show vbk ((w.alloc (.cells (celV (lsC x)) 55)).alloc (.cells (celV (lsC z0)) 55)) (w.heap.size + 1) 55 (lsC z0) from vbk.new' (by simp))
  have HB0 := Lib.hid (show Below w.heap.size w ((w.alloc (.cells (celV (lsC x)) 55)).alloc (.cells (celV (lsC z0)) 55)) from ((Below.refl _ _).alloc (Nat.le_refl _) _).alloc (by simp) _)
  have hlen := may_len (ordL_may x)
  cases ht : isTB x with
  | true =>
    rw [ht] at OC
    by_cases hr : 0 ≤ id ∧ id < 64
    · have HTR := Lib.hid (show touchR x id = told (id.toNat :: woN (ordL x) id.toNat) from if_pos ⟨ht, hr⟩)
      have HTE := Lib.hid (show touchE x id = 0 by unfold touchE; rw [if_pos ht, if_pos hr])
      obtain ⟨z, rfl⟩ := Int.eq_ofNat_of_zero_le hr.1
      have hz : z < 64 := by omega
      have hz0 : ¬((z : Int) < 0) := by omega
      have hzl : ¬(63 < (z : Int)) := by omega
      have HMT := Lib.hid (touch_may (ordL_may x) hz)
      rw [show ((z : Int)).toNat = z from rfl] at HTR
      have hwl : (woZ (zs (ordL x)) (z : Int)).length ≤ 64 := by have := woZ_len (zs (ordL x)) (z : Int); rw [zs_len] at this; omega
      clear ht hr hz
      go_enter Try.func38, Try.ntmps38
      go_wp2_with (first
        | (refine wpList_load_vbk rfl 55 (.tmp 2) rfl w.heap.size 55 (lsC x) (by first | rfl | (simp [Act.eval]; done)) (by first | exact HX0.out | exact HX1.out | exact HX2.out) _ Try.underlying55 rfl (lsC_info _) ?_)
        | (go_at_call 36; refine (OC _).mono ?_; rintro e w1 ⟨v1, rfl, ho1, hb1⟩
           have hz1 : w.heap.size + 2 ≤ w1.heap.size := by have := hb1.size; simpa using this
           have HO1 := Lib.hid ho1; have HX1 := Lib.hid (HX0.out.below hb1); have HR1 := Lib.hid (HR0.out.below hb1); have HB1 := Lib.hid (chain HB0.out hb1); clear ho1 hb1))
      refine (rwithout_c v1 _ (zs (ordL x)) (z : Int) (by omega) _ (HO1.out.below ((Below.refl _ _).alloc (Nat.le_refl _) _))).mono ?_
      rintro e w2 ⟨⟨v2, rfl, hr2⟩, hb2⟩
      have hz2 : w1.heap.size + 1 ≤ w2.heap.size := by have := hb2.size; simpa using this
      have HO2 := Lib.hid (own_below' (own_one (e := 3) w1 (.int .i64 (z : Int)) hz1) hb2)
      have HB2 := Lib.hid (show Below (w.heap.size + 2) w1 w2 from ((Below.refl _ _).alloc hz1 (.cells #[.int .i64 (z : Int)] 3)).trans (hb2.mono (by simp; omega)))
      obtain ⟨A2, c2, rfl, hc2, hn2, hl2, hs2⟩ := hr2
      have HS2 := Lib.hid hs2
      clear hs2 hb2
      go_wp2_with (at_builtin
                   go_loud (refine wpList_app rfl (.tmp 24) (.tmp 27) _ rfl (w.heap.size + 2) 3 i0 _ 1 8 Try.underlying51 hi hq0 hq1 hq2 rfl (by omega) _ 1 _ (by first | rfl | (simp [Act.eval]; done)) HO2.out A2 _ c2 (flat encZ (woZ (zs (ordL x)) (z : Int))) (by first | rfl | (simp [Act.eval]; done)) hc2 HS2.out (flat_one encZ_one _) (by unfold maxLen; omega) (by omega) (by omega) ?_
                            intro v4 w4 hown4 hb4))
      have HB4 := Lib.hid (HB2.out.trans hb4)
      have hz4 := HB4.out.size
      have HRW : Rows encZ 1 w4 v4 (1 + (woZ (zs (ordL x)) (z : Int)).length) ((z : Int) :: woZ (zs (ordL x)) (z : Int)) := Rows.of_own (enc := encZ) (k := 1) hown4 (by simp only [List.length_cons]; omega) (by omega)
      rw [woZ_zs, ← zs_cons, zs_len] at HRW
      have HOF := Lib.hid (told_c v4 _ _ w4 HMT.out HRW)
      have HR4 := Lib.hid (HR1.out.belowB HB4.out (by omega))
      clear hown4 hb4 HRW
      refine HOF.out.mono ?_
      rintro e w5 ⟨rfl, hb5⟩
      have HR5 := Lib.hid (HR4.out.below hb5)
      have HB5 := Lib.hid (chain (HB1.out.trans (HB4.out.mono (by omega))) hb5)
      clear hb5
      go_wp2_with (refine wpList_store_vbk rfl 55 (.tmp 4) (.tmp 29) rfl (w.heap.size + 1) 55 (lsC z0) (lsC (told (z :: woN (ordL x) z))) (by first | rfl | (simp [Act.eval]; done)) (by first | rfl | (simp [Act.eval]; done)) HR5.out (by rw [lsC_len, lsC_len]) (lsC_one _) (lsC_info _) ?_)
      refine bodyPost_ret (results_vbk2 rfl (by rfl) (v := .int .i64 0) (by first | rfl | (simp; done)) (HR5.out.setRow (lsC (told (z :: woN (ordL x) z)))) Try.underlying55 rfl (lsC_info _)) rfl ⟨by rw [HTR.out, HTE.out], ?_⟩
      exact below_setRow HB5.out (by omega) _
    · have HTR := Lib.hid (show touchR x id = x from if_neg (fun h => hr h.2))
      have HTE := Lib.hid (show touchE x id = 110 by unfold touchE; rw [if_pos ht, if_neg hr])
      have hrr : id < 0 ∨ (¬(id < 0) ∧ 63 < id) := by omega
      clear ht hr
      rcases hrr with h1 | ⟨h1, h2⟩
      all_goals
        go_enter Try.func38, Try.ntmps38
        go_wp2_with (first
          | (refine wpList_load_vbk rfl 55 (.tmp 2) rfl w.heap.size 55 (lsC x) (by first | rfl | (simp [Act.eval]; done)) (by first | exact HX0.out | exact HX1.out | exact HX2.out) _ Try.underlying55 rfl (lsC_info _) ?_)
          | (go_at_call 36; refine (OC _).mono ?_; rintro e w1 ⟨v1, rfl, ho1, hb1⟩
             have hz1 : w.heap.size + 2 ≤ w1.heap.size := by have := hb1.size; simpa using this
             have HO1 := Lib.hid ho1; have HX1 := Lib.hid (HX0.out.below hb1); have HR1 := Lib.hid (HR0.out.below hb1); have HB1 := Lib.hid (chain HB0.out hb1); clear ho1 hb1)
          | (refine wpList_store_vbk rfl 55 (.tmp 4) (.tmp 22) rfl (w.heap.size + 1) 55 (lsC z0) (lsC x) (by first | rfl | (simp [Act.eval]; done)) (by first | rfl | (simp [Act.eval]; done)) HR1.out (by rw [lsC_len, lsC_len]) (lsC_one _) (lsC_info _) ?_))
        refine bodyPost_ret (results_vbk2 rfl (by rfl) (v := .int .i64 110) (by first | rfl | (simp; done)) (HR1.out.setRow (lsC x)) Try.underlying55 rfl (lsC_info _)) rfl ⟨by rw [HTR.out, HTE.out], ?_⟩
        exact below_setRow HB1.out (by omega) _
  | false =>
      rw [ht] at OC
      have HTR := Lib.hid (show touchR x id = x from if_neg (fun h => by rw [ht] at h; exact absurd h.1 (by simp)))
      have HTE := Lib.hid (show touchE x id = 120 by unfold touchE; rw [if_neg (by rw [ht]; simp)])
      clear ht
      go_enter Try.func38, Try.ntmps38
      go_wp2_with (first
        | (refine wpList_load_vbk rfl 55 (.tmp 2) rfl w.heap.size 55 (lsC x) (by first | rfl | (simp [Act.eval]; done)) (by first | exact HX0.out | exact HX1.out | exact HX2.out) _ Try.underlying55 rfl (lsC_info _) ?_)
        | (go_at_call 36; refine (OC _).mono ?_; rintro e w1 ⟨v1, rfl, ho1, hb1⟩
           have hz1 : w.heap.size + 2 ≤ w1.heap.size := by have := hb1.size; simpa using this
           have HO1 := Lib.hid ho1; have HX1 := Lib.hid (HX0.out.below hb1); have HR1 := Lib.hid (HR0.out.below hb1); have HB1 := Lib.hid (chain HB0.out hb1); clear ho1 hb1)
        | (refine wpList_store_vbk rfl 55 (.tmp 4) (.tmp 15) rfl (w.heap.size + 1) 55 (lsC z0) (lsC x) (by first | rfl | (simp [Act.eval]; done)) (by first | rfl | (simp [Act.eval]; done)) HR1.out (by rw [lsC_len, lsC_len]) (lsC_one _) (lsC_info _) ?_))
      refine bodyPost_ret (results_vbk2 rfl (by rfl) (v := .int .i64 120) (by first | rfl | (simp; done)) (HR1.out.setRow (lsC x)) Try.underlying55 rfl (lsC_info _)) rfl ⟨by rw [HTR.out, HTE.out], ?_⟩
      exact below_setRow HB1.out (by omega) _
set_option maxRecDepth 100000 in
set_option maxHeartbeats 8000000 in
theorem rdrop_c (x : Ls) (id : Int) (w : World) : Calls Try.prog 40 #[.agg (celV (lsC x)), .int .i64 id] w fun e w' => e = .returned (.tuple #[.agg (celV (lsC (dropR x id))), .int .i64 (dropE x id)]) ∧ Below w.heap.size w w' := by
  have hzc := zero_cells
  have OC := fun W => rorder_c x W
  have HX0 := Lib.hid (show vbk ((w.alloc (.cells (celV (lsC x)) 55)).alloc (.cells (celV (lsC z0)) 55)) w.heap.size 55 (lsC x) from (vbk.new w _ _).alloc _)
  have HR0 := Lib.hid (show vbk ((w.alloc (.cells (celV (lsC x)) 55)).alloc (.cells (celV (lsC z0)) 55)) (w.heap.size + 1) 55 (lsC z0) from vbk.new' (by simp))
  have HB0 := Lib.hid (show Below w.heap.size w ((w.alloc (.cells (celV (lsC x)) 55)).alloc (.cells (celV (lsC z0)) 55)) from ((Below.refl _ _).alloc (Nat.le_refl _) _).alloc (by simp) _)
  have hlen := may_len (ordL_may x)
  have hwl := woZ_len (zs (ordL x)) id
  rw [zs_len] at hwl
  cases ht : isTB x with
  | true =>
    rw [ht] at OC
    by_cases hr : id ∈ zs (ordL x)
    · have HTR := Lib.hid (show dropR x id = told (woN (ordL x) id.toNat) from if_pos ⟨ht, hr⟩)
      have HTE := Lib.hid (show dropE x id = 0 from if_pos ⟨ht, hr⟩)
      have hlt := woZ_lt hr
      rw [zs_len] at hlt
      have hne : (((woZ (zs (ordL x)) id).length : Int) == ((ordL x).length : Int)) = false := by rw [beq_eq_false_iff_ne]; omega
      obtain ⟨z, hzm, hzi⟩ := List.mem_map.1 hr
      subst hzi
      rw [show ((z : Int)).toNat = z from rfl] at HTR
      have HMT := Lib.hid (woN_may (ordL_may x) z)
      have HWE := Lib.hid (woZ_zs (ordL x) z)
      clear ht hr hzm
      go_enter Try.func40, Try.ntmps40
      go_wp2_with (first
        | (refine wpList_load_vbk rfl 55 (.tmp 2) rfl w.heap.size 55 (lsC x) (by first | rfl | (simp [Act.eval]; done)) (by first | exact HX0.out | exact HX1.out | exact HX2.out) _ Try.underlying55 rfl (lsC_info _) ?_)
        | (go_at_call 36; refine (OC _).mono ?_; rintro e w1 ⟨v1, rfl, ho1, hb1⟩
           have hz1 : w.heap.size + 2 ≤ w1.heap.size := by have := hb1.size; simpa using this
           have HO1 := Lib.hid ho1; have HX1 := Lib.hid (HX0.out.below hb1); have HR1 := Lib.hid (HR0.out.below hb1); have HB1 := Lib.hid (chain HB0.out hb1); clear ho1 hb1)
        | (go_at_call 59; refine (rwithout_c v1 _ (zs (ordL x)) (z : Int) (by omega) _ HO1.out).mono ?_; rintro e w2 ⟨⟨v2, rfl, hr2⟩, hb2⟩
           have HRR := Lib.hid hr2
           obtain ⟨A2, c2, rfl, _⟩ := hr2
           obtain ⟨A1, c1, rfl, _⟩ := HO1.out
           have HR2 := Lib.hid (HR1.out.below hb2); have HX2 := Lib.hid (HX1.out.below hb2); have HB2 := Lib.hid (chain HB1.out hb2); clear hb2))
      have HRW := HRR.out.eqL HWE.out
      have HOF := Lib.hid (told_c _ _ _ _ HMT.out HRW)
      refine HOF.out.mono ?_
      rintro e w5 ⟨rfl, hb5⟩
      have HR5 := Lib.hid (HR2.out.below hb5)
      have HB5 := Lib.hid (chain HB2.out hb5)
      clear hb5 HRW
      go_wp2_with (refine wpList_store_vbk rfl 55 (.tmp 4) (.tmp 28) rfl (w.heap.size + 1) 55 (lsC z0) (lsC (told (woN (ordL x) z))) (by first | rfl | (simp [Act.eval]; done)) (by first | rfl | (simp [Act.eval]; done)) HR5.out (by rw [lsC_len, lsC_len]) (lsC_one _) (lsC_info _) ?_)
      refine bodyPost_ret (results_vbk2 rfl (by rfl) (v := .int .i64 0) (by first | rfl | (simp; done)) (HR5.out.setRow (lsC (told (woN (ordL x) z)))) Try.underlying55 rfl (lsC_info _)) rfl ⟨by rw [HTR.out, HTE.out], ?_⟩
      exact below_setRow HB5.out (by omega) _
    · have HTR := Lib.hid (show dropR x id = x from if_neg (fun h => hr h.2))
      have HTE := Lib.hid (show dropE x id = 120 from if_neg (fun h => hr h.2))
      have hne : (((woZ (zs (ordL x)) id).length : Int) == ((ordL x).length : Int)) = true := by rw [woZ_not hr, zs_len]; simp
      clear ht hr
      go_enter Try.func40, Try.ntmps40
      go_wp2_with (first
        | (refine wpList_load_vbk rfl 55 (.tmp 2) rfl w.heap.size 55 (lsC x) (by first | rfl | (simp [Act.eval]; done)) (by first | exact HX2.out | exact HX1.out | exact HX0.out) _ Try.underlying55 rfl (lsC_info _) ?_)
        | (go_at_call 36; refine (OC _).mono ?_; rintro e w1 ⟨v1, rfl, ho1, hb1⟩
           have hz1 : w.heap.size + 2 ≤ w1.heap.size := by have := hb1.size; simpa using this
           have HO1 := Lib.hid ho1; have HX1 := Lib.hid (HX0.out.below hb1); have HR1 := Lib.hid (HR0.out.below hb1); have HB1 := Lib.hid (chain HB0.out hb1); clear ho1 hb1)
        | (go_at_call 59; refine (rwithout_c v1 _ (zs (ordL x)) id (by omega) _ HO1.out).mono ?_; rintro e w2 ⟨⟨v2, rfl, hr2⟩, hb2⟩
           have HRR := Lib.hid hr2
           obtain ⟨A2, c2, rfl, _⟩ := hr2
           obtain ⟨A1, c1, rfl, _⟩ := HO1.out
           have HR2 := Lib.hid (HR1.out.below hb2); have HX2 := Lib.hid (HX1.out.below hb2); have HB2 := Lib.hid (chain HB1.out hb2); clear hb2)
        | (refine wpList_store_vbk rfl 55 (.tmp 4) (.tmp 26) rfl (w.heap.size + 1) 55 (lsC z0) (lsC x) (by first | rfl | (simp [Act.eval]; done)) (by first | rfl | (simp [Act.eval]; done)) HR2.out (by rw [lsC_len, lsC_len]) (lsC_one _) (lsC_info _) ?_))
      refine bodyPost_ret (results_vbk2 rfl (by rfl) (v := .int .i64 120) (by first | rfl | (simp; done)) (HR2.out.setRow (lsC x)) Try.underlying55 rfl (lsC_info _)) rfl ⟨by rw [HTR.out, HTE.out], ?_⟩
      exact below_setRow HB2.out (by omega) _
  | false =>
      rw [ht] at OC
      have HTR := Lib.hid (show dropR x id = x from if_neg (fun h => by rw [ht] at h; exact absurd h.1 (by simp)))
      have HTE := Lib.hid (show dropE x id = 120 from if_neg (fun h => by rw [ht] at h; exact absurd h.1 (by simp)))
      clear ht
      go_enter Try.func40, Try.ntmps40
      go_wp2_with (first
        | (refine wpList_load_vbk rfl 55 (.tmp 2) rfl w.heap.size 55 (lsC x) (by first | rfl | (simp [Act.eval]; done)) (by first | exact HX2.out | exact HX1.out | exact HX0.out) _ Try.underlying55 rfl (lsC_info _) ?_)
        | (go_at_call 36; refine (OC _).mono ?_; rintro e w1 ⟨v1, rfl, ho1, hb1⟩
           have hz1 : w.heap.size + 2 ≤ w1.heap.size := by have := hb1.size; simpa using this
           have HO1 := Lib.hid ho1; have HX1 := Lib.hid (HX0.out.below hb1); have HR1 := Lib.hid (HR0.out.below hb1); have HB1 := Lib.hid (chain HB0.out hb1); clear ho1 hb1)
        | (go_at_call 59; refine (rwithout_c v1 _ (zs (ordL x)) id (by omega) _ HO1.out).mono ?_; rintro e w2 ⟨⟨v2, rfl, hr2⟩, hb2⟩
           have HRR := Lib.hid hr2
           obtain ⟨A2, c2, rfl, _⟩ := hr2
           obtain ⟨A1, c1, rfl, _⟩ := HO1.out
           have HR2 := Lib.hid (HR1.out.below hb2); have HX2 := Lib.hid (HX1.out.below hb2); have HB2 := Lib.hid (chain HB1.out hb2); clear hb2)
        | (refine wpList_store_vbk rfl 55 (.tmp 4) (.tmp 26) rfl (w.heap.size + 1) 55 (lsC z0) (lsC x) (by first | rfl | (simp [Act.eval]; done)) (by first | rfl | (simp [Act.eval]; done)) HR2.out (by rw [lsC_len, lsC_len]) (lsC_one _) (lsC_info _) ?_))
      refine bodyPost_ret (results_vbk2 rfl (by rfl) (v := .int .i64 120) (by first | rfl | (simp; done)) (HR2.out.setRow (lsC x)) Try.underlying55 rfl (lsC_info _)) rfl ⟨by rw [HTR.out, HTE.out], ?_⟩
      exact below_setRow HB2.out (by omega) _
end Go.Proofs.Try
