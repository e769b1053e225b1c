/- list.Drop, Last (stage 15). -/
import Derived.Test.YtgkiijpheigpjaaLv
namespace Go.Proofs.Try
open Go.RowKit
set_option linter.unusedVariables false
set_option linter.unusedSimpArgs false
theorem cont_c (base n : Nat) (v : Value) (l : List Int) (id : Int) (e : TypeId) (hn : n ≤ 1000) (w : World) (h : w.ownsRow base e 1 v n (flat encZ l)) :
    Calls Try.prog 60 #[v, .int .i64 id] w fun r w' => r = .returned (.bool (decide (id ∈ l))) ∧ w = w' := by
  have hl := own_lenZ h
  rcases cap_own h with ⟨rfl, rfl⟩ | ⟨g, c, rfl, hnc, hbg, hgs⟩
  · obtain rfl : l = [] := List.eq_nil_of_length_eq_zero hl
    exact (Try.slices_Contains_int_empty none 0 id w).mono fun r w' ⟨h1, h2⟩ => ⟨by rw [h1]; simp, h2.symm⟩
  · obtain ⟨A, c', he, _, hs⟩ := Sees.of_own h
    simp only [Value.slice.injEq] at he
    obtain ⟨rfl, _⟩ := he
    refine (Try.slices_Contains_int g 0 n c l id w (by omega) (by omega) (fun j hj => hs.elZ hj)).mono fun r w' ⟨h1, h2⟩ => ⟨?_, h2.symm⟩
    rw [h1, List.take_of_length_le (by omega)]
    simp
theorem tl_at {l : List Nat} (h : l ≠ []) : atZ (zs l) (l.length - 1) = tlI l := by
  have hp : 0 < l.length := List.length_pos_iff.2 h
  induction l with
  | nil => exact absurd rfl h
  | cons a t ih => cases t with
    | nil => rfl
    | cons b t =>
      have := ih (by simp) (by simp)
      simp only [List.length_cons, Nat.add_sub_cancel] at this ⊢
      exact this
theorem lastV_no {x : Ls} (h : ordL x = []) : lastV x = 0 := if_pos h
theorem lastB_no {x : Ls} (h : ordL x = []) : lastB x = false := by unfold lastB; rw [h]; rfl
theorem lastV_yes {x : Ls} (h : ordL x ≠ []) : lastV x = tlI (ordL x) := if_neg h
theorem lastB_yes {x : Ls} (h : ordL x ≠ []) : lastB x = true := by
  unfold lastB
  cases ho : ordL x with
  | nil => exact absurd ho h
  | cons a t => rfl
set_option maxRecDepth 100000 in
set_option maxHeartbeats 8000000 in
theorem last_c (x : Ls) (w : World) : Calls Try.prog 41 #[.agg (celV (lsC x))] w fun e w' => e = .returned (.tuple #[.int .i64 (lastV x), .bool (lastB x)]) ∧ Below w.heap.size w w' := by
  have HX0 := Lib.hid (show vbk (w.alloc (.cells (celV (lsC x)) 55)) w.heap.size 55 (lsC x) from vbk.new w _ _)
  have OC := fun W => order_c x W
  by_cases ho : ordL x = []
  · have HV := Lib.hid (lastV_no ho)
    have HB := Lib.hid (lastB_no ho)
    cases ht : isTB x with
    | true =>
      rw [ht, ho] at OC
      clear ht ho
      go_enter Try.func41, Try.ntmps41
      go_wp2_with (first
        | (refine wpList_load_vbk rfl 55 (.tmp 1) rfl w.heap.size 55 (lsC x) (by first | rfl | (simp [Act.eval]; done)) HX0.out _ Try.underlying55 rfl (lsC_info _) ?_)
        | (go_at_call 35; refine (OC _).mono ?_; rintro e w1 ⟨v1, rfl, ho1, hb1⟩; obtain ⟨A1, c1, rfl, _, _⟩ := Sees.of_own ho1; clear ho1))
      go_ret2
      exact ⟨by rw [HV.out, HB.out]; first | rfl | (simp; done), chain2 (Below.refl _ _) hb1⟩
    | false =>
      rw [ht, ho] at OC
      clear ht ho
      go_enter Try.func41, Try.ntmps41
      go_wp2_with (first
        | (refine wpList_load_vbk rfl 55 (.tmp 1) rfl w.heap.size 55 (lsC x) (by first | rfl | (simp [Act.eval]; done)) HX0.out _ Try.underlying55 rfl (lsC_info _) ?_)
        | (go_at_call 35; refine (OC _).mono ?_; rintro e w1 ⟨v1, rfl, ho1, hb1⟩; obtain ⟨A1, c1, rfl, _, _⟩ := Sees.of_own ho1; clear ho1))
      go_ret2
      exact ⟨by rw [HV.out, HB.out]; first | rfl | (simp; done), chain2 (Below.refl _ _) hb1⟩
  · have HV := Lib.hid (lastV_yes ho)
    have HB := Lib.hid (lastB_yes ho)
    have ht : isTB x = true := by
      cases ht : isTB x with
      | true => rfl
      | false => exact absurd (ordL_no ht) ho
    have hp : 0 < (ordL x).length := List.length_pos_iff.2 ho
    have HA := Lib.hid (tl_at ho)
    have hlen := may_len (ordL_may x)
    rw [ht] at OC
    clear ht ho
    obtain ⟨n, hn⟩ : ∃ n, (ordL x).length = n := ⟨_, rfl⟩
    rw [hn] at OC HA hp hlen
    have HN := Lib.hid hn
    clear hn
    have hnz : ((n : Int) == 0) = false := by rw [beq_eq_false_iff_ne]; omega
    have hn1 : (n : Int) - 1 = ((n - 1 : Nat) : Int) := by omega
    have hnl : ((n - 1 : Nat) : Int) < (n : Int) := by omega
    go_enter Try.func41, Try.ntmps41
    go_wp2_with (first
      | (refine wpList_load_vbk rfl 55 (.tmp 1) rfl w.heap.size 55 (lsC x) (by first | rfl | (simp [Act.eval]; done)) HX0.out _ Try.underlying55 rfl (lsC_info _) ?_)
      | (go_at_call 35; refine (OC _).mono ?_; rintro e w1 ⟨v1, rfl, ho1, hb1⟩; obtain ⟨A1, c1, rfl, _, hs1⟩ := Sees.of_own ho1; obtain ⟨b1, off1, rfl, hbl1⟩ := Rows.some hs1 (by omega)
         have ce := hs1.elZ (j := n - 1) (by rw [zs_len, HN.out]; omega)
         rw [HA.out] at ce
         clear ho1 hs1))
    go_ret2
    exact ⟨by rw [HV.out, HB.out]; first | rfl | (simp; done), chain2 (Below.refl _ _) hb1⟩
set_option maxRecDepth 100000 in
set_option maxHeartbeats 8000000 in
theorem drop_c (x : Ls) (id : Int) (w : World) : Calls Try.prog 39 #[.agg (celV (lsC x)), .int .i64 id] w fun e w' => e = .returned (.tuple #[.agg (celV (lsC (dropR x id))), .int .i64 (dropE x id)]) ∧ Below w.heap.size w w' := by
  have hzc := zero_cells
  have OC := fun W h => order_b x (w.heap.size + 2) W h
  have HX0 := Lib.hid (show vbk ((w.alloc (.cells (celV (lsC x)) 55)).alloc (.cells (celV (lsC z0)) 55)) w.heap.size 55 (lsC x) from (vbk.new w _ _).alloc _)
  have HR0 := Lib.hid (show vbk ((w.alloc (.cells (celV (lsC x)) 55)).alloc (.cells (celV (lsC z0)) 55)) (w.heap.size + 1) 55 (lsC z0) from vbk.new' (by simp))
  have HB0 := Lib.hid (show Below w.heap.size w ((w.alloc (.cells (celV (lsC x)) 55)).alloc (.cells (celV (lsC z0)) 55)) from ((Below.refl _ _).alloc (Nat.le_refl _) _).alloc (by simp) _)
  have hlen := may_len (ordL_may x)
  have CC := fun v W h => cont_c (w.heap.size + 2) (ordL x).length v (zs (ordL x)) id 3 (by omega) W h
  cases ht : isTB x with
  | true =>
    rw [ht] at OC
    by_cases hr : id ∈ zs (ordL x)
    · have HTR := Lib.hid (show dropR x id = told (woN (ordL x) id.toNat) from if_pos ⟨ht, hr⟩)
      have HTE := Lib.hid (show dropE x id = 0 from if_pos ⟨ht, hr⟩)
      rw [decide_eq_true hr] at CC
      obtain ⟨z, hzm, hzi⟩ := List.mem_map.1 hr
      subst hzi
      rw [show ((z : Int)).toNat = z from rfl] at HTR
      have HMT := Lib.hid (woN_may (ordL_may x) z)
      have hwl : (woZ (zs (ordL x)) (z : Int)).length ≤ 64 := by have := woZ_len (zs (ordL x)) (z : Int); rw [zs_len] at this; omega
      clear ht hr hzm
      go_enter Try.func39, Try.ntmps39
      go_wp2_with (first
        | (refine wpList_load_vbk rfl 55 (.tmp 2) rfl w.heap.size 55 (lsC x) (by first | rfl | (simp [Act.eval]; done)) (HX0.out) _ Try.underlying55 rfl (lsC_info _) ?_)
        | (go_at_call 35; refine (OC _ (by simp)).mono ?_; rintro e w1 ⟨v1, rfl, ho1, hb1⟩
           have hz1 : w.heap.size + 2 ≤ w1.heap.size := by have := hb1.size; simpa using this
           have HO1 := Lib.hid ho1; have HX1 := Lib.hid (HX0.out.below hb1); have HR1 := Lib.hid (HR0.out.below hb1); have HB1 := Lib.hid (chain HB0.out hb1); clear ho1 hb1)
        | (go_at_call 60; go_loud (refine (CC _ _ HO1.out).mono ?_; rintro e w5 ⟨rfl, rfl⟩)))
      refine (without_c (w.heap.size + 2) _ v1 (zs (ordL x)) (z : Int) (by omega) _ HO1.out (by omega)).mono ?_
      rintro e w2 ⟨⟨v2, rfl, hr2⟩, hg2⟩
      have HB2 := Lib.hid ((Below.refl (w.heap.size + 2) _).grown hg2 (by omega) (fun k hk => (HO1.out.lt k hk).1))
      have hz2 := hg2.size
      have HOF := Lib.hid (of_c v2 _ _ w2 hr2)
      rw [woZ_zs, laid_zs HMT.out, err_zs HMT.out] at HOF
      have HR2 := Lib.hid (HR1.out.belowB HB2.out (by omega))
      clear hg2 hr2
      go_wp2_with fail
      refine HOF.out.mono ?_
      rintro e w5 ⟨rfl, hb5⟩
      have HR5 := Lib.hid (HR2.out.below hb5)
      have HB5 := Lib.hid (chain (HB1.out.trans (HB2.out.mono (by omega))) hb5)
      clear hb5
      go_wp2_with (refine wpList_store_vbk rfl 55 (.tmp 4) (.tmp 26) rfl (w.heap.size + 1) 55 (lsC z0) (lsC (told (woN (ordL x) z))) (by first | rfl | (simp [Act.eval]; done)) (by first | rfl | (simp [Act.eval]; done)) HR5.out (by rw [lsC_len, lsC_len]) (lsC_one _) (lsC_info _) ?_)
      refine bodyPost_ret (results_vbk2 rfl (by rfl) (v := .int .i64 0) (by first | rfl | (simp; done)) (HR5.out.setRow (lsC (told (woN (ordL x) z)))) Try.underlying55 rfl (lsC_info _)) rfl ⟨by rw [HTR.out, HTE.out], ?_⟩
      exact below_setRow HB5.out (by omega) _
    · have HTR := Lib.hid (show dropR x id = x from if_neg (fun h => hr h.2))
      have HTE := Lib.hid (show dropE x id = 120 from if_neg (fun h => hr h.2))
      rw [decide_eq_false hr] at CC
      clear ht hr
      go_enter Try.func39, Try.ntmps39
      go_wp2_with (first
        | (refine wpList_load_vbk rfl 55 (.tmp 2) rfl w.heap.size 55 (lsC x) (by first | rfl | (simp [Act.eval]; done)) (by first | exact HX0.out | exact HX1.out) _ Try.underlying55 rfl (lsC_info _) ?_)
        | (go_at_call 35; refine (OC _ (by simp)).mono ?_; rintro e w1 ⟨v1, rfl, ho1, hb1⟩
           have HX1 := Lib.hid (HX0.out.below hb1); have HR1 := Lib.hid (HR0.out.below hb1); have HB1 := Lib.hid (chain HB0.out hb1); have HO1 := Lib.hid ho1; clear ho1 hb1)
        | (go_at_call 60; go_loud (refine (CC _ _ HO1.out).mono ?_; rintro e w5 ⟨rfl, rfl⟩))
        | (refine wpList_store_vbk rfl 55 (.tmp 4) (.tmp 21) rfl (w.heap.size + 1) 55 (lsC z0) (lsC x) (by first | rfl | (simp [Act.eval]; done)) (by first | rfl | (simp [Act.eval]; done)) HR1.out (by rw [lsC_len, lsC_len]) (lsC_one _) (lsC_info _) ?_))
      refine bodyPost_ret (results_vbk2 rfl (by rfl) (v := .int .i64 120) (by first | rfl | (simp; done)) (HR1.out.setRow (lsC x)) Try.underlying55 rfl (lsC_info _)) rfl ⟨by rw [HTR.out, HTE.out], ?_⟩
      exact below_setRow HB1.out (by omega) _
  | false =>
      rw [ht] at OC
      have HTR := Lib.hid (show dropR x id = x from if_neg (fun h => by rw [ht] at h; exact absurd h.1 (by simp)))
      have HTE := Lib.hid (show dropE x id = 120 from if_neg (fun h => by rw [ht] at h; exact absurd h.1 (by simp)))
      clear ht
      go_enter Try.func39, Try.ntmps39
      go_wp2_with (first
        | (refine wpList_load_vbk rfl 55 (.tmp 2) rfl w.heap.size 55 (lsC x) (by first | rfl | (simp [Act.eval]; done)) (by first | exact HX0.out | exact HX1.out) _ Try.underlying55 rfl (lsC_info _) ?_)
        | (go_at_call 35; refine (OC _ (by simp)).mono ?_; rintro e w1 ⟨v1, rfl, ho1, hb1⟩
           have HX1 := Lib.hid (HX0.out.below hb1); have HR1 := Lib.hid (HR0.out.below hb1); have HB1 := Lib.hid (chain HB0.out hb1); have HO1 := Lib.hid ho1; clear ho1 hb1)
        | (refine wpList_store_vbk rfl 55 (.tmp 4) (.tmp 21) rfl (w.heap.size + 1) 55 (lsC z0) (lsC x) (by first | rfl | (simp [Act.eval]; done)) (by first | rfl | (simp [Act.eval]; done)) HR1.out (by rw [lsC_len, lsC_len]) (lsC_one _) (lsC_info _) ?_))
      refine bodyPost_ret (results_vbk2 rfl (by rfl) (v := .int .i64 120) (by first | rfl | (simp; done)) (HR1.out.setRow (lsC x)) Try.underlying55 rfl (lsC_info _)) rfl ⟨by rw [HTR.out, HTE.out], ?_⟩
      exact below_setRow HB1.out (by omega) _
end Go.Proofs.Try
