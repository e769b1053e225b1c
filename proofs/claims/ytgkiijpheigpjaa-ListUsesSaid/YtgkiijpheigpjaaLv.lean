/- list.Touch, Drop, Last (stage 15). -/
import Derived.Test.YtgkiijpheigpjaaLu
namespace Go.Proofs.Try
open Go.RowKit
set_option linter.unusedVariables false
set_option linter.unusedSimpArgs false
def woN (l : List Nat) (z : Nat) : List Nat := l.filter fun y => !(y == z)
theorem woZ_zs (l : List Nat) (z : Nat) : woZ (zs l) (z : Int) = zs (woN l z) := by
  unfold woZ zs woN
  rw [List.filter_map]
  refine congrArg _ (List.filter_congr (fun y _ => ?_))
  by_cases h : y = z
  · subst h; simp
  · have h1 : ((y : Int) == (z : Int)) = false := by rw [beq_eq_false_iff_ne]; omega
    have h2 : (y == z) = false := by rw [beq_eq_false_iff_ne]; exact h
    simp only [Function.comp, h1, h2]
theorem woN_mem {l : List Nat} {z y : Nat} : y ∈ woN l z ↔ y ∈ l ∧ y ≠ z := by unfold woN; simp
theorem woN_may {l : List Nat} (h : mayL l) (z : Nat) : mayL (woN l z) := ⟨h.1.sublist List.filter_sublist, fun x hx => h.2 x (woN_mem.1 hx).1⟩
theorem touch_may {l : List Nat} (h : mayL l) {z : Nat} (hz : z < 64) : mayL (z :: woN l z) :=
  ⟨List.nodup_cons.2 ⟨fun hm => (woN_mem.1 hm).2 rfl, (woN_may h z).1⟩, fun x hx => by
    rw [List.mem_cons] at hx
    rcases hx with rfl | hx
    · exact hz
    · exact (woN_may h z).2 x hx⟩
theorem zs_cons (z : Nat) (l : List Nat) : zs (z :: l) = (z : Int) :: zs l := rfl
theorem laid_zs {m : List Nat} (h : mayL m) : laidF (zs m) = told m := by rw [laidF_yes (isL_zs.2 h), nat_zs]
theorem err_zs {m : List Nat} (h : mayL m) : errL (zs m) = 0 := errL_yes (isL_zs.2 h)
def touchR (x : Ls) (id : Int) : Ls := if isTB x = true ∧ 0 ≤ id ∧ id < 64 then told (id.toNat :: woN (ordL x) id.toNat) else x
def touchE (x : Ls) (id : Int) : Int := if isTB x = true then (if 0 ≤ id ∧ id < 64 then 0 else 110) else 120
def dropR (x : Ls) (id : Int) : Ls := if isTB x = true ∧ id ∈ zs (ordL x) then told (woN (ordL x) id.toNat) else x
def dropE (x : Ls) (id : Int) : Int := if isTB x = true ∧ id ∈ zs (ordL x) then 0 else 120
/-- The last one. -/
def lastV (x : Ls) : Int := if ordL x = [] then 0 else tlI (ordL x)
def lastB (x : Ls) : Bool := !(ordL x).isEmpty
theorem own_one {base : Nat} {e : TypeId} (w : World) (v : Value) (hb : base ≤ w.heap.size) : (w.alloc (.cells #[v] e)).ownsRow base e 1 (.slice (some ⟨w.heap.size, 0, none⟩) 1 1) 1 [v] :=
  ⟨by simp, .inr ⟨w.heap.size, 1, #[v], rfl, hb, heap_alloc_new w _, Nat.le_refl _, by unfold maxLen; omega, by simp, by simp⟩⟩
theorem order_b (x : Ls) (base : Nat) (w : World) (hb : base ≤ w.heap.size) : Calls Try.prog 35 #[.agg (celV (lsC x))] w fun e w' => ∃ v', e = .returned (.tuple #[v', .bool (isTB x)]) ∧ w'.ownsRow base 3 1 v' (ordL x).length (flat encZ (zs (ordL x))) ∧ Below w.heap.size w w' :=
  (order_c x w).mono fun e w' ⟨v', h1, h2, h3⟩ => ⟨v', h1, own_mono0 h2 hb, h3⟩
set_option maxRecDepth 100000 in
set_option maxHeartbeats 8000000 in
theorem touch_c (x : Ls) (id : Int) (w : World) : Calls Try.prog 37 #[.agg (celV (lsC x)), .int .i64 id] w fun e w' => e = .returned (.tuple #[.agg (celV (lsC (touchR x id))), .int .i64 (touchE x id)]) ∧ Below w.heap.size w w' := by
  obtain ⟨i0, hi, hq0, hq1, hq2⟩ := info_parts int_info
  have hzc := zero_cells
  have OC := fun W h => order_b x (w.heap.size + 2) W h
  have HX0 := Lib.hid (show vbk ((w.alloc (.cells (celV (lsC x)) 55)).alloc (.cells (celV (lsC z0)) 55)) w.heap.size 55 (lsC x) from (vbk.new w _ _).alloc _)
  have HR0 := Lib.hid (show vbk ((w.alloc (.cells (celV (lsC x)) 55)).alloc (.cells (celV (lsC z0)) 55)) (w.heap.size + 1) 55 (lsC z0) from vbk.new' (by simp))
  have HB0 := Lib.hid (show Below w.heap.size w ((w.alloc (.cells (celV (lsC x)) 55)).alloc (.cells (celV (lsC z0)) 55)) from ((Below.refl _ _).alloc (Nat.le_refl _) _).alloc (by simp) _)
  have hlen := may_len (ordL_may x)
  cases ht : isTB x with
  | true =>
    rw [ht] at OC
    by_cases hr : 0 ≤ id ∧ id < 64
    · have HTR := Lib.hid (show touchR x id = told (id.toNat :: woN (ordL x) id.toNat) from if_pos ⟨ht, hr⟩)
      have HTE := Lib.hid (show touchE x id = 0 by unfold touchE; rw [if_pos ht, if_pos hr])
      obtain ⟨z, rfl⟩ := Int.eq_ofNat_of_zero_le hr.1
      have hz : z < 64 := by omega
      have N1 := fun W => lnamed_yes (z : Int) hr.1 hr.2 W
      have HMT := Lib.hid (touch_may (ordL_may x) hz)
      rw [show ((z : Int)).toNat = z from rfl] at HTR
      have hwl : (woZ (zs (ordL x)) (z : Int)).length ≤ 64 := by have := woZ_len (zs (ordL x)) (z : Int); rw [zs_len] at this; omega
      clear ht hr hz
      go_enter Try.func37, Try.ntmps37
      go_wp2_with (first
        | (refine wpList_load_vbk rfl 55 (.tmp 2) rfl w.heap.size 55 (lsC x) (by first | rfl | (simp [Act.eval]; done)) (HX0.out) _ Try.underlying55 rfl (lsC_info _) ?_)
        | (go_at_call 35; refine (OC _ (by simp)).mono ?_; rintro e w1 ⟨v1, rfl, ho1, hb1⟩
           have hz1 : w.heap.size + 2 ≤ w1.heap.size := by have := hb1.size; simpa using this
           have HO1 := Lib.hid ho1; have HX1 := Lib.hid (HX0.out.below hb1); have HR1 := Lib.hid (HR0.out.below hb1); have HB1 := Lib.hid (chain HB0.out hb1); clear ho1 hb1)
        | (go_at_call 57; refine (N1 _).mono ?_; rintro e w5 ⟨rfl, rfl⟩))
      refine (without_c (w.heap.size + 2) _ v1 (zs (ordL x)) (z : Int) (by omega) _ (HO1.out.alloc _) (by simp; omega)).mono ?_
      rintro e w2 ⟨⟨v2, rfl, hr2⟩, hg2⟩
      have HB2 := Lib.hid (((Below.refl (w.heap.size + 2) w1).alloc hz1 (.cells #[.int .i64 (z : Int)] 3)).grown hg2 (by simp; omega) (fun k hk => (HO1.out.lt k hk).1))
      have hz2 : w1.heap.size + 1 ≤ w2.heap.size := by have := hg2.size; simpa using this
      have HO2 := Lib.hid ((own_one (e := 3) w1 (.int .i64 (z : Int)) hz1).kept hg2 (by right; intro hh; exact absurd (HO1.out.lt _ hh.symm).2 (Nat.lt_irrefl _)))
      obtain ⟨A2, c2, rfl, hc2, hn2, hl2, hs2⟩ := hr2
      have HS2 := Lib.hid hs2
      clear hs2 hg2
      go_wp2_with (first
        | (at_builtin
           go_loud (refine wpList_app rfl (.tmp 21) (.tmp 24) _ rfl (w.heap.size + 2) 3 i0 _ 1 8 Try.underlying51 hi hq0 hq1 hq2 rfl (by omega) _ 1 _ (by first | rfl | (simp [Act.eval]; done)) HO2.out A2 _ c2 (flat encZ (woZ (zs (ordL x)) (z : Int))) (by first | rfl | (simp [Act.eval]; done)) hc2 HS2.out (flat_one encZ_one _) (by unfold maxLen; omega) (by omega) (by omega) ?_
                    intro v4 w4 hown4 hb4
                    have HO4 := Lib.hid hown4
                    have HB4 := Lib.hid (HB2.out.trans hb4)
                    clear hown4 hb4)))
      have HOF := Lib.hid (of_c v4 _ _ w4 (Rows.of_own (l := (z : Int) :: woZ (zs (ordL x)) (z : Int)) HO4.out (by simp; omega) (by omega)))
      rw [woZ_zs, ← zs_cons, laid_zs HMT.out, err_zs HMT.out] at HOF
      have HR4 := Lib.hid (HR1.out.belowB HB4.out (by omega))
      have hz4 := HB4.out.size
      refine HOF.out.mono ?_
      rintro e w5 ⟨rfl, hb5⟩
      have HR5 := Lib.hid (HR4.out.below hb5)
      have HB5 := Lib.hid (chain (HB1.out.trans (HB4.out.mono (by omega))) hb5)
      clear hb5
      go_wp2_with (refine wpList_store_vbk rfl 55 (.tmp 4) (.tmp 27) rfl (w.heap.size + 1) 55 (lsC z0) (lsC (told (z :: woN (ordL x) z))) (by first | rfl | (simp [Act.eval]; done)) (by first | rfl | (simp [Act.eval]; done)) HR5.out (by rw [lsC_len, lsC_len]) (lsC_one _) (lsC_info _) ?_)
      refine bodyPost_ret (results_vbk2 rfl (by rfl) (v := .int .i64 0) (by first | rfl | (simp; done)) (HR5.out.setRow (lsC (told (z :: woN (ordL x) z)))) Try.underlying55 rfl (lsC_info _)) rfl ⟨by rw [HTR.out, HTE.out], ?_⟩
      exact below_setRow HB5.out (by omega) _
    · have HTR := Lib.hid (show touchR x id = x from if_neg (fun h => hr h.2))
      have HTE := Lib.hid (show touchE x id = 110 by unfold touchE; rw [if_pos ht, if_neg hr])
      have N1 := fun W => lnamed_no id (by omega) W
      clear ht hr
      go_enter Try.func37, Try.ntmps37
      go_wp2_with (first
        | (refine wpList_load_vbk rfl 55 (.tmp 2) rfl w.heap.size 55 (lsC x) (by first | rfl | (simp [Act.eval]; done)) (by first | exact HX0.out | exact HX1.out) _ Try.underlying55 rfl (lsC_info _) ?_)
        | (go_at_call 35; refine (OC _ (by simp)).mono ?_; rintro e w1 ⟨v1, rfl, ho1, hb1⟩
           have HX1 := Lib.hid (HX0.out.below hb1); have HR1 := Lib.hid (HR0.out.below hb1); have HB1 := Lib.hid (chain HB0.out hb1); clear ho1 hb1)
        | (go_at_call 57; refine (N1 _).mono ?_; rintro e w5 ⟨rfl, rfl⟩)
        | (refine wpList_store_vbk rfl 55 (.tmp 4) (.tmp 19) rfl (w.heap.size + 1) 55 (lsC z0) (lsC x) (by first | rfl | (simp [Act.eval]; done)) (by first | rfl | (simp [Act.eval]; done)) HR1.out (by rw [lsC_len, lsC_len]) (lsC_one _) (lsC_info _) ?_))
      refine bodyPost_ret (results_vbk2 rfl (by rfl) (v := .int .i64 110) (by first | rfl | (simp; done)) (HR1.out.setRow (lsC x)) Try.underlying55 rfl (lsC_info _)) rfl ⟨by rw [HTR.out, HTE.out], ?_⟩
      exact below_setRow HB1.out (by omega) _
  | false =>
      rw [ht] at OC
      have HTR := Lib.hid (show touchR x id = x from if_neg (fun h => by rw [ht] at h; exact absurd h.1 (by simp)))
      have HTE := Lib.hid (show touchE x id = 120 by unfold touchE; rw [if_neg (by rw [ht]; simp)])
      clear ht
      go_enter Try.func37, Try.ntmps37
      go_wp2_with (first
        | (refine wpList_load_vbk rfl 55 (.tmp 2) rfl w.heap.size 55 (lsC x) (by first | rfl | (simp [Act.eval]; done)) (by first | exact HX0.out | exact HX1.out) _ Try.underlying55 rfl (lsC_info _) ?_)
        | (go_at_call 35; refine (OC _ (by simp)).mono ?_; rintro e w1 ⟨v1, rfl, ho1, hb1⟩
           have HX1 := Lib.hid (HX0.out.below hb1); have HR1 := Lib.hid (HR0.out.below hb1); have HB1 := Lib.hid (chain HB0.out hb1); clear ho1 hb1)
        | (refine wpList_store_vbk rfl 55 (.tmp 4) (.tmp 15) rfl (w.heap.size + 1) 55 (lsC z0) (lsC x) (by first | rfl | (simp [Act.eval]; done)) (by first | rfl | (simp [Act.eval]; done)) HR1.out (by rw [lsC_len, lsC_len]) (lsC_one _) (lsC_info _) ?_))
      refine bodyPost_ret (results_vbk2 rfl (by rfl) (v := .int .i64 120) (by first | rfl | (simp; done)) (HR1.out.setRow (lsC x)) Try.underlying55 rfl (lsC_info _)) rfl ⟨by rw [HTR.out, HTE.out], ?_⟩
      exact below_setRow HB1.out (by omega) _
end Go.Proofs.Try
