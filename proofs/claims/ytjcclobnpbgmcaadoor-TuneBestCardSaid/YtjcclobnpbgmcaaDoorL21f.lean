/- The walk of TuneBest (stage 21). -/
import Derived.Test.YtjcclobnpbgmcaaDoorUw
import Derived.Test.YtjcclobnpbgmcaaDoorOpenC
import Derived.Test.YtjcclobnpbgmcaaDoorRow
namespace Go.Proofs.Tryd
open Go.RowKit Go.Sort
set_option linter.unusedVariables false
set_option linter.unusedSimpArgs false
set_option maxRecDepth 100000 in
set_option maxHeartbeats 8000000 in
theorem tbest_few (A : Option Addr) (n c : Nat) (l : List Sn) (L m : Int) (A2 : Option Addr) (n2 c2 : Nat) (hn : n ≤ maxLen) (hl : l.length = n) (hf : (fewN l && decide (n ≤ 10)) = false) (w : World) (hs : Sees w 3 A n (flat encN l)) (hT : Pows w) :
    Calls Tryd.prog 4 #[.slice A n c, .int .u64 L, .int .u64 m, .slice A2 n2 c2] w fun e w' => e = .returned (.bool true) ∧ Below w.heap.size w w' := by
  have FC := fun W h => fewN_c A n c l 10 hn (by omega) W h hl
  have HS := Lib.hid hs
  have HT := Lib.hid hT
  rw [hf] at FC
  clear hs hf hT
  go_enter Tryd.func4, Tryd.ntmps4
  go_wp2_with (first
    | (go_at_call 10; refine (awake21 _ HT.out).mono ?_; rintro e w1 ⟨rfl, hb1⟩; have HB1 := Lib.hid hb1; replace HS := Lib.hid (HS.out.below hb1); clear hb1)
    | (go_at_call 11; refine (FC _ HS.out).mono ?_; rintro e w2 ⟨rfl, hb2⟩; have HB2 := Lib.hid (chain HB1.out hb2); clear hb2))
  go_ret
  exact ⟨rfl, HB2.out⟩
set_option maxRecDepth 100000 in
set_option maxHeartbeats 8000000 in
theorem tbest_long (A : Option Addr) (n c : Nat) (l : List Sn) (L m : Int) (A2 : Option Addr) (n2 c2 : Nat) (hn : n ≤ maxLen) (hl : l.length = n) (hf : (fewN l && decide (n ≤ 10)) = true) (h2 : 5 < n2) (w : World) (hs : Sees w 3 A n (flat encN l)) (hT : Pows w) :
    Calls Tryd.prog 4 #[.slice A n c, .int .u64 L, .int .u64 m, .slice A2 n2 c2] w fun e w' => e = .returned (.bool true) ∧ Below w.heap.size w w' := by
  have FC := fun W h => fewN_c A n c l 10 hn (by omega) W h hl
  have HS := Lib.hid hs
  have HT := Lib.hid hT
  rw [hf] at FC
  have qk1 : decide (5 < (n2 : Int)) = true := by simp; omega
  have qk2 : decide (5 < n2) = true := by simp; omega
  have qk3 : (5 : Int) < (n2 : Int) := by omega
  clear hs hf hT
  go_enter Tryd.func4, Tryd.ntmps4
  go_wp2_with (first
    | (go_at_call 10; refine (awake21 _ HT.out).mono ?_; rintro e w1 ⟨rfl, hb1⟩; have HB1 := Lib.hid hb1; replace HS := Lib.hid (HS.out.below hb1); clear hb1)
    | (go_at_call 11; refine (FC _ HS.out).mono ?_; rintro e w2 ⟨rfl, hb2⟩; have HB2 := Lib.hid (chain HB1.out hb2); clear hb2))
  go_ret
  exact ⟨rfl, HB2.out⟩
set_option maxRecDepth 100000 in
set_option maxHeartbeats 8000000 in
theorem tbest_c (A : Option Addr) (n c : Nat) (l : List Sn) (L : Nat) (m : Int) (hL : L < 18446744073709551616) (hm : 0 ≤ m) (hm' : m < 18446744073709551616) (A2 : Option Addr) (n2 c2 : Nat) (gs : List Int) (hcap : CapOk A n c) (hn : n ≤ 10) (hl : l.length = n) (h2 : n2 ≤ 5) (hf : fewN l = true) (hgs : ∀ k, -9223372036854775808 ≤ gs.getD k 0 ∧ gs.getD k 0 ≤ 9223372036854775807) (w : World) (hs : Sees w 3 A n (flat encN l)) (hT : Pows w) (hG : Sees w 1 A2 n2 (gs.map (Value.int .i64))) :
    Calls Tryd.prog 4 #[.slice A n c, .int .u64 (L : Int), .int .u64 m, .slice A2 n2 c2] w fun e w' => e = .returned (.bool true) ∧ Below w.heap.size w w' := by
  have FC := fun W h => fewN_c A n c l 10 (by unfold maxLen; omega) (by omega) W h hl
  rw [hf, decide_eq_true hn] at FC
  have BC := fun W h hT hG => best_c (.slice A n c) n l m hm hm' A2 n2 c2 gs (by omega) (fun k => by have := hgs k; omega) W h hT hG
  have RB : ∀ W, Rows encN 3 W (.slice A n c) n l → Sees W 1 A2 n2 (gs.map (Value.int .i64)) → Calls Tryd.prog 22 #[.slice A n c, .int .u64 m, .slice A2 n2 c2] W fun e w' => e = .returned (.tuple #[.int .i64 (bestF l m gs).1, .bool (bestF l m gs).2.2]) ∧ Below W.heap.size W w' := fun W h hG => by
    cases hc : chkN l with
    | false => exact rbest_no _ n l m hm hm' A2 n2 c2 gs (by omega) hgs hc W h hG
    | true => exact rbest_c _ n l m hm hm' A2 n2 c2 gs (by omega) hgs hc W h hG
  have T1 := fun W h hT => time_c (.slice A n c) n l L m hL hm hm' W h hT
  have T2 := fun W h => rtime_c (.slice A n c) n l L m hL hm hm' W h
  have S1 := fun W h hT => score_c (.slice A n c) n l L m hL hm hm' W h hT
  have S2 := fun W h => rscore_c (.slice A n c) n l L m hL hm hm' W h
  generalize (bestF l m gs).1 = B at *
  generalize (bestF l m gs).2.2 = F at *
  obtain ⟨Q, hQ⟩ : ∃ Q : Int, ((timeN l L m : Nat) : Int) = Q := ⟨_, rfl⟩
  rw [hQ] at T1 T2
  generalize scoreF l L m = X at *
  have HR : Hid (Rows encN 3 w (.slice A n c) n l) := Lib.hid ⟨A, c, rfl, hcap, by omega, hl, hs⟩
  have HS := Lib.hid hs
  have HT := Lib.hid hT
  have HG := Lib.hid hG
  have qk1 : decide (5 < (n2 : Int)) = false := by simp; omega
  have qk2 : decide (5 < n2) = false := by simp; omega
  have qk3 : ¬(5 : Int) < (n2 : Int) := by omega
  clear hs hf hT hG hgs hQ
  go_enter Tryd.func4, Tryd.ntmps4
  go_wp2_with (first
    | (go_at_call 10; refine (awake21 _ HT.out).mono ?_; rintro e w1 ⟨rfl, hb1⟩; have HB1 := Lib.hid hb1; replace HS := Lib.hid (HS.out.below hb1); replace HR := Lib.hid (HR.out.below hb1); replace HT := Lib.hid (HT.out.below hb1); replace HG := Lib.hid (HG.out.below hb1); clear hb1)
    | (go_at_call 11; refine (FC _ HS.out).mono ?_; rintro e w2 ⟨rfl, hb2⟩; have HB2 := Lib.hid (chain HB1.out hb2); replace HR := Lib.hid (HR.out.below hb2); replace HT := Lib.hid (HT.out.below hb2); replace HG := Lib.hid (HG.out.below hb2); clear hb2)
    | (go_at_call 21; refine (BC _ HR.out HT.out HG.out).mono ?_; rintro e w3 ⟨rfl, hb3⟩; have HB3 := Lib.hid (chain HB2.out hb3); replace HR := Lib.hid (HR.out.below hb3); replace HT := Lib.hid (HT.out.below hb3); replace HG := Lib.hid (HG.out.below hb3); clear hb3)
    | (go_at_call 22; refine (RB _ HR.out HG.out).mono ?_; rintro e w4 ⟨rfl, hb4⟩; have HB4 := Lib.hid (chain HB3.out hb4); replace HR := Lib.hid (HR.out.below hb4); replace HT := Lib.hid (HT.out.below hb4); clear hb4)
    | (go_at_call 23; refine (T1 _ HR.out HT.out).mono ?_; rintro e w5 ⟨rfl, hb5⟩; have HB5 := Lib.hid (chain HB4.out hb5); replace HR := Lib.hid (HR.out.below hb5); replace HT := Lib.hid (HT.out.below hb5); clear hb5)
    | (go_at_call 24; refine (T2 _ HR.out).mono ?_; rintro e w6 ⟨rfl, hb6⟩; have HB6 := Lib.hid (chain HB5.out hb6); replace HR := Lib.hid (HR.out.below hb6); replace HT := Lib.hid (HT.out.below hb6); clear hb6)
    | (go_at_call 25; refine (S1 _ HR.out HT.out).mono ?_; rintro e w7 ⟨rfl, hb7⟩; have HB7 := Lib.hid (chain HB6.out hb7); replace HR := Lib.hid (HR.out.below hb7); clear hb7)
    | (go_at_call 26; refine (S2 _ HR.out).mono ?_; rintro e w8 ⟨rfl, hb8⟩; have HB8 := Lib.hid (chain HB7.out hb8); clear hb8))
  go_ret
  exact ⟨by first | rfl | (simp; done), HB8.out⟩
theorem walk_TuneBest (v0 : Value) (L m : Int) (v3 : Value) (w1 : (Lit.int .u64 L).wf = true) (w2 : (Lit.int .u64 m).wf = true) (w : World) (hT : Pows w) (o0 : RowIn encN 3 okSn w v0) (o3 : ∃ xs, Row w .i64 v3 xs) :
    Calls Tryd.prog 4 #[v0, .int .u64 L, .int .u64 m, v3] w fun e w' => e = .returned (.bool true) ∧ Below w.heap.size w w' := by
  obtain ⟨A, n, c, l, rfl, hc, hn, hl, _, hs⟩ := o0
  obtain ⟨gs, A2, n2, c2, rfl, hc2, hn2, hG, hw2⟩ := o3
  obtain ⟨p1, p1'⟩ := bounds_u64 w1
  obtain ⟨p2, p2'⟩ := bounds_u64 w2
  obtain ⟨L, rfl⟩ := Int.eq_ofNat_of_zero_le p1
  have hgs : ∀ k, -9223372036854775808 ≤ gs.getD k 0 ∧ gs.getD k 0 ≤ 9223372036854775807 := fun k => by
    rw [List.getD_eq_getElem?_getD]
    rcases Nat.lt_or_ge k gs.length with h | h
    · rw [List.getElem?_eq_getElem h]
      have := bounds_i64 (hw2 _ (List.getElem_mem h))
      show -9223372036854775808 ≤ gs[k] ∧ gs[k] ≤ _
      omega
    · rw [List.getElem?_eq_none h]; decide
  cases hf : (fewN l && decide (n ≤ 10)) with
  | false => exact tbest_few A n c l L m A2 n2 c2 hn hl hf w hs hT
  | true =>
    by_cases h5 : 5 < n2
    · exact tbest_long A n c l L m A2 n2 c2 hn hl hf h5 w hs hT
    · rw [Bool.and_eq_true, decide_eq_true_iff] at hf
      exact tbest_c A n c l L m (by omega) p2 (by omega) A2 n2 c2 gs hc hf.2 hl (by omega) hf.1 hgs w hs hT hG
end Go.Proofs.Tryd
