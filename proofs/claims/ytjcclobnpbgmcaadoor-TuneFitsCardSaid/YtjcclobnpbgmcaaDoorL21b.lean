/- The walk of TuneFits (stage 21). -/
import Derived.Test.YtjcclobnpbgmcaaDoorUm
import Derived.Test.YtjcclobnpbgmcaaDoorUn
import Derived.Test.YtjcclobnpbgmcaaDoorOpenC
namespace Go.Proofs.Tryd
open Go.RowKit Go.Sort
set_option linter.unusedVariables false
set_option linter.unusedSimpArgs false
set_option maxRecDepth 100000 in
set_option maxHeartbeats 8000000 in
theorem fits_few (A : Option Addr) (n c : Nat) (l : List Sn) (L m : Int) (hn : n ≤ maxLen) (hl : l.length = n) (hf : (fewN l && decide (n ≤ 30)) = false) (w : World) (hs : Sees w 3 A n (flat encN l)) (hT : Pows w) :
    Calls Tryd.prog 7 #[.slice A n c, .int .u64 L, .int .u16 m] w fun e w' => e = .returned (.bool true) ∧ Below w.heap.size w w' := by
  have FC := fun W h => fewN_c A n c l 30 hn (by omega) W h hl
  have HS := Lib.hid hs
  have HT := Lib.hid hT
  rw [hf] at FC
  clear hs hf hT
  go_enter Tryd.func7, Tryd.ntmps7
  go_wp2_with (first
    | (go_at_call 10; refine (awake21 _ HT.out).mono ?_; rintro e w1 ⟨rfl, hb1⟩; have HB1 := Lib.hid hb1; replace HS := Lib.hid (HS.out.below hb1); clear hb1)
    | (go_at_call 11; refine (FC _ HS.out).mono ?_; rintro e w2 ⟨rfl, hb2⟩; have HB2 := Lib.hid (chain HB1.out hb2); clear hb2))
  go_ret
  exact ⟨rfl, HB2.out⟩
set_option maxRecDepth 100000 in
set_option maxHeartbeats 8000000 in
theorem fits_chk (v : Value) (n : Nat) (l : List Sn) (L m : Int) (hn : n ≤ 30) (hf : fewN l = true) (hc : chkN l = false) (w : World) (h : Rows encN 3 w v n l) (hT : Pows w) :
    Calls Tryd.prog 7 #[v, .int .u64 L, .int .u16 m] w fun e w' => e = .returned (.bool true) ∧ Below w.heap.size w w' := by
  have CK := fun W h => tcheck_c v n l W h
  rw [hc] at CK
  obtain ⟨A, c, rfl, hcap, hn', hl, hs⟩ := h
  have FC := fun W h => fewN_c A n c l 30 (by unfold maxLen; omega) (by omega) W h hl
  rw [hf, decide_eq_true hn] at FC
  have HR : Hid (Rows encN 3 w (.slice A n c) n l) := Lib.hid ⟨A, c, rfl, hcap, by omega, hl, hs⟩
  have HS := Lib.hid hs
  have HT := Lib.hid hT
  clear hs hf hT hc
  go_enter Tryd.func7, Tryd.ntmps7
  go_wp2_with (first
    | (go_at_call 10; refine (awake21 _ HT.out).mono ?_; rintro e w1 ⟨rfl, hb1⟩; have HB1 := Lib.hid hb1; replace HS := Lib.hid (HS.out.below hb1); replace HR := Lib.hid (HR.out.below hb1); clear hb1)
    | (go_at_call 11; refine (FC _ HS.out).mono ?_; rintro e w2 ⟨rfl, hb2⟩; have HB2 := Lib.hid (chain HB1.out hb2); replace HR := Lib.hid (HR.out.below hb2); clear hb2)
    | (go_at_call 12; refine (CK _ HR.out).mono ?_; rintro e w3 ⟨rfl, hb3⟩; have HB3 := Lib.hid (chain HB2.out hb3); clear hb3))
  go_ret
  exact ⟨rfl, HB3.out⟩
theorem room_of (m : Nat) (hm : m < 65536) : wMul (m : Int) 4294967296 = (m : Int) * 4294967296 := by unfold wMul; rw [if_pos (by omega)]
theorem fits_facts {l : List Sn} (hc : chkN l = true) (L m : Nat) (hm : m < 65536) : (fillF l L ((2 ^ timeN l L m : Nat) : Int) ≤ (m : Int) * 4294967296 ∨ timeN l L m = 0) ∧ (timeN l L m = 32 ∨ (m : Int) * 4294967296 < fillF l L ((2 ^ (timeN l L m + 1) : Nat) : Int)) := by
  have h1 := time_fits hc L m
  have h2 := time_last hc L m
  rw [fitB_fill hc, room_of m hm, decide_eq_true_iff] at h1
  rw [fitB_fill hc, room_of m hm, decide_eq_false_iff_not] at h2
  refine ⟨h1.symm, h2.imp_right fun h => by omega⟩
set_option maxRecDepth 100000 in
set_option maxHeartbeats 8000000 in
theorem fits_c (v : Value) (n : Nat) (l : List Sn) (L m : Nat) (hL : L < 18446744073709551616) (hm : m < 65536) (hn : n ≤ 30) (hf : fewN l = true) (hc : chkN l = true) (w : World) (h : Rows encN 3 w v n l) (hT : Pows w) :
    Calls Tryd.prog 7 #[v, .int .u64 (L : Int), .int .u16 (m : Int)] w fun e w' => e = .returned (.bool true) ∧ Below w.heap.size w w' := by
  have CK := fun W h => tcheck_c v n l W h
  rw [hc] at CK
  have TC := fun W h hT => time_c v n l L (m : Int) hL (by omega) (by omega) W h hT
  have htn := timeN_le l L m
  obtain ⟨f1, f2⟩ := fits_facts hc L m hm
  obtain ⟨N, hN⟩ : ∃ N, timeN l L m = N := ⟨_, rfl⟩
  rw [hN] at TC htn f1 f2
  obtain ⟨p1, p2⟩ := pow_in N (by omega)
  obtain ⟨p3, p4⟩ := pow_in (N + 1) (by omega)
  have F1 := fun W h h' => fill_c v n l L ((2 ^ N : Nat) : Int) hL p1 p2 W h h'
  have F2 := fun W h h' => fill_c v n l L ((2 ^ (N + 1) : Nat) : Int) hL p3 p4 W h h'
  generalize fillF l L ((2 ^ N : Nat) : Int) = x1 at *
  generalize fillF l L ((2 ^ (N + 1) : Nat) : Int) = x2 at *
  obtain ⟨R, hR⟩ : ∃ R, (m : Int) * 4294967296 = R := ⟨_, rfl⟩
  have hw : IntKind.u64.wrap R = R := by rw [IntKind.wrap_u64]; omega
  rw [hR] at f1 f2
  have hnw : IntKind.u64.wrap ((N : Int) + 1) = ((N + 1 : Nat) : Int) := by rw [IntKind.wrap_u64]; omega
  obtain ⟨A, c, rfl, hcap, hn', hl, hs⟩ := h
  have FC := fun W h => fewN_c A n c l 30 (by unfold maxLen; omega) (by omega) W h hl
  rw [hf, decide_eq_true hn] at FC
  have HR : Hid (Rows encN 3 w (.slice A n c) n l) := Lib.hid ⟨A, c, rfl, hcap, by omega, hl, hs⟩
  have HS := Lib.hid hs
  have HT := Lib.hid hT
  have hN32 : (N : Int) ≤ 32 := by omega
  have F1' := Lib.hid f1
  have F2' := Lib.hid f2
  clear hs hf hT hc p1 p2 p3 p4 hN f1 f2
  go_enter Tryd.func7, Tryd.ntmps7
  go_wp2_with (first
    | (go_at_call 10; refine (awake21 _ HT.out).mono ?_; rintro e w1 ⟨rfl, hb1⟩; have HB1 := Lib.hid hb1; replace HS := Lib.hid (HS.out.below hb1); replace HR := Lib.hid (HR.out.below hb1); replace HT := Lib.hid (HT.out.below hb1); clear hb1)
    | (go_at_call 11; refine (FC _ HS.out).mono ?_; rintro e w2 ⟨rfl, hb2⟩; have HB2 := Lib.hid (chain HB1.out hb2); replace HR := Lib.hid (HR.out.below hb2); replace HT := Lib.hid (HT.out.below hb2); clear hb2)
    | (go_at_call 12; refine (CK _ HR.out).mono ?_; rintro e w3 ⟨rfl, hb3⟩; have HB3 := Lib.hid (chain HB2.out hb3); replace HR := Lib.hid (HR.out.below hb3); replace HT := Lib.hid (HT.out.below hb3); clear hb3)
    | (go_at_call 23; refine (TC _ HR.out HT.out).mono ?_; rintro e w4 ⟨rfl, hb4⟩; have HB4 := Lib.hid (chain HB3.out hb4); replace HR := Lib.hid (HR.out.below hb4); replace HT := Lib.hid (HT.out.below hb4); clear hb4))
  rw [pow_wrap N (by omega)]
  refine (F1 _ HR.out HT.out).mono ?_
  rintro e w5 ⟨rfl, hb5⟩
  replace HR := Lib.hid (HR.out.below hb5)
  replace HT := Lib.hid (HT.out.below hb5)
  by_cases hx : x1 ≤ R
  · have q1 : decide (x1 ≤ R) = true := decide_eq_true hx
    by_cases h32 : (N : Int) = 32
    · have q3 : decide ((N : Int) = 32) = true := decide_eq_true h32
      go_wp2_with fail
      go_ret
      exact ⟨rfl, chain HB4.out hb5⟩
    · have q3 : decide ((N : Int) = 32) = false := decide_eq_false h32
      go_wp2_with fail
      rw [pow_wrap (N + 1) (by omega)]
      refine (F2 _ HR.out HT.out).mono ?_
      rintro e w6 ⟨rfl, hb6⟩
      have g2 : R < x2 := by rcases F2'.out with h | h <;> omega
      have g3 : decide (R < x2) = true := decide_eq_true g2
      go_wp2_with fail
      go_ret
      exact ⟨rfl, chain (chain HB4.out hb5) hb6⟩
  · have q1 : decide (x1 ≤ R) = false := decide_eq_false hx
    have h0 : (N : Int) = 0 := by rcases F1'.out with h | h <;> omega
    have h32 : ¬(N : Int) = 32 := by omega
    have q2 : decide ((N : Int) = 0) = true := decide_eq_true h0
    have q3 : decide ((N : Int) = 32) = false := decide_eq_false h32
    obtain rfl : N = 0 := by omega
    have F2z : ∀ W, Rows encN 3 W (.slice A n c) n l → Pows W → Calls Tryd.prog 19 #[.slice A n c, .int .u64 (L : Int), .int .u64 2] W fun e w' => e = .returned (.int .u64 x2) ∧ Below W.heap.size W w' := F2
    clear h0 q2 q3 F2 F1
    go_wp2_with fail
    refine (F2z _ HR.out HT.out).mono ?_
    rintro e w6 ⟨rfl, hb6⟩
    have g2 : R < x2 := by rcases F2'.out with h | h <;> omega
    have g3 : decide (R < x2) = true := decide_eq_true g2
    go_wp2_with fail
    go_ret
    exact ⟨rfl, chain (chain HB4.out hb5) hb6⟩
theorem walk_TuneFits (v0 : Value) (L m : Int) (w1 : (Lit.int .u64 L).wf = true) (w2 : (Lit.int .u16 m).wf = true) (w : World) (hT : Pows w) (o0 : RowIn encN 3 okSn w v0) :
    Calls Tryd.prog 7 #[v0, .int .u64 L, .int .u16 m] w fun e w' => e = .returned (.bool true) ∧ Below w.heap.size w w' := by
  obtain ⟨A, n, c, l, rfl, hc, hn, hl, _, hs⟩ := o0
  obtain ⟨p2, p2'⟩ := bounds_u64 w1
  obtain ⟨p5, p5'⟩ := bounds_u16 w2
  obtain ⟨L, rfl⟩ := Int.eq_ofNat_of_zero_le p2
  obtain ⟨m, rfl⟩ := Int.eq_ofNat_of_zero_le p5
  cases hf : (fewN l && decide (n ≤ 30)) with
  | false => exact fits_few A n c l L m hn hl hf w hs hT
  | true =>
    rw [Bool.and_eq_true, decide_eq_true_iff] at hf
    have hr : Rows encN 3 w (.slice A n c) n l := ⟨A, c, rfl, hc, by omega, hl, hs⟩
    cases hk : chkN l with
    | false => exact fits_chk _ n l L m hf.2 hf.1 hk w hr hT
    | true => exact fits_c _ n l L m (by omega) (by omega) hf.2 hf.1 hk w hr hT
end Go.Proofs.Tryd
