/- tune.Fill, Time, Score (stage 21). -/
import Derived.Test.YtjcclobnpbgmcaaDoorUe
namespace Go.Proofs.Tryd
open Go.RowKit
set_option linter.unusedVariables false
set_option linter.unusedSimpArgs false
def fillF (l : List Sn) (L : Nat) (t : Int) : Int := if chkN l = true then sumK szF l L t l.length else 0
set_option maxRecDepth 100000 in
set_option maxHeartbeats 4000000 in
theorem fill_c (v : Value) (n : Nat) (l : List Sn) (L : Nat) (t : Int) (hL : L < 18446744073709551616) (ht : 0 ≤ t) (ht' : t < 18446744073709551616) (w : World) (h : Rows encN 3 w v n l) (hT : Pows w) :
    Calls Tryd.prog 19 #[v, .int .u64 (L : Int), .int .u64 t] w fun e w' => e = .returned (.int .u64 (fillF l L t)) ∧ Below w.heap.size w w' := by
  have CK := fun W h => tcheck_c v n l W h
  have HR := Lib.hid h
  have HT := Lib.hid hT
  have HLn := Lib.hid h.len
  unfold fillF
  clear h hT
  cases hc : chkN l with
  | false =>
    rw [hc] at CK
    rw [if_neg (by simp)]
    clear hc
    go_enter Tryd.func19, Tryd.ntmps19
    go_wp2_with (go_at_call 12; refine (CK _ HR.out).mono ?_; rintro e w1 ⟨rfl, hb1⟩)
    go_ret
    exact ⟨rfl, hb1⟩
  | true =>
    have SC := fun W h hT => sum_c v n l L 40 hL hc W h hT
    have FC := fun B W h hS => fillc_c v n l L t ht ht' hc B W h hS
    rw [hc] at CK
    rw [if_pos rfl, HLn.out]
    clear hc
    go_enter Tryd.func19, Tryd.ntmps19
    go_wp2_with (go_at_call 12; refine (CK _ HR.out).mono ?_; rintro e w1 ⟨rfl, hb1⟩)
    replace HR := Lib.hid (HR.out.below hb1)
    replace HT := Lib.hid (HT.out.below hb1)
    go_wp2_with fail
    refine (SC _ HR.out HT.out).mono ?_
    rintro e w2 ⟨rfl, hS, hb2⟩
    replace HR := Lib.hid (HR.out.below hb2)
    have HS := Lib.hid hS
    clear hS
    go_wp2_with fail
    refine (FC _ _ HR.out HS.out).mono ?_
    rintro e w3 ⟨rfl, hb3⟩
    go_wp2_with fail
    go_ret
    exact ⟨rfl, chain (chain hb1 hb2) hb3⟩
theorem pow_in (k : Nat) (hk : k ≤ 33) : (0 : Int) ≤ ((2 ^ k : Nat) : Int) ∧ ((2 ^ k : Nat) : Int) < 18446744073709551616 := by
  have h1 : 2 ^ k ≤ 2 ^ 33 := Nat.pow_le_pow_right (by omega) hk
  have h2 : (2 : Nat) ^ 33 = 8589934592 := by decide
  rw [h2] at h1
  generalize 2 ^ k = X at *
  omega
theorem pow_wrap (k : Nat) (hk : k ≤ 33) : IntKind.u64.wrap ((2 : Int) ^ k) = ((2 ^ k : Nat) : Int) := by
  obtain ⟨h1, h2⟩ := pow_in k hk
  have e : (2 : Int) ^ k = ((2 ^ k : Nat) : Int) := by simp
  rw [e]
  exact Int.emod_eq_of_lt h1 h2
/-- Does all have room at the time 2^k? -/
def fitB (l : List Sn) (L : Nat) (m : Int) (k : Nat) : Bool := decide (sumK szF l L ((2 ^ k : Nat) : Int) l.length ≤ wMul m 4294967296)
def goT (l : List Sn) (L : Nat) (m : Int) : Nat → Nat → Nat
  | k, 0 => k - 1
  | k, f + 1 => if fitB l L m k then goT l L m (k + 1) f else k - 1
theorem goT_succ (l : List Sn) (L : Nat) (m : Int) (k f : Nat) : goT l L m k (f + 1) = if fitB l L m k then goT l L m (k + 1) f else k - 1 := by rw [goT]
def timeN (l : List Sn) (L : Nat) (m : Int) : Nat := if chkN l = true then goT l L m 0 33 else 0
set_option maxRecDepth 100000 in
set_option maxHeartbeats 4000000 in
theorem time_c (v : Value) (n : Nat) (l : List Sn) (L : Nat) (m : Int) (hL : L < 18446744073709551616) (hm : 0 ≤ m) (hm' : m < 18446744073709551616) (w : World) (h : Rows encN 3 w v n l) (hT : Pows w) :
    Calls Tryd.prog 23 #[v, .int .u64 (L : Int), .int .u64 m] w fun e w' => e = .returned (.int .u64 ((timeN l L m : Nat) : Int)) ∧ Below w.heap.size w w' := by
  have CK := fun W h => tcheck_c v n l W h
  have HR := Lib.hid h
  have HT := Lib.hid hT
  have HLn := Lib.hid h.len
  unfold timeN
  clear h hT
  cases hc : chkN l with
  | false =>
    rw [hc] at CK
    rw [if_neg (by simp)]
    clear hc
    go_enter Tryd.func23, Tryd.ntmps23
    go_wp2_with (go_at_call 12; refine (CK _ HR.out).mono ?_; rintro e w1 ⟨rfl, hb1⟩)
    go_ret
    exact ⟨rfl, hb1⟩
  | true =>
    have SC := fun W h hT => sum_c v n l L 40 hL hc W h hT
    have FC := fun t ht ht' B W h hS => fillc_c v n l L t ht ht' hc B W h hS
    have MC := fun W => mul_c m 4294967296 hm (by omega) hm' (by omega) W
    rw [hc] at CK
    rw [if_pos rfl]
    clear hc
    go_enter Tryd.func23, Tryd.ntmps23
    go_wp2_with (go_at_call 12; refine (CK _ HR.out).mono ?_; rintro e w1 ⟨rfl, hb1⟩)
    replace HR := Lib.hid (HR.out.below hb1)
    replace HT := Lib.hid (HT.out.below hb1)
    go_wp2_with fail
    refine (SC _ HR.out HT.out).mono ?_
    rintro e w2 ⟨rfl, hS, hb2⟩
    replace HR := Lib.hid (HR.out.below hb2)
    have HS := Lib.hid hS
    have HB2 := Lib.hid (chain hb1 hb2)
    clear hS hb2 hb1
    go_wp2_with (go_at_call 43; refine (MC _).mono ?_; rintro e w3 ⟨rfl, rfl⟩)
    obtain ⟨RM, hRM⟩ : ∃ RM, wMul m 4294967296 = RM := ⟨_, rfl⟩
    rw [hRM]
    have HRM := Lib.hid hRM
    clear hRM MC
    go_loopw [9, 19] (fun o i wr => ∃ (k : Nat), k ≤ 33 ∧ i = .int .u64 (k : Int) ∧ o = .int .u64 ((k - 1 : Nat) : Int) ∧ Hid (goT l L m 0 33 = goT l L m k (33 - k)) ∧ Hid (Below w2.heap.size w2 wr)) (fun _ i _ => 33 - (intOf i).toNat)
    case atStart => exact ⟨0, by omega, rfl, rfl, Lib.hid rfl, Lib.hid (Below.refl _ _)⟩
    case round =>
      obtain ⟨k, hk, rfl, rfl, HG, HB⟩ := hrel
      by_cases hlt : k < 33
      · have hki : (k : Int) < 33 := by omega
        have hkn : decide ((k : Int) < 33) = true := by simp; omega
        have HR' := Lib.hid (HR.out.below HB.out)
        have HS' := Lib.hid (HS.out.below HB.out)
        go_wp2_with fail
        rw [pow_wrap k (by omega)]
        obtain ⟨p1, p2⟩ := pow_in k (by omega)
        refine (FC _ p1 p2 _ _ HR'.out HS'.out).mono ?_
        rintro e w4 ⟨rfl, hb4⟩
        have HB4 := Lib.hid (chain HB.out hb4)
        have hg : 33 - k = 33 - (k + 1) + 1 := by omega
        have hG := HG.out
        rw [hg, goT_succ l L m k] at hG
        have hfit : fitB l L m k = decide (sumK szF l L ((2 ^ k : Nat) : Int) n ≤ RM) := by unfold fitB; rw [HLn.out, HRM.out]
        rw [hfit] at hG
        generalize sumK szF l L ((2 ^ k : Nat) : Int) n = SS at *
        clear p1 p2 hfit hb4 hg HG HB
        by_cases hf : SS ≤ RM
        · have f1 : decide (RM < SS) = false := by simp; omega
          rw [decide_eq_true hf, if_pos rfl] at hG
          have HG := Lib.hid hG
          clear hf hG
          go_wp2_with fail
          go_roundw
          case rel => exact ⟨k + 1, by omega, by first | rfl | (simp; done) | (rw [wrap_u (k : Int) (by omega)]; rfl), by first | rfl | (simp; done), HG, HB4⟩
          case measure => first | (simp [intOf]; done) | (simp [intOf]; omega)
        · have f1 : decide (RM < SS) = true := by simp; omega
          rw [decide_eq_false hf, if_neg (by simp)] at hG
          have HG := Lib.hid hG
          clear hf hG
          go_wp2_with fail
          go_ret
          exact ⟨by rw [HG.out]; rfl, chain HB2.out HB4.out⟩
      · have hke : k = 33 := by omega
        subst hke
        go_wp2_with fail
        go_ret
        exact ⟨by rw [HG.out]; rfl, chain HB2.out HB.out⟩
theorem goT_le (l : List Sn) (L : Nat) (m : Int) : ∀ f k, goT l L m k f ≤ k + f - 1
  | 0, k => by rw [goT]; omega
  | f + 1, k => by
    rw [goT_succ]
    split
    · have := goT_le l L m f (k + 1); omega
    · omega
theorem timeN_le (l : List Sn) (L : Nat) (m : Int) : timeN l L m ≤ 32 := by
  unfold timeN
  split
  · have := goT_le l L m 33 0; omega
  · omega
def scoreF (l : List Sn) (L : Nat) (m : Int) : Int := if chkN l = true then sumK cnF l L ((2 ^ timeN l L m : Nat) : Int) l.length else 0
set_option maxRecDepth 100000 in
set_option maxHeartbeats 4000000 in
theorem score_c (v : Value) (n : Nat) (l : List Sn) (L : Nat) (m : Int) (hL : L < 18446744073709551616) (hm : 0 ≤ m) (hm' : m < 18446744073709551616) (w : World) (h : Rows encN 3 w v n l) (hT : Pows w) :
    Calls Tryd.prog 25 #[v, .int .u64 (L : Int), .int .u64 m] w fun e w' => e = .returned (.int .u64 (scoreF l L m)) ∧ Below w.heap.size w w' := by
  have CK := fun W h => tcheck_c v n l W h
  have HR := Lib.hid h
  have HT := Lib.hid hT
  have HLn := Lib.hid h.len
  unfold scoreF
  clear h hT
  cases hc : chkN l with
  | false =>
    rw [hc] at CK
    rw [if_neg (by simp)]
    clear hc
    go_enter Tryd.func25, Tryd.ntmps25
    go_wp2_with (go_at_call 12; refine (CK _ HR.out).mono ?_; rintro e w1 ⟨rfl, hb1⟩)
    go_ret
    exact ⟨rfl, hb1⟩
  | true =>
    have SC := fun W h hT => sum_c v n l L 45 hL hc W h hT
    have TC := fun W h hT => time_c v n l L m hL hm hm' W h hT
    have htn := timeN_le l L m
    obtain ⟨q, hq⟩ : ∃ q, timeN l L m = q := ⟨_, rfl⟩
    rw [hq] at TC htn ⊢
    obtain ⟨p1, p2⟩ := pow_in q (by omega)
    have FC := fun B W h hS => scorec_c v n l L ((2 ^ q : Nat) : Int) p1 p2 hc B W h hS
    rw [hc] at CK
    rw [if_pos rfl, HLn.out]
    clear hc hq p1 p2
    go_enter Tryd.func25, Tryd.ntmps25
    go_wp2_with (go_at_call 12; refine (CK _ HR.out).mono ?_; rintro e w1 ⟨rfl, hb1⟩)
    replace HR := Lib.hid (HR.out.below hb1)
    replace HT := Lib.hid (HT.out.below hb1)
    go_wp2_with fail
    refine (SC _ HR.out HT.out).mono ?_
    rintro e w2 ⟨rfl, hS, hb2⟩
    replace HR := Lib.hid (HR.out.below hb2)
    replace HT := Lib.hid (HT.out.below hb2)
    have HS := Lib.hid hS
    clear hS
    go_wp2_with fail
    refine (TC _ HR.out HT.out).mono ?_
    rintro e w3 ⟨rfl, hb3⟩
    replace HR := Lib.hid (HR.out.below hb3)
    replace HS := Lib.hid (HS.out.below hb3)
    go_wp2_with fail
    rw [pow_wrap q (by omega)]
    refine (FC _ _ HR.out HS.out).mono ?_
    rintro e w4 ⟨rfl, hb4⟩
    go_wp2_with fail
    go_ret
    exact ⟨rfl, chain (chain (chain hb1 hb2) hb3) hb4⟩
end Go.Proofs.Tryd
