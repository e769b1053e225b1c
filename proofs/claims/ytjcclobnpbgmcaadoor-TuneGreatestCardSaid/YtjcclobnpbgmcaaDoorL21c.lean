/- The walk of TuneGreatest (stage 21). -/
import Derived.Test.YtjcclobnpbgmcaaDoorUm
import Derived.Test.YtjcclobnpbgmcaaDoorUo
import Derived.Test.YtjcclobnpbgmcaaDoorOpenC
import Derived.Test.YtjcclobnpbgmcaaDoorRow
namespace Go.Proofs.Tryd
open Go.RowKit Go.Sort
set_option linter.unusedVariables false
set_option linter.unusedSimpArgs false
set_option maxRecDepth 100000 in
set_option maxHeartbeats 8000000 in
theorem great_few (A : Option Addr) (n c : Nat) (l : List Sn) (m : Int) (A2 : Option Addr) (n2 c2 : Nat) (hn : n ≤ maxLen) (hl : l.length = n) (hf : (fewN l && decide (n ≤ 10)) = false) (w : World) (hs : Sees w 3 A n (flat encN l)) (hT : Pows w) :
    Calls Tryd.prog 8 #[.slice A n c, .int .u64 m, .slice A2 n2 c2] w fun e w' => e = .returned (.bool true) ∧ Below w.heap.size w w' := by
  have FC := fun W h => fewN_c A n c l 10 hn (by omega) W h hl
  have HS := Lib.hid hs
  have HT := Lib.hid hT
  rw [hf] at FC
  clear hs hf hT
  go_enter Tryd.func8, Tryd.ntmps8
  go_wp2_with (first
    | (go_at_call 10; refine (awake21 _ HT.out).mono ?_; rintro e w1 ⟨rfl, hb1⟩; have HB1 := Lib.hid hb1; replace HS := Lib.hid (HS.out.below hb1); clear hb1)
    | (go_at_call 11; refine (FC _ HS.out).mono ?_; rintro e w2 ⟨rfl, hb2⟩; have HB2 := Lib.hid (chain HB1.out hb2); clear hb2))
  go_ret
  exact ⟨rfl, HB2.out⟩
set_option maxRecDepth 100000 in
set_option maxHeartbeats 8000000 in
theorem great_long (A : Option Addr) (n c : Nat) (l : List Sn) (m : Int) (A2 : Option Addr) (n2 c2 : Nat) (hn : n ≤ maxLen) (hl : l.length = n) (hf : (fewN l && decide (n ≤ 10)) = true) (h2 : 5 < n2) (w : World) (hs : Sees w 3 A n (flat encN l)) (hT : Pows w) :
    Calls Tryd.prog 8 #[.slice A n c, .int .u64 m, .slice A2 n2 c2] w fun e w' => e = .returned (.bool true) ∧ Below w.heap.size w w' := by
  have FC := fun W h => fewN_c A n c l 10 hn (by omega) W h hl
  have HS := Lib.hid hs
  have HT := Lib.hid hT
  rw [hf] at FC
  have qk1 : decide (5 < (n2 : Int)) = true := by simp; omega
  have qk2 : decide (5 < n2) = true := by simp; omega
  have qk3 : (5 : Int) < (n2 : Int) := by omega
  clear hs hf hT
  go_enter Tryd.func8, Tryd.ntmps8
  go_wp2_with (first
    | (go_at_call 10; refine (awake21 _ HT.out).mono ?_; rintro e w1 ⟨rfl, hb1⟩; have HB1 := Lib.hid hb1; replace HS := Lib.hid (HS.out.below hb1); clear hb1)
    | (go_at_call 11; refine (FC _ HS.out).mono ?_; rintro e w2 ⟨rfl, hb2⟩; have HB2 := Lib.hid (chain HB1.out hb2); clear hb2))
  go_ret
  exact ⟨rfl, HB2.out⟩
set_option maxRecDepth 100000 in
set_option maxHeartbeats 8000000 in
theorem great_chk (v : Value) (n : Nat) (l : List Sn) (m : Int) (A2 : Option Addr) (n2 c2 : Nat) (hn : n ≤ 10) (h2 : n2 ≤ 5) (hf : fewN l = true) (hc : chkN l = false) (w : World) (h : Rows encN 3 w v n l) (hT : Pows w) :
    Calls Tryd.prog 8 #[v, .int .u64 m, .slice A2 n2 c2] w fun e w' => e = .returned (.bool true) ∧ Below w.heap.size w w' := by
  have CK := fun W h => tcheck_c v n l W h
  rw [hc] at CK
  obtain ⟨A, c, rfl, hcap, hn', hl, hs⟩ := h
  have FC := fun W h => fewN_c A n c l 10 (by unfold maxLen; omega) (by omega) W h hl
  rw [hf, decide_eq_true hn] at FC
  have HR : Hid (Rows encN 3 w (.slice A n c) n l) := Lib.hid ⟨A, c, rfl, hcap, by omega, hl, hs⟩
  have HS := Lib.hid hs
  have HT := Lib.hid hT
  have qk1 : decide (5 < (n2 : Int)) = false := by simp; omega
  have qk2 : decide (5 < n2) = false := by simp; omega
  have qk3 : ¬(5 : Int) < (n2 : Int) := by omega
  clear hs hf hT hc
  go_enter Tryd.func8, Tryd.ntmps8
  go_wp2_with (first
    | (go_at_call 10; refine (awake21 _ HT.out).mono ?_; rintro e w1 ⟨rfl, hb1⟩; have HB1 := Lib.hid hb1; replace HS := Lib.hid (HS.out.below hb1); replace HR := Lib.hid (HR.out.below hb1); clear hb1)
    | (go_at_call 11; refine (FC _ HS.out).mono ?_; rintro e w2 ⟨rfl, hb2⟩; have HB2 := Lib.hid (chain HB1.out hb2); replace HR := Lib.hid (HR.out.below hb2); clear hb2)
    | (go_at_call 12; refine (CK _ HR.out).mono ?_; rintro e w3 ⟨rfl, hb3⟩; have HB3 := Lib.hid (chain HB2.out hb3); clear hb3))
  go_ret
  exact ⟨rfl, HB3.out⟩
set_option maxRecDepth 100000 in
set_option maxHeartbeats 8000000 in
theorem great_none (v : Value) (n : Nat) (l : List Sn) (m : Int) (hm : 0 ≤ m) (hm' : m < 18446744073709551616) (A2 : Option Addr) (n2 c2 : Nat) (gs : List Int) (hn : n ≤ 10) (h2 : n2 ≤ 5) (hf : fewN l = true) (hc : chkN l = true) (hgs : ∀ k, gs.getD k 0 < 9223372036854775808) (hb : (bestK (scG l m) gs).2.2 = false) (w : World) (h : Rows encN 3 w v n l) (hT : Pows w) (hG : Sees w 1 A2 n2 (gs.map (Value.int .i64))) :
    Calls Tryd.prog 8 #[v, .int .u64 m, .slice A2 n2 c2] w fun e w' => e = .returned (.bool true) ∧ Below w.heap.size w w' := by
  have CK := fun W h => tcheck_c v n l W h
  rw [hc] at CK
  have hgl : gs.length = n2 := by have := hG.1; simpa using this
  have BC := fun W h hT hG => best_c v n l m hm hm' A2 n2 c2 gs (by omega) hgs W h hT hG
  obtain ⟨b1, b2, b3⟩ : (bestF l m gs).2.2 = false ∧ (bestF l m gs).1 = 0 ∧ ∀ g ∈ gs, g < 1 := by
    rw [bestF_yes _ _ _ hc]
    rcases bestK_is (scG l m) gs with h | h
    · exact h
    · rw [hb] at h; cases h.1
  rw [b1, b2] at BC
  have S0 : ∀ W, Rows encN 3 W v n l → Pows W → Calls Tryd.prog 25 #[v, .int .u64 0, .int .u64 m] W fun e w' => e = .returned (.int .u64 (scoreF l 0 m)) ∧ Below W.heap.size W w' := fun W h hT => score_c v n l 0 m (by omega) hm hm' W h hT
  obtain ⟨s1, s2⟩ := scoreF_in l 0 m
  generalize scoreF l 0 m = T0 at *
  obtain ⟨A, c, rfl, hcap, hn', hl, hs⟩ := h
  have FC := fun W h => fewN_c A n c l 10 (by unfold maxLen; omega) (by omega) W h hl
  rw [hf, decide_eq_true hn] at FC
  have HR : Hid (Rows encN 3 w (.slice A n c) n l) := Lib.hid ⟨A, c, rfl, hcap, by omega, hl, hs⟩
  have HS := Lib.hid hs
  have HT := Lib.hid hT
  have HG := Lib.hid hG
  have HGL := Lib.hid hgl
  have HB3 := Lib.hid b3
  have qk1 : decide (5 < (n2 : Int)) = false := by simp; omega
  have qk2 : decide (5 < n2) = false := by simp; omega
  have qk3 : ¬(5 : Int) < (n2 : Int) := by omega
  clear hs hf hT hc hG hgl b1 b2 b3 hb hgs s1 s2
  go_enter Tryd.func8, Tryd.ntmps8
  go_wp2_with (first
    | (go_at_call 10; refine (awake21 _ HT.out).mono ?_; rintro e w1 ⟨rfl, hb1⟩; have HB1 := Lib.hid hb1; replace HS := Lib.hid (HS.out.below hb1); replace HR := Lib.hid (HR.out.below hb1); replace HT := Lib.hid (HT.out.below hb1); replace HG := Lib.hid (HG.out.below hb1); clear hb1)
    | (go_at_call 11; refine (FC _ HS.out).mono ?_; rintro e w2 ⟨rfl, hb2⟩; have HB2 := Lib.hid (chain HB1.out hb2); replace HR := Lib.hid (HR.out.below hb2); replace HT := Lib.hid (HT.out.below hb2); replace HG := Lib.hid (HG.out.below hb2); clear hb2)
    | (go_at_call 12; refine (CK _ HR.out).mono ?_; rintro e w3 ⟨rfl, hb3⟩; have HBC := Lib.hid (chain HB2.out hb3); replace HR := Lib.hid (HR.out.below hb3); replace HT := Lib.hid (HT.out.below hb3); replace HG := Lib.hid (HG.out.below hb3); clear hb3)
    | (go_at_call 21; refine (BC _ HR.out HT.out HG.out).mono ?_; rintro e w4 ⟨rfl, hb4⟩; have HB4 := Lib.hid (chain HBC.out hb4); replace HR := Lib.hid (HR.out.below hb4); replace HT := Lib.hid (HT.out.below hb4); replace HG := Lib.hid (HG.out.below hb4); clear hb4)
    | (go_at_call 25; refine (S0 _ HR.out HT.out).mono ?_; rintro e w5 ⟨rfl, hb5⟩; have HB5 := Lib.hid (chain HB4.out hb5); replace HG := Lib.hid (HG.out.below hb5); clear hb5))
  go_loopw [10, 12] (fun f i wr => ∃ (k : Nat), k ≤ n2 ∧ i = .int .i64 (k : Int) ∧ f = .bool false ∧ Hid (Below w5.heap.size w5 wr)) (fun _ i _ => n2 - (intOf i).toNat)
  case atStart => exact ⟨0, by omega, rfl, rfl, Lib.hid (Below.refl _ _)⟩
  case round =>
    obtain ⟨k, hk, rfl, rfl, HB⟩ := hrel
    by_cases hlt : k < n2
    · have hki : (k : Int) < (n2 : Int) := by omega
      have hgw := HG.out.below HB.out
      obtain ⟨bg, og, rfl, hbg, _⟩ := hgw.2.resolve_left (by omega)
      have g0 := hgw.int hlt
      have h1 := HB3.out _ (getD_memG (gs := gs) (k := k) (by rw [HGL.out]; exact hlt))
      obtain ⟨G, hG⟩ : ∃ G, gs.getD k 0 = G := ⟨_, rfl⟩
      rw [hG] at g0 h1
      clear hG hgw
      have q1 : decide (G < 1) = true := decide_eq_true h1
      go_wp2_with fail
      go_roundw
      case rel => exact ⟨k + 1, by omega, by first | rfl | (rw [wrap_1 k (by omega)]; rfl), rfl, HB⟩
      case measure => first | (simp [intOf]; done) | (simp [intOf]; omega) | (rw [wrap_1 k (by omega)]; simp [intOf]; omega)
    · have hke : k = n2 := by omega
      subst hke
      go_wp2_with fail
      go_ret
      exact ⟨rfl, chain HB5.out HB.out⟩
set_option maxRecDepth 100000 in
set_option maxHeartbeats 8000000 in
theorem great_c (v : Value) (n : Nat) (l : List Sn) (m : Int) (hm : 0 ≤ m) (hm' : m < 18446744073709551616) (A2 : Option Addr) (n2 c2 : Nat) (gs : List Int) (hn : n ≤ 10) (h2 : n2 ≤ 5) (hf : fewN l = true) (hc : chkN l = true) (hgs : ∀ k, gs.getD k 0 < 9223372036854775808) (hb : (bestK (scG l m) gs).2.2 = true) (w : World) (h : Rows encN 3 w v n l) (hT : Pows w) (hG : Sees w 1 A2 n2 (gs.map (Value.int .i64))) :
    Calls Tryd.prog 8 #[v, .int .u64 m, .slice A2 n2 c2] w fun e w' => e = .returned (.bool true) ∧ Below w.heap.size w w' := by
  have CK := fun W h => tcheck_c v n l W h
  rw [hc] at CK
  have hgl : gs.length = n2 := by have := hG.1; simpa using this
  have BC := fun W h hT hG => best_c v n l m hm hm' A2 n2 c2 gs (by omega) hgs W h hT hG
  obtain ⟨B, hbm, hb1, b1, b2, b3⟩ : ∃ B, B ∈ gs ∧ 1 ≤ B ∧ (bestF l m gs).1 = B ∧ (bestF l m gs).2.2 = true ∧ ∀ g ∈ gs, 1 ≤ g → scG l m g < scG l m B ∨ (scG l m g = scG l m B ∧ B ≤ g) := by
    rw [bestF_yes _ _ _ hc]
    rcases bestK_is (scG l m) gs with h | ⟨h1, h2, h3, h4, h5⟩
    · rw [hb] at h; cases h.1
    · rw [h4] at h5
      exact ⟨_, h2, h3, rfl, h1, h5⟩
  rw [b1, b2] at BC
  have hB63 : B < 9223372036854775808 := by
    obtain ⟨k, hk, he⟩ := List.getElem_of_mem hbm
    have := hgs k
    rw [List.getD_eq_getElem?_getD, List.getElem?_eq_getElem hk, Option.getD_some, he] at this
    exact this
  have hfl : fndG gs B n2 = true := by
    unfold fndG
    rw [← hgl, List.take_length, List.any_eq_true]
    exact ⟨B, hbm, by simp; omega⟩
  have SC := fun L hL W h hT => score_c v n l L m hL hm hm' W h hT
  have S0 := fun W h hT => SC B.toNat (by omega) W h hT
  rw [Int.toNat_of_nonneg (show 0 ≤ B by omega)] at S0
  have hTN : scG l m B = scoreF l B.toNat m := rfl
  rw [hTN] at b3
  generalize scoreF l B.toNat m = T0 at *
  obtain ⟨A, c, rfl, hcap, hn', hl, hs⟩ := h
  have FC := fun W h => fewN_c A n c l 10 (by unfold maxLen; omega) (by omega) W h hl
  rw [hf, decide_eq_true hn] at FC
  have HR : Hid (Rows encN 3 w (.slice A n c) n l) := Lib.hid ⟨A, c, rfl, hcap, by omega, hl, hs⟩
  have HS := Lib.hid hs
  have HT := Lib.hid hT
  have HG := Lib.hid hG
  have HGL := Lib.hid hgl
  have HB3 := Lib.hid b3
  have HGB := Lib.hid hgs
  have HFL := Lib.hid hfl
  have hmx : max B 0 = B := by omega
  have hNw : B < 18446744073709551616 := by omega
  have hN1 : (1 : Int) ≤ B := hb1
  have hN0 : decide (B = 0) = false := by simp; omega
  have qk1 : decide (5 < (n2 : Int)) = false := by simp; omega
  have qk2 : decide (5 < n2) = false := by simp; omega
  have qk3 : ¬(5 : Int) < (n2 : Int) := by omega
  clear hs hf hT hc hG hgl b1 b2 b3 hb hgs hbm hTN hfl
  go_enter Tryd.func8, Tryd.ntmps8
  go_wp2_with (first
    | (go_at_call 10; refine (awake21 _ HT.out).mono ?_; rintro e w1 ⟨rfl, hb1⟩; have HB1 := Lib.hid hb1; replace HS := Lib.hid (HS.out.below hb1); replace HR := Lib.hid (HR.out.below hb1); replace HT := Lib.hid (HT.out.below hb1); replace HG := Lib.hid (HG.out.below hb1); clear hb1)
    | (go_at_call 11; refine (FC _ HS.out).mono ?_; rintro e w2 ⟨rfl, hb2⟩; have HB2 := Lib.hid (chain HB1.out hb2); replace HR := Lib.hid (HR.out.below hb2); replace HT := Lib.hid (HT.out.below hb2); replace HG := Lib.hid (HG.out.below hb2); clear hb2)
    | (go_at_call 12; refine (CK _ HR.out).mono ?_; rintro e w3 ⟨rfl, hb3⟩; have HBC := Lib.hid (chain HB2.out hb3); replace HR := Lib.hid (HR.out.below hb3); replace HT := Lib.hid (HT.out.below hb3); replace HG := Lib.hid (HG.out.below hb3); clear hb3)
    | (go_at_call 21; refine (BC _ HR.out HT.out HG.out).mono ?_; rintro e w4 ⟨rfl, hb4⟩; have HB4 := Lib.hid (chain HBC.out hb4); replace HR := Lib.hid (HR.out.below hb4); replace HT := Lib.hid (HT.out.below hb4); replace HG := Lib.hid (HG.out.below hb4); clear hb4)
    | (go_at_call 25; refine (S0 _ HR.out HT.out).mono ?_; rintro e w5 ⟨rfl, hb5⟩; have HB5 := Lib.hid (chain HB4.out hb5); replace HG := Lib.hid (HG.out.below hb5); replace HR := Lib.hid (HR.out.below hb5); replace HT := Lib.hid (HT.out.below hb5); clear hb5))
  go_loopw [10, 12] (fun f i wr => ∃ (k : Nat), k ≤ n2 ∧ i = .int .i64 (k : Int) ∧ f = .bool (fndG gs B k) ∧ Hid (Below w5.heap.size w5 wr)) (fun _ i _ => n2 - (intOf i).toNat)
  case atStart => exact ⟨0, by omega, rfl, by first | rfl | (simp [fndG]; done), Lib.hid (Below.refl _ _)⟩
  case round =>
    obtain ⟨k, hk, rfl, rfl, HB⟩ := hrel
    by_cases hlt : k < n2
    · have hki : (k : Int) < (n2 : Int) := by omega
      have hgw := HG.out.below HB.out
      have HR2 := Lib.hid (HR.out.below HB.out)
      have HT2 := Lib.hid (HT.out.below HB.out)
      obtain ⟨bg, og, rfl, hbg, _⟩ := hgw.2.resolve_left (by omega)
      have g0 := hgw.int hlt
      have h1 := HB3.out _ (getD_memG (gs := gs) (k := k) (by rw [HGL.out]; exact hlt))
      have hgb := HGB.out k
      have hfs := fndG_succ B (gs := gs) (k := k) (by rw [HGL.out]; exact hlt)
      obtain ⟨G, hG⟩ : ∃ G, gs.getD k 0 = G := ⟨_, rfl⟩
      rw [hG] at g0 h1 hgb hfs
      obtain ⟨F, hF⟩ : ∃ F, fndG gs B k = F := ⟨_, rfl⟩
      obtain ⟨F', hF'⟩ : ∃ F', fndG gs B (k + 1) = F' := ⟨_, rfl⟩
      rw [hF, hF'] at hfs
      rw [hF]
      have HF' := Lib.hid hF'
      have HGK := Lib.hid hG
      clear hG hgw hF hF'
      by_cases hG1 : G < 1
      · have q1 : decide (G < 1) = true := decide_eq_true hG1
        rw [decide_eq_false (show ¬1 ≤ G by omega), Bool.false_and, Bool.or_false] at hfs
        subst hfs
        clear h1
        go_wp2_with fail
        go_roundw
        case rel => exact ⟨k + 1, by omega, by first | rfl | (rw [wrap_1 k (by omega)]; rfl), by rw [HF'.out], HB⟩
        case measure => first | (simp [intOf]; done) | (simp [intOf]; omega) | (rw [wrap_1 k (by omega)]; simp [intOf]; omega)
      · have q1 : decide (G < 1) = false := decide_eq_false hG1
        rw [decide_eq_true (show 1 ≤ G by omega), Bool.true_and] at hfs
        have h1 := h1 (by omega)
        obtain ⟨M, rfl⟩ := Int.eq_ofNat_of_zero_le (show 0 ≤ G by omega)
        have hsc : scG l m (M : Int) = scoreF l M m := by unfold scG; rw [Int.toNat_natCast]
        rw [hsc] at h1
        have S1 := fun W h hT => SC M (by omega) W h hT
        have hM2 : (M : Int) < 18446744073709551616 := by omega
        generalize scoreF l M m = X at *
        clear hsc
        have q2 : decide (T0 < X) = false := decide_eq_false (by omega)
        by_cases h3 : X = T0
        · subst h3
          have q4 : decide ((M : Int) < B) = false := decide_eq_false (by omega)
          clear h1
          cases F with
          | true =>
            have e1 : F' = true := by rw [hfs]; rfl
            subst e1
            clear hfs
            go_wp2_with (go_at_call 25; refine (S1 _ HR2.out HT2.out).mono ?_; rintro e w7 ⟨rfl, hb7⟩; have HB7 := Lib.hid (chain HB.out hb7); have g7 := (HG.out.below HB7.out).int hlt; rw [HGK.out] at g7; have g8 := (HG.out.below HB7.out).2.resolve_left (by omega); obtain ⟨_, _, he8, g8, _⟩ := g8; cases he8; clear hb7)
            go_roundw
            case rel => exact ⟨k + 1, by omega, by first | rfl | (rw [wrap_1 k (by omega)]; rfl), by rw [HF'.out], HB7⟩
            case measure => first | (simp [intOf]; done) | (simp [intOf]; omega) | (rw [wrap_1 k (by omega)]; simp [intOf]; omega)
          | false =>
            rw [Bool.false_or] at hfs
            by_cases hMN : (M : Int) = B
            · have q6 : decide ((M : Int) = B) = true := decide_eq_true hMN
              rw [q6] at hfs
              subst hfs
              have q7 : ((M : Int) == B) = true := by rw [beq_iff_eq]; exact hMN
              clear hMN
              go_wp2_with (go_at_call 25; refine (S1 _ HR2.out HT2.out).mono ?_; rintro e w7 ⟨rfl, hb7⟩; have HB7 := Lib.hid (chain HB.out hb7); have g7 := (HG.out.below HB7.out).int hlt; rw [HGK.out] at g7; have g8 := (HG.out.below HB7.out).2.resolve_left (by omega); obtain ⟨_, _, he8, g8, _⟩ := g8; cases he8; clear hb7)
              go_roundw
              case rel => exact ⟨k + 1, by omega, by first | rfl | (rw [wrap_1 k (by omega)]; rfl), by rw [HF'.out], HB7⟩
              case measure => first | (simp [intOf]; done) | (simp [intOf]; omega) | (rw [wrap_1 k (by omega)]; simp [intOf]; omega)
            · have q6 : decide ((M : Int) = B) = false := decide_eq_false hMN
              rw [q6] at hfs
              subst hfs
              have q7 : ((M : Int) == B) = false := by rw [beq_eq_false_iff_ne]; exact hMN
              clear hMN
              go_wp2_with (go_at_call 25; refine (S1 _ HR2.out HT2.out).mono ?_; rintro e w7 ⟨rfl, hb7⟩; have HB7 := Lib.hid (chain HB.out hb7); have g7 := (HG.out.below HB7.out).int hlt; rw [HGK.out] at g7; have g8 := (HG.out.below HB7.out).2.resolve_left (by omega); obtain ⟨_, _, he8, g8, _⟩ := g8; cases he8; clear hb7)
              go_roundw
              case rel => exact ⟨k + 1, by omega, by first | rfl | (rw [wrap_1 k (by omega)]; rfl), by rw [HF'.out], HB7⟩
              case measure => first | (simp [intOf]; done) | (simp [intOf]; omega) | (rw [wrap_1 k (by omega)]; simp [intOf]; omega)
        · have q3 : (X == T0) = false := by rw [beq_eq_false_iff_ne]; exact h3
          have q3' : decide (X = T0) = false := decide_eq_false h3
          clear h1 h3
          cases F with
          | true =>
            have e1 : F' = true := by rw [hfs]; rfl
            subst e1
            clear hfs
            go_wp2_with (go_at_call 25; refine (S1 _ HR2.out HT2.out).mono ?_; rintro e w7 ⟨rfl, hb7⟩; have HB7 := Lib.hid (chain HB.out hb7); have g7 := (HG.out.below HB7.out).int hlt; rw [HGK.out] at g7; have g8 := (HG.out.below HB7.out).2.resolve_left (by omega); obtain ⟨_, _, he8, g8, _⟩ := g8; cases he8; clear hb7)
            go_roundw
            case rel => exact ⟨k + 1, by omega, by first | rfl | (rw [wrap_1 k (by omega)]; rfl), by rw [HF'.out], HB7⟩
            case measure => first | (simp [intOf]; done) | (simp [intOf]; omega) | (rw [wrap_1 k (by omega)]; simp [intOf]; omega)
          | false =>
            rw [Bool.false_or] at hfs
            by_cases hMN : (M : Int) = B
            · have q6 : decide ((M : Int) = B) = true := decide_eq_true hMN
              rw [q6] at hfs
              subst hfs
              have q7 : ((M : Int) == B) = true := by rw [beq_iff_eq]; exact hMN
              clear hMN
              go_wp2_with (go_at_call 25; refine (S1 _ HR2.out HT2.out).mono ?_; rintro e w7 ⟨rfl, hb7⟩; have HB7 := Lib.hid (chain HB.out hb7); have g7 := (HG.out.below HB7.out).int hlt; rw [HGK.out] at g7; have g8 := (HG.out.below HB7.out).2.resolve_left (by omega); obtain ⟨_, _, he8, g8, _⟩ := g8; cases he8; clear hb7)
              go_roundw
              case rel => exact ⟨k + 1, by omega, by first | rfl | (rw [wrap_1 k (by omega)]; rfl), by rw [HF'.out], HB7⟩
              case measure => first | (simp [intOf]; done) | (simp [intOf]; omega) | (rw [wrap_1 k (by omega)]; simp [intOf]; omega)
            · have q6 : decide ((M : Int) = B) = false := decide_eq_false hMN
              rw [q6] at hfs
              subst hfs
              have q7 : ((M : Int) == B) = false := by rw [beq_eq_false_iff_ne]; exact hMN
              clear hMN
              go_wp2_with (go_at_call 25; refine (S1 _ HR2.out HT2.out).mono ?_; rintro e w7 ⟨rfl, hb7⟩; have HB7 := Lib.hid (chain HB.out hb7); have g7 := (HG.out.below HB7.out).int hlt; rw [HGK.out] at g7; have g8 := (HG.out.below HB7.out).2.resolve_left (by omega); obtain ⟨_, _, he8, g8, _⟩ := g8; cases he8; clear hb7)
              go_roundw
              case rel => exact ⟨k + 1, by omega, by first | rfl | (rw [wrap_1 k (by omega)]; rfl), by rw [HF'.out], HB7⟩
              case measure => first | (simp [intOf]; done) | (simp [intOf]; omega) | (rw [wrap_1 k (by omega)]; simp [intOf]; omega)
    · have hke : k = n2 := by omega
      subst hke
      rw [HFL.out]
      go_wp2_with fail
      go_ret
      exact ⟨rfl, chain HB5.out HB.out⟩
theorem walk_TuneGreatest (v0 : Value) (m : Int) (v2 : Value) (w1 : (Lit.int .u64 m).wf = true) (w : World) (hT : Pows w) (o0 : RowIn encN 3 okSn w v0) (o2 : ∃ xs, Row w .i64 v2 xs) :
    Calls Tryd.prog 8 #[v0, .int .u64 m, v2] w fun e w' => e = .returned (.bool true) ∧ Below w.heap.size w w' := by
  obtain ⟨A, n, c, l, rfl, hc, hn, hl, _, hs⟩ := o0
  obtain ⟨gs, A2, n2, c2, rfl, hc2, hn2, hG, hw2⟩ := o2
  obtain ⟨p2, p2'⟩ := bounds_u64 w1
  have hgs : ∀ k, gs.getD k 0 < 9223372036854775808 := fun k => by
    rw [List.getD_eq_getElem?_getD]
    rcases Nat.lt_or_ge k gs.length with h | h
    · rw [List.getElem?_eq_getElem h]
      have := (bounds_i64 (hw2 _ (List.getElem_mem h))).2
      show gs[k] < _
      omega
    · rw [List.getElem?_eq_none h]; decide
  cases hf : (fewN l && decide (n ≤ 10)) with
  | false => exact great_few A n c l m A2 n2 c2 hn hl hf w hs hT
  | true =>
    by_cases h5 : 5 < n2
    · exact great_long A n c l m A2 n2 c2 hn hl hf h5 w hs hT
    · rw [Bool.and_eq_true, decide_eq_true_iff] at hf
      have hr : Rows encN 3 w (.slice A n c) n l := ⟨A, c, rfl, hc, by omega, hl, hs⟩
      cases hk : chkN l with
      | false => exact great_chk _ n l m A2 n2 c2 hf.2 (by omega) hf.1 hk w hr hT
      | true =>
        cases hb : (bestK (scG l m) gs).2.2 with
        | false => exact great_none _ n l m p2 (by omega) A2 n2 c2 gs hf.2 (by omega) hf.1 hk hgs hb w hr hT hG
        | true => exact great_c _ n l m p2 (by omega) A2 n2 c2 gs hf.2 (by omega) hf.1 hk hgs hb w hr hT hG
end Go.Proofs.Tryd
