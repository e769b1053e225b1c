/- tune.Best (stage 21). -/
import Derived.Test.YtjcclobnpbgmcaaDoorUf
namespace Go.Proofs.Tryd
open Go.RowKit
set_option linter.unusedVariables false
set_option linter.unusedSimpArgs false
theorem sumK_of {F : Sn → Int} {l : List Sn} (hF : ∀ k, k < l.length → 0 ≤ F (atN l k)) (L : Nat) (t : Int) (ht : 0 ≤ t) : 0 ≤ sumK F l L t l.length ∧ sumK F l L t l.length < 18446744073709551616 := sumK_in hF L t ht _ (Nat.le_refl _)
theorem scoreF_in (l : List Sn) (L : Nat) (m : Int) : 0 ≤ scoreF l L m ∧ scoreF l L m < 18446744073709551616 := by
  unfold scoreF
  by_cases hc : chkN l = true
  · rw [if_pos hc]
    exact sumK_of (fun k hk => by obtain ⟨s, X, Y, hp, _⟩ := mem_nat hc hk; rw [hp, cnF_mk]; omega) L _ (pow_in _ (by have := timeN_le l L m; omega)).1
  · rw [if_neg hc]; omega
/-- The best one so far, its score, and whether there is one. -/
abbrev Bst := Int × Int × Bool
def stepB (sc : Int → Int) (st : Bst) (g : Int) : Bst := if g < 1 then st else if st.2.2 = false ∨ st.2.1 < sc g ∨ (sc g = st.2.1 ∧ g < st.1) then (g, sc g, true) else st
def bestK (sc : Int → Int) (gs : List Int) : Bst := gs.foldl (stepB sc) (0, 0, false)
theorem bestK_one (sc : Int → Int) {gs : List Int} {k : Nat} (hk : k < gs.length) : bestK sc (gs.take (k + 1)) = stepB sc (bestK sc (gs.take k)) (gs.getD k 0) := by
  unfold bestK
  rw [List.take_add_one, List.getElem?_eq_getElem hk, List.foldl_append, List.getD_eq_getElem?_getD, List.getElem?_eq_getElem hk]
  rfl
def scG (l : List Sn) (m : Int) (g : Int) : Int := scoreF l g.toNat m
def bestF (l : List Sn) (m : Int) (gs : List Int) : Bst := if chkN l = true then bestK (scG l m) gs else (0, 0, false)
theorem bestF_no (l : List Sn) (m : Int) (gs : List Int) (h : chkN l = false) : bestF l m gs = (0, 0, false) := by unfold bestF; rw [h]; rfl
theorem bestF_yes (l : List Sn) (m : Int) (gs : List Int) (h : chkN l = true) : bestF l m gs = bestK (scG l m) gs := by unfold bestF; rw [if_pos h]
set_option maxRecDepth 100000 in
set_option maxHeartbeats 8000000 in
theorem best_c (v : Value) (n : Nat) (l : List Sn) (m : Int) (hm : 0 ≤ m) (hm' : m < 18446744073709551616) (A2 : Option Addr) (n2 c2 : Nat) (gs : List Int) (hn2 : n2 ≤ 100000) (hgs : ∀ k, gs.getD k 0 < 9223372036854775808) (w : World) (h : Rows encN 3 w v n l) (hT : Pows w) (hG : Sees w 1 A2 n2 (gs.map (Value.int .i64))) :
    Calls Tryd.prog 21 #[v, .int .u64 m, .slice A2 n2 c2] w fun e w' => e = .returned (.tuple #[.int .i64 (bestF l m gs).1, .bool (bestF l m gs).2.2]) ∧ Below w.heap.size w w' := by
  have CK := fun W h => tcheck_c v n l W h
  have HR := Lib.hid h
  have HT := Lib.hid hT
  have HG := Lib.hid hG
  have HGL := Lib.hid (show gs.length = n2 by have := hG.1; simpa using this)
  have HGB := Lib.hid hgs
  clear h hT hG hgs
  cases hc : chkN l with
  | false =>
    rw [hc] at CK
    have HB := Lib.hid (bestF_no l m gs hc)
    clear hc
    go_enter Tryd.func21, Tryd.ntmps21
    go_wp2_with (go_at_call 12; refine (CK _ HR.out).mono ?_; rintro e w1 ⟨rfl, hb1⟩)
    go_ret2
    rw [HB.out]
    exact ⟨rfl, hb1⟩
  | true =>
    have SC := fun L hL W h hT => score_c v n l L m hL hm hm' W h hT
    have HBF := Lib.hid (bestF_yes l m gs hc)
    rw [hc] at CK
    clear hc
    go_enter Tryd.func21, Tryd.ntmps21
    go_wp2_with (go_at_call 12; refine (CK _ HR.out).mono ?_; rintro e w1 ⟨rfl, hb1⟩)
    replace HR := Lib.hid (HR.out.below hb1)
    replace HT := Lib.hid (HT.out.below hb1)
    replace HG := Lib.hid (HG.out.below hb1)
    go_loopw [8, 9, 10, 19] (fun b s f i wr => ∃ (k : Nat) (st : Bst), k ≤ n2 ∧ i = .int .i64 (k : Int) ∧ b = .int .i64 st.1 ∧ s = .int .u64 st.2.1 ∧ f = .bool st.2.2 ∧ Hid (bestK (scG l m) (gs.take k) = st) ∧ Hid (Below w1.heap.size w1 wr)) (fun _ _ _ i _ => n2 - (intOf i).toNat)
    case atStart => exact ⟨0, (0, 0, false), by omega, rfl, rfl, rfl, rfl, Lib.hid (by rw [List.take_zero]; rfl), Lib.hid (Below.refl _ _)⟩
    case round =>
      obtain ⟨k, ⟨B, S, F⟩, hk, rfl, rfl, rfl, rfl, HS, HB⟩ := hrel
      dsimp only at *
      by_cases hlt : k < n2
      · have hki : (k : Int) < (n2 : Int) := by omega
        have hgw := HG.out.below HB.out
        obtain ⟨bg, og, rfl, hbg, _⟩ := hgw.2.resolve_left (by omega)
        have g0 := hgw.int hlt
        have hgb := HGB.out k
        have hst := bestK_one (scG l m) (gs := gs) (k := k) (by rw [HGL.out]; exact hlt)
        obtain ⟨G, hG⟩ : ∃ G, gs.getD k 0 = G := ⟨_, rfl⟩
        rw [hG] at g0 hgb hst
        rw [HS.out] at hst
        unfold stepB at hst
        dsimp only at hst
        clear hG hgw
        by_cases h1 : G < 1
        · have q1 : decide (G < 1) = true := decide_eq_true h1
          rw [if_pos h1] at hst
          have HN := Lib.hid hst
          clear hst h1
          go_wp2_with fail
          go_roundw
          case rel => exact ⟨k + 1, (B, S, F), by omega, by first | rfl | (rw [wrap_1 k (by omega)]; rfl), rfl, rfl, rfl, HN, HB⟩
          case measure => first | (simp [intOf]; done) | (simp [intOf]; omega) | (rw [wrap_1 k (by omega)]; simp [intOf]; omega)
        · have q1 : decide (G < 1) = false := decide_eq_false h1
          rw [if_neg h1] at hst
          obtain ⟨N, rfl⟩ := Int.eq_ofNat_of_zero_le (show 0 ≤ G by omega)
          have hsc : scG l m (N : Int) = scoreF l N m := by unfold scG; rw [Int.toNat_natCast]
          rw [hsc] at hst
          have S1 := fun W h hT => SC N (by omega) W h hT
          obtain ⟨s1, s2⟩ := scoreF_in l N m
          have hN2 : (N : Int) < 18446744073709551616 := by omega
          generalize scoreF l N m = X at *
          have HR2 := Lib.hid (HR.out.below HB.out)
          have HT2 := Lib.hid (HT.out.below HB.out)
          clear hsc h1
          cases F with
          | false =>
            rw [if_pos (Or.inl rfl)] at hst
            have HN := Lib.hid hst
            clear hst
            go_wp2_with (go_at_call 25; refine (S1 _ HR2.out HT2.out).mono ?_; rintro e w5 ⟨rfl, hb5⟩; have HB5 := Lib.hid (chain HB.out hb5); clear hb5)
            go_roundw
            case rel => exact ⟨k + 1, ((N : Int), X, true), by omega, by first | rfl | (rw [wrap_1 k (by omega)]; rfl), rfl, rfl, rfl, HN, HB5⟩
            case measure => first | (simp [intOf]; done) | (simp [intOf]; omega) | (rw [wrap_1 k (by omega)]; simp [intOf]; omega)
          | true =>
            by_cases h2 : S < X
            · have q2 : decide (S < X) = true := decide_eq_true h2
              rw [if_pos (Or.inr (Or.inl h2))] at hst
              have HN := Lib.hid hst
              clear hst h2
              go_wp2_with (go_at_call 25; refine (S1 _ HR2.out HT2.out).mono ?_; rintro e w5 ⟨rfl, hb5⟩; have HB5 := Lib.hid (chain HB.out hb5); clear hb5)
              go_roundw
              case rel => exact ⟨k + 1, ((N : Int), X, true), by omega, by first | rfl | (rw [wrap_1 k (by omega)]; rfl), rfl, rfl, rfl, HN, HB5⟩
              case measure => first | (simp [intOf]; done) | (simp [intOf]; omega) | (rw [wrap_1 k (by omega)]; simp [intOf]; omega)
            · have q2 : decide (S < X) = false := decide_eq_false h2
              by_cases h3 : X = S
              · subst h3
                by_cases h4 : (N : Int) < B
                · have q4 : decide ((N : Int) < B) = true := decide_eq_true h4
                  rw [if_pos (Or.inr (Or.inr ⟨rfl, h4⟩))] at hst
                  have HN := Lib.hid hst
                  clear hst h2 h4
                  go_wp2_with (go_at_call 25; refine (S1 _ HR2.out HT2.out).mono ?_; rintro e w5 ⟨rfl, hb5⟩; have HB5 := Lib.hid (chain HB.out hb5); clear hb5)
                  go_roundw
                  case rel => exact ⟨k + 1, ((N : Int), X, true), by omega, by first | rfl | (rw [wrap_1 k (by omega)]; rfl), rfl, rfl, rfl, HN, HB5⟩
                  case measure => first | (simp [intOf]; done) | (simp [intOf]; omega) | (rw [wrap_1 k (by omega)]; simp [intOf]; omega)
                · have q4 : decide ((N : Int) < B) = false := decide_eq_false h4
                  rw [if_neg (by rintro (h | h | ⟨_, h⟩) <;> first | exact h2 h | exact h4 h | (cases h; done))] at hst
                  have HN := Lib.hid hst
                  clear hst h2 h4
                  go_wp2_with (go_at_call 25; refine (S1 _ HR2.out HT2.out).mono ?_; rintro e w5 ⟨rfl, hb5⟩; have HB5 := Lib.hid (chain HB.out hb5); clear hb5)
                  go_roundw
                  case rel => exact ⟨k + 1, (B, X, true), by omega, by first | rfl | (rw [wrap_1 k (by omega)]; rfl), rfl, rfl, rfl, HN, HB5⟩
                  case measure => first | (simp [intOf]; done) | (simp [intOf]; omega) | (rw [wrap_1 k (by omega)]; simp [intOf]; omega)
              · have q3 : (X == S) = false := by rw [beq_eq_false_iff_ne]; exact h3
                have q3' : decide (X = S) = false := decide_eq_false h3
                rw [if_neg (by rintro (h | h | ⟨h, _⟩) <;> first | exact h2 h | exact h3 h | (cases h; done))] at hst
                have HN := Lib.hid hst
                clear hst h2 h3
                go_wp2_with (go_at_call 25; refine (S1 _ HR2.out HT2.out).mono ?_; rintro e w5 ⟨rfl, hb5⟩; have HB5 := Lib.hid (chain HB.out hb5); clear hb5)
                go_roundw
                case rel => exact ⟨k + 1, (B, S, true), by omega, by first | rfl | (rw [wrap_1 k (by omega)]; rfl), rfl, rfl, rfl, HN, HB5⟩
                case measure => first | (simp [intOf]; done) | (simp [intOf]; omega) | (rw [wrap_1 k (by omega)]; simp [intOf]; omega)
      · have hke : k = n2 := by omega
        subst hke
        have HF : Hid (bestF l m gs = (B, S, F)) := Lib.hid (by rw [HBF.out, ← HS.out, ← HGL.out, List.take_length])
        go_wp2_with fail
        go_ret2
        rw [HF.out]
        exact ⟨rfl, chain hb1 HB.out⟩
end Go.Proofs.Tryd
