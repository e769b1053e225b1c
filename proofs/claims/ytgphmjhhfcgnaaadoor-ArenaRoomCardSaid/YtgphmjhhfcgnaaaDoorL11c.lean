/- The walk of ArenaFirst. -/
import Derived.Test.YtgphmjhhfcgnaaaDoorL11a
namespace Go.Proofs.Tryd
open Go.RowKit
set_option linter.unusedVariables false
set_option linter.unusedSimpArgs false
theorem lz_is (u at0 : Nat) (h : ∀ a, a < at0 → u.testBit a = true) (hn : u.testBit at0 = false) (h64 : at0 < 64) : lz u 64 = at0 := by
  have h1 := lz_le u 64 (by omega)
  rcases Nat.lt_trichotomy (lz u 64) at0 with q | q | q
  · have := lz_free u 64 (by omega) (by omega)
    rw [h _ q] at this; cases this
  · exact q
  · have := lz_below u 64 (by omega) at0 (by omega) q
    rw [hn] at this; cases this
theorem lz_full2 (u S : Nat) (hS : S ≤ 64) (h : ∀ a, a < S → u.testBit a = true) : ¬lz u 64 < S := by
  intro hl
  have := lz_free u 64 (by omega) (by omega)
  rw [h _ hl] at this; cases this
theorem tk_some {l : List Sg} {c p q E : Int} {P : List Sg} {i k : Nat} (hc : chkL l) (hk : slN c ≠ 0) (hs : seekL l c = some (i, k)) (hR : tkR l c = (P, p, q, E)) : p = (i : Int) ∧ q = (k : Int) ∧ E = 0 := by
  unfold tkR at hR
  rw [if_pos hc, if_neg hk, hs] at hR
  simp only [Prod.mk.injEq] at hR
  obtain ⟨_, h1, h2, h3⟩ := hR
  exact ⟨h1.symm, h2.symm, h3.symm⟩
theorem tk_none {l : List Sg} {c p q E : Int} {P : List Sg} (hc : chkL l) (hk : slN c ≠ 0) (hs : seekL l c = none) (hR : tkR l c = (P, p, q, E)) : E = 110 := by
  unfold tkR at hR
  rw [if_pos hc, if_neg hk, hs] at hR
  simp only [Prod.mk.injEq] at hR
  exact hR.2.2.2.symm
theorem slN_in (c : Int) (h : 0 ≤ c ∧ c ≤ 3) : slN c ≠ 0 := by
  have : c = 0 ∨ c = 1 ∨ c = 2 ∨ c = 3 := by omega
  rcases this with rfl | rfl | rfl | rfl <;> decide
theorem seg_cells {W : World} {A : Option Addr} {n cc : Nat} {l : List Sg} (h : Segs W (.slice A n cc) n l) {k : Nat} (hk : k < n) : ∃ b off, A = some ⟨b, off, none⟩ ∧ W.cell? ⟨b, off + k * 2, none⟩ = some (.int .i64 (at' l k).1) ∧ W.cell? ⟨b, off + k * 2 + 1, none⟩ = some (.int .u64 ((at' l k).2 : Int)) ∧ b < W.heap.size := by
  obtain ⟨A', c', he, _, _, _, _, hs⟩ := h
  injection he with e1 _ e3
  subst e1 e3
  rcases hs.2 with h0 | ⟨b, off, rfl, _, _⟩
  · omega
  · exact ⟨b, off, rfl, hs.seg hk⟩
set_option maxRecDepth 100000 in
set_option maxHeartbeats 4000000 in
theorem walk_ArenaFirst (v0 : Value) (a1 : Int) (w1 : (Lit.int .u8 a1).wf = true) (w : World) (hT : Deb w) (o0 : SegIn w v0) :
    Calls Tryd.prog 6 #[v0, .int .u8 a1] w fun e w' => e = .returned (.bool true) ∧ Below w.heap.size w w' := by
  obtain ⟨A, n, cc, l, rfl, hcap, hmax, hl, hu, hs⟩ := o0
  obtain ⟨b0, b1⟩ := bounds_u8 w1
  clear w1 hmax
  have HT := Lib.hid hT
  clear hT
  obtain ⟨c, hcm⟩ : ∃ c, a1 % 4 = c := ⟨_, rfl⟩
  have hc0 : 0 ≤ c ∧ c ≤ 3 := by omega
  have hc00 := hc0.1
  have hc3 := hc0.2
  by_cases hn : n ≤ 100
  · have hn' : decide (100 < (n : Int)) = false := by simp; omega
    have HL := Lib.hid (segs_of hcap hn hl hu hs)
    have HN := Lib.hid hl
    clear hcap hu hs hl
    by_cases hc : chkL l
    · have CK := fun W (h : Segs W (.slice A n cc) n l) => chk_c _ n l W h
      rw [decide_eq_true hc] at CK
      obtain ⟨⟨P, p, q, E⟩, hR⟩ : ∃ R, tkR l c = R := ⟨_, rfl⟩
      have TK := fun W (h : Segs W (.slice A n cc) n l) (hT : Deb W) => take_c _ n l c _ hR W h hT
      have HAS := fun i k W (h : Segs W (.slice A n cc) n l) => has_c _ n l i k W h
      simp only [decide_eq_true hc, Bool.true_and] at HAS
      have RS := rslots_c c
      rw [clsS_sl] at RS
      have hk := slN_in c hc0
      have hS64 := slN_le c
      have HRT := Lib.hid (fun i k (hs : seekL l c = some (i, k)) => tk_some hc hk hs hR)
      have HRN := Lib.hid (fun (hs : seekL l c = none) => tk_none hc hk hs hR)
      obtain ⟨S, hS⟩ : ∃ S, slN c = S := ⟨_, rfl⟩
      rw [hS] at hS64 RS
      have HSS := Lib.hid hS
      clear hR hk hS hc
      go_enter Tryd.func6, Tryd.ntmps6
      go_wp2_with fail
      with_reducible refine (awake11 _ HT.out).mono ?_
      rintro e w1 ⟨rfl, hb1⟩
      have HBW := Lib.hid hb1
      replace HT := Lib.hid (HT.out.below hb1)
      replace HL := Lib.hid (HL.out.below hb1)
      clear hb1
      go_wp2_with fail
      with_reducible refine (CK _ HL.out).mono ?_
      rintro e w2 ⟨rfl, hb2⟩
      replace HBW := Lib.hid (chain HBW.out hb2)
      replace HT := Lib.hid (HT.out.below hb2)
      replace HL := Lib.hid (HL.out.below hb2)
      clear hb2
      go_wp2_with fail
      refine (TK _ HL.out HT.out).mono ?_
      rintro e w3 ⟨⟨v3, rfl, ho⟩, hb3⟩
      simp only at ho ⊢
      replace HBW := Lib.hid (chain HBW.out hb3)
      replace HT := Lib.hid (HT.out.below hb3)
      replace HL := Lib.hid (HL.out.below hb3)
      clear ho
      clear hb3
      go_wp2_with fail
      clear HT
      replace HBW := Lib.hid (chain1 HBW.out (.cells #[.int .i64 p, .int .i64 q] 24))
      replace HL := Lib.hid (HL.out.below ((Below.refl _ _).alloc (Nat.le_refl _) (.cells #[.int .i64 p, .int .i64 q] 24)))
      have Qs : Hid (pairAt (w3.alloc (.cells #[.int .i64 p, .int .i64 q] 24)) (w3.heap.size) (.int .i64 p) (.int .i64 q)) := Lib.hid (pairAt.new' (by simp) _ _ _)
      obtain ⟨V, hV⟩ : ∃ V, (w3.alloc (.cells #[.int .i64 p, .int .i64 q] 24)) = V := ⟨_, rfl⟩
      rw [hV] at HBW HL Qs
      obtain ⟨B, hB⟩ : ∃ B, w3.heap.size = B := ⟨_, rfl⟩
      rw [hB] at Qs
      rw [hV, hB]
      clear hV hB
      go_loopw [10] (fun i wr => ∃ k : Nat, k ≤ n ∧ i = .int .i64 k ∧ Hid (∀ m, m < k → ¬((at' l m).1 = c ∧ lz (at' l m).2 64 < slN c)) ∧ Below V.heap.size V wr) (fun i _ => n - (intOf i).toNat)
      case atStart => exact ⟨0, by omega, rfl, Lib.hid (fun m hm => by omega), Below.refl _ _⟩
      case round =>
        obtain ⟨k, hk, rfl, HA, hb⟩ := hrel
        obtain ⟨U, hU⟩ : ∃ U, U = wr := ⟨_, rfl⟩
        subst hU
        have hz := hb.size
        have HB := Lib.hid hb
        by_cases hlt : k < n
        · have hlt' : (k : Int) < (n : Int) := by omega
          obtain ⟨b, off, rfl, s0, s1, hbl⟩ := seg_cells (HL.out.below hb) hlt
          clear hb
          by_cases hcl : (at' l k).1 = c
          · rw [hcl] at s0
            go_wp2_with fail
            go_loopw [11] (fun i wr => ∃ a : Nat, a ≤ S ∧ i = .int .i64 a ∧ Hid (∀ m, m < a → tkL l k m = true) ∧ Below U.heap.size U wr) (fun i _ => S - (intOf i).toNat)
            case atStart => exact ⟨0, by omega, rfl, Lib.hid (fun m hm => by omega), Below.refl _ _⟩
            case round =>
              obtain ⟨a, ha, rfl, HTK, hb2⟩ := hrel
              have hz2 := hb2.size
              have HB22 := Lib.hid hb2
              have HB2 := Lib.hid (chain HB.out hb2)
              have s0' : wr.cell? ⟨b, off + k * 2, none⟩ = some (.int .i64 c) := (hb2.cell (p := ⟨b, off + k * 2, none⟩) hbl).trans s0
              have hbl2 : b < wr.heap.size := by omega
              clear hb2
              by_cases hsa : a < S
              · have hsa' : (a : Int) < (S : Int) := by omega
                have hH := HAS (k : Int) (a : Int)
                rw [has_nat] at hH
                cases hT : tkL l k a with
                | true =>
                  rw [hT] at hH
                  have HTK' := Lib.hid (show ∀ m, m < a + 1 → tkL l k m = true from fun m hm => by
                    by_cases e : m = a
                    · rw [e]; exact hT
                    · exact HTK.out m (by omega))
                  clear hT
                  go_wp2_with fail
                  with_reducible refine (RS _).mono ?_
                  rintro e w' ⟨rfl, rfl⟩
                  go_wp2_with fail
                  with_reducible refine (hH _ (HL.out.below HB2.out)).mono ?_
                  rintro e w9 ⟨rfl, hb9⟩
                  have HB9 := Lib.hid hb9
                  clear hb9
                  go_wp2_with fail
                  go_roundw
                  case rel => exact ⟨a + 1, by omega, by go_num, HTK', chain HB22.out HB9.out⟩
                  case measure => first | (simp [intOf]; done) | (simp [intOf]; omega)
                | false =>
                  rw [hT] at hH
                  obtain ⟨rfl, rfl, rfl⟩ := HRT.out k a (by
                    have e := lz_is (at' l k).2 a (fun m hm => HTK.out m hm) hT (by omega)
                    have := seekL_hit l c k (by rw [HN.out]; exact hlt) ⟨hcl, by rw [e, HSS.out]; exact hsa⟩ HA.out
                    rw [e] at this
                    exact this)
                  clear hT
                  go_wp2_with fail
                  with_reducible refine (RS _).mono ?_
                  rintro e w' ⟨rfl, rfl⟩
                  go_wp2_with fail
                  with_reducible refine (hH _ (HL.out.below HB2.out)).mono ?_
                  rintro e w9 ⟨rfl, hb9⟩
                  have HB9 := Lib.hid (chain HB2.out hb9)
                  have hq := Qs.out.below HB9.out
                  obtain ⟨r0, r1, _, _⟩ := hq
                  clear hb9
                  go_wp2_with fail
                  go_ret
                  exact ⟨by first | rfl | (simp; done), chain HBW.out HB9.out⟩
              · obtain rfl : a = S := by omega
                have HA' := Lib.hid (none_more HA.out (fun h => lz_full2 (at' l k).2 a hS64 HTK.out (by rw [HSS.out] at h; exact h.2)))
                go_wp2_with fail
                with_reducible refine (RS _).mono ?_
                rintro e w' ⟨rfl, rfl⟩
                go_wp2_with fail
                go_roundw
                case rel => exact ⟨k + 1, by omega, by go_num, HA', HB2.out⟩
                case measure => first | (simp [intOf]; done) | (simp [intOf]; omega)
          · have hcb : ((at' l k).1 == c) = false := by rw [beq_eq_false_iff_ne]; exact hcl
            have HA' := Lib.hid (none_more HA.out (fun h => hcl h.1))
            have hSp : (0 : Int) < (S : Int) := by have := slN_in c hc0; have := HSS.out; omega
            clear hcl
            generalize (at' l k).1 = x at *
            go_wp2_with fail
            go_loopw [11] (fun i wr => i = .int .i64 0 ∧ U = wr) (fun i _ => 0)
            case atStart => exact ⟨rfl, rfl⟩
            case round =>
              obtain ⟨rfl, rfl⟩ := hrel
              go_wp2_with fail
              with_reducible refine (RS _).mono ?_
              rintro e w' ⟨rfl, rfl⟩
              go_wp2_with fail
              go_roundw
              case rel => exact ⟨k + 1, by omega, by go_num, HA', HB.out⟩
              case measure => first | (simp [intOf]; done) | (simp [intOf]; omega)
        · obtain rfl : k = n := by omega
          clear hb
          go_wp2_with fail
          go_loopw [12] (fun i wr => ∃ j : Nat, j ≤ k ∧ i = .int .i64 j ∧ Hid (∀ m, m < j → (at' l m).1 ≠ -1) ∧ Below V.heap.size V wr) (fun i _ => k - (intOf i).toNat)
          case atStart => exact ⟨0, by omega, rfl, Lib.hid (fun m hm => by omega), HB.out⟩
          case round =>
            obtain ⟨j, hj, rfl, HM, hb2⟩ := hrel
            have HB2 := Lib.hid hb2
            by_cases hjl : j < k
            · have hjl' : (j : Int) < (k : Int) := by omega
              obtain ⟨b, off, rfl, s0, s1, hbl⟩ := seg_cells (HL.out.below hb2) hjl
              by_cases hf : (at' l j).1 = -1
              · rw [hf] at s0
                obtain ⟨rfl, rfl, rfl⟩ := HRT.out j 0 (seekL_free l c j (by rw [HN.out]; exact hjl) (by rw [HN.out]; exact HA.out) hf HM.out)
                have hq := Qs.out.below HB2.out
                obtain ⟨r0, r1, _, _⟩ := hq
                rw [show (((0 : Nat)) : Int) = 0 from rfl] at r1
                clear hf hb2
                go_wp2_with fail
                go_ret
                exact ⟨by first | rfl | (simp; done), chain HBW.out HB2.out⟩
              · have hfb : ((at' l j).1 == -1) = false := by rw [beq_eq_false_iff_ne]; exact hf
                have HM' := Lib.hid (show ∀ m, m < j + 1 → (at' l m).1 ≠ -1 from fun m hm => by
                  by_cases e : m = j
                  · rw [e]; exact hf
                  · exact HM.out m (by omega))
                clear hf hb2
                generalize (at' l j).1 = x at *
                go_wp2_with fail
                go_roundw
                case rel => exact ⟨j + 1, by omega, by go_num, HM', HB2.out⟩
                case measure => first | (simp [intOf]; done) | (simp [intOf]; omega)
            · obtain rfl : j = k := by omega
              obtain rfl := HRN.out (seekL_none l c (by rw [HN.out]; exact HA.out) (by rw [HN.out]; exact HM.out))
              clear hb2
              go_wp2_with fail
              go_ret
              exact ⟨by first | rfl | (simp; done), chain HBW.out HB2.out⟩
    · have CK := fun W (h : Segs W (.slice A n cc) n l) => chk_c _ n l W h
      rw [decide_eq_false hc] at CK
      clear hc
      go_enter Tryd.func6, Tryd.ntmps6
      go_wp2_with fail
      with_reducible refine (awake11 _ HT.out).mono ?_
      rintro e w1 ⟨rfl, hb1⟩
      have HBW := Lib.hid hb1
      replace HT := Lib.hid (HT.out.below hb1)
      replace HL := Lib.hid (HL.out.below hb1)
      clear hb1
      go_wp2_with fail
      with_reducible refine (CK _ HL.out).mono ?_
      rintro e w2 ⟨rfl, hb2⟩
      replace HBW := Lib.hid (chain HBW.out hb2)
      replace HT := Lib.hid (HT.out.below hb2)
      replace HL := Lib.hid (HL.out.below hb2)
      clear hb2
      go_wp2_with fail
      go_ret
      exact ⟨by first | rfl | (simp; done), HBW.out⟩
  · have hn' : (100 : Int) < (n : Int) := by omega
    clear hcap hl hu hs
    go_enter Tryd.func6, Tryd.ntmps6
    go_wp2_with fail
    with_reducible refine (awake11 _ HT.out).mono ?_
    rintro e w1 ⟨rfl, hb1⟩
    have HBW := Lib.hid hb1
    replace HT := Lib.hid (HT.out.below hb1)
    clear hb1
    go_wp2_with fail
    go_ret
    exact ⟨by first | rfl | (simp; done), HBW.out⟩
end Go.Proofs.Tryd
