/- The walk of ThingTags. -/
import Derived.Test.YthijffdljoeelaaL9d
import Derived.Laws.Cover1
namespace Go.Proofs.Try
open Go.RowKit Go.Maps Go.Sort
set_option linter.unusedVariables false

theorem tags_same {a b : List ByteArray} (h : ∀ x, x ∈ a ↔ x ∈ b) : (good a ↔ good b) ∧ tagsL a = tagsL b := by
  have hp : (dd a).Perm (dd b) := (List.perm_ext_iff_of_nodup (dd_nodup a) (dd_nodup b)).2 fun x => by rw [dd_mem, dd_mem, h x]
  refine ⟨?_, ?_⟩
  · unfold good
    rw [hp.length_eq]
    exact ⟨fun ⟨h1, h2⟩ => ⟨fun s hs => h1 s ((h s).2 hs), h2⟩, fun ⟨h1, h2⟩ => ⟨fun s hs => h1 s ((h s).1 hs), h2⟩⟩
  · unfold tagsL
    exact mergeSort_of_perm (hp.map _)
/-- The first k of the texts turned by f. -/
def turn (ss : List ByteArray) (f k : Nat) : List ByteArray := (List.range k).map fun i => ss.getD ((i + f) % ss.length) ⟨#[]⟩
theorem turn_snoc (ss : List ByteArray) (f k : Nat) : turn ss f (k + 1) = turn ss f k ++ [ss.getD ((k + f) % ss.length) ⟨#[]⟩] := by
  unfold turn; rw [List.range_succ, List.map_append]; rfl
theorem turn_len (ss : List ByteArray) (f k : Nat) : (turn ss f k).length = k := by unfold turn; simp
theorem turn_back (j n f : Nat) (h : j < n) : ((j + (n - f % n)) % n + f) % n = j := by
  rw [Nat.mod_add_mod]
  have h1 : f % n < n := Nat.mod_lt _ (by omega)
  have h2 : f = f % n + n * (f / n) := (Nat.mod_add_div f n).symm
  have h3 : j + (n - f % n) + f = j + n * (f / n + 1) := by
    rw [Nat.mul_add, Nat.mul_one]
    omega
  rw [h3, Nat.add_mul_mod_self_left, Nat.mod_eq_of_lt h]
theorem turn_mem (ss : List ByteArray) (f : Nat) (x : ByteArray) : x ∈ turn ss f ss.length ↔ x ∈ ss := by
  unfold turn
  rw [List.mem_map]
  constructor
  · rintro ⟨i, hi, rfl⟩
    rw [List.mem_range] at hi
    exact getD_mem ss _ _ (Nat.mod_lt _ (by omega))
  · intro hx
    obtain ⟨j, hj, rfl⟩ := List.mem_iff_getElem.1 hx
    refine ⟨(j + (ss.length - f % ss.length)) % ss.length, List.mem_range.2 (Nat.mod_lt _ (by omega)), ?_⟩
    rw [turn_back j ss.length f hj, List.getD_eq_getElem?_getD, List.getElem?_eq_getElem hj]
    rfl

theorem tagsR_of {a b : List ByteArray} (h : ∀ x, x ∈ a ↔ x ∈ b) {w : World} {r : Ending} {w' : World} (ht : TagsR a w r w') : TagsR b w r w' := by
  obtain ⟨h1, h2⟩ := tags_same h
  unfold TagsR at *
  rw [h1, h2] at ht
  exact ht
theorem risen_step (ss : List ByteArray) (k : Nat) (hk : k + 1 < (risen ss).length) : Op.bytesLess ((risen ss).getD k ⟨#[]⟩).toList ((risen ss).getD (k + 1) ⟨#[]⟩).toList = true := by
  rw [List.getD_eq_getElem?_getD, List.getD_eq_getElem?_getD, List.getElem?_eq_getElem hk, List.getElem?_eq_getElem (show k < (risen ss).length by omega)]
  exact List.pairwise_iff_getElem.1 (risen_rise ss) k (k + 1) (by omega) hk (by omega)

set_option maxRecDepth 100000 in
set_option maxHeartbeats 3000000 in
theorem walk_ThingTags (v0 : Value) (a1 : Int) (w1 : (Lit.int .u8 a1).wf = true) (w : World) (h0 : ∃ xs, Texts w v0 xs) :
    Calls Try.prog 10 #[v0, .int .u8 a1] w fun e w' => e = .returned (.bool true) ∧ Below w.heap.size w w' := by
  obtain ⟨ss, A, n, c, rfl, hcap, hmax, hsees, hszs⟩ := h0
  obtain ⟨n0, n1⟩ := bounds_u8 w1
  obtain ⟨f, rfl⟩ := Int.eq_ofNat_of_zero_le n0
  obtain ⟨i0, hy, hy0, hy1, hy2⟩ := info_parts str_info
  have HL := Lib.hid (show ss.length = n by have := hsees.1; simpa using this)
  have HS := Lib.hid hsees
  clear hsees hszs hcap w1
  by_cases hf : few ss 100 = true
  · obtain ⟨f1, f2⟩ := (few_iff ss 100).1 hf
    have F1 := Lib.hid f1
    have hn : n ≤ 100 := by have := HL.out; omega
    clear f1 f2
    obtain ⟨L, ev, hev, hL, hT⟩ := tagsR_same ss (by have := HL.out; omega)
    have HT := Lib.hid hT
    have HEV := Lib.hid hev
    clear hT hev
    go_enter Try.func10, Try.ntmps10
    go_wp2_with fail
    with_reducible refine (awake9 _).mono ?_
    rintro e w1 ⟨rfl, hb1⟩
    have hz1 := hb1.size
    go_wp2_with fail
    with_reducible refine (few_c A n c ss 100 _ (HS.out.below hb1) hmax).mono ?_
    rintro e w' ⟨rfl, rfl⟩
    go_wp2_with fail
    with_reducible refine (tags_c A n c ss _ (HS.out.below hb1) (by omega) (fun s hs => by have := F1.out s hs; omega)).mono ?_
    intro e w2 ht2
    obtain ⟨hb2, A2, c2, rfl, hc2, hs2⟩ := HT.out _ _ _ ht2
    have hz2 := hb2.size
    -- the tags, as texts
    obtain ⟨X, hX, hXL⟩ : ∃ X : List ByteArray, L.map encStr = X.map Value.string ∧ ((ev = 0 ∧ good ss ∧ X = risen ss) ∨ (ev = 90 ∧ ¬ good ss ∧ X = [])) := by
      rcases HEV.out with ⟨h1, h2, h3⟩ | ⟨h1, h2, h3⟩
      · exact ⟨risen ss, by rw [h3, risen_enc], .inl ⟨h1, h2, rfl⟩⟩
      · exact ⟨[], by rw [h3]; rfl, .inr ⟨h1, h2, rfl⟩⟩
    have HXS := Lib.hid (show Sees w2 1 A2 L.length (X.map Value.string) by rw [← hX]; exact hs2)
    have HX := Lib.hid hX
    have HXL := Lib.hid hXL
    have HXn := Lib.hid (show X.length = L.length by have := congrArg List.length hX; simpa using this.symm)
    have HS2 := Lib.hid hs2
    have HB2 := Lib.hid ((HS.out.below hb1).below hb2)
    have HXsz : Hid (∀ s ∈ X, s.size ≤ 4611686018427387904) := Lib.hid fun s hs => by
      rcases HXL.out with ⟨_, _, h3⟩ | ⟨_, _, h3⟩
      · rw [h3] at hs
        have := F1.out s ((risen_mem ss s).1 hs)
        omega
      · rw [h3] at hs
        simp at hs
    clear ht2 hs2 hX hXL
    obtain ⟨L3, ev3, hev3, hL3, hT3⟩ := tagsR_same X (by have := HXn.out; omega)
    have HT3 := Lib.hid hT3
    have HEV3 := Lib.hid hev3
    clear hT3 hev3
    go_wp2_with fail
    with_reducible refine (tags_c A2 L.length c2 X _ HXS.out (by omega) HXsz.out).mono ?_
    intro e w3 ht3
    obtain ⟨hb3, A3, c3, rfl, hc3, hs3⟩ := HT3.out _ _ _ ht3
    have hz3 := hb3.size
    have HS3 := Lib.hid hs3
    have HXS3 := Lib.hid (HXS.out.below hb3)
    have HS23 := Lib.hid (HS2.out.below hb3)
    have HB3 := Lib.hid (HB2.out.below hb3)
    clear ht3 hs3
    go_wp2_with fail
    go_loopw [10, 11] (fun o i wr => ∃ k : Nat, k ≤ n ∧ i = .int .i64 k ∧ wr.ownsRow w3.heap.size 9 1 o k ((turn ss f k).map Value.string) ∧ Below w3.heap.size w3 wr) (fun _ i _ => n - (intOf i).toNat)
    case atStart => exact ⟨0, by omega, rfl, World.ownsRow_nil _ _ _ _, Below.refl _ _⟩
    case round =>
      obtain ⟨k, hk, rfl, hown, hb4⟩ := hrel
      have hz4 := hb4.size
      have HO := Lib.hid hown
      have HB4 := Lib.hid hb4
      clear hown hb4
      by_cases hlt : k < n
      · have hsw := HB3.out.below HB4.out
        obtain ⟨b, off, rfl, hbz, hxx⟩ := hsw.2.resolve_left (by omega)
        have hjn : (k + f) % n < n := Nat.mod_lt _ (by omega)
        have hcell := hsw.text hjn
        have hsn := turn_snoc ss f k
        rw [HL.out] at hsn
        clear hxx hsw
        obtain ⟨s, hs⟩ : ∃ s, ss.getD ((k + f) % n) ⟨#[]⟩ = s := ⟨_, rfl⟩
        rw [hs] at hcell hsn
        have HSN := Lib.hid hsn
        clear hsn hs
        obtain ⟨j, hj⟩ : ∃ j, (k + f) % n = j := ⟨_, rfl⟩
        rw [hj] at hcell hjn
        have ej : ((k : Int) + (f : Int)) % (n : Int) = (j : Int) := by rw [← hj]; simp
        go_wp2_with (at_builtin; refine wpList_app rfl (.tmp 37) (.tmp 48) _ rfl w3.heap.size 9 i0 _ 1 16 Try.underlying43 hy hy0 hy1 hy2 rfl (by omega) u10 k ((turn ss f k).map Value.string) rfl (HO.out.alloc _) (some ⟨wr.heap.size, 0, none⟩) 1 1 [.string s] rfl (cap_some (by omega)) (Sees.one _ _ _) (by simp [Value.oneCell']) (by unfold maxLen; omega) (by omega) (by simp; omega) ?_; intro v5 w5 hown5 hb5)
        go_roundw
        case rel => exact ⟨k + 1, by omega, by go_num, by rw [HSN.out, List.map_append]; exact hown5, Below.step1 HB4.out hb5 hz4⟩
        case measure => simp [intOf]; omega
      · have hke : k = n := by omega
        subst hke
        obtain ⟨V, hV⟩ : ∃ V, V = wr := ⟨_, rfl⟩
        subst hV
        obtain ⟨B, d, rfl, hcB, hsB⟩ := Sees.of_own HO.out
        have HSB := Lib.hid hsB
        have hmem : ∀ x, x ∈ turn ss f k ↔ x ∈ ss := by have := turn_mem ss f; rw [HL.out] at this; exact this
        have HM := Lib.hid hmem
        have HXS4 := Lib.hid (HXS3.out.below HB4.out)
        have HS24 := Lib.hid (HS23.out.below HB4.out)
        have HS34 := Lib.hid (HS3.out.below HB4.out)
        have HBV := Lib.hid (HB3.out.below HB4.out)
        clear hsB hcB hmem HO
        go_wp2_with fail
        with_reducible refine (tags_c B k d (turn ss f k) _ HSB.out (by omega) (fun s hs => by have := F1.out s ((HM.out s).1 hs); omega)).mono ?_
        intro e w5 ht5
        obtain ⟨hb5, A5, c5, rfl, hc5, hs5⟩ := HT.out _ _ _ (tagsR_of HM.out ht5)
        have hz5 := hb5.size
        have hb15 : Below w.heap.size w w5 := (((hb1.trans (hb2.mono hz1)).trans (hb3.mono (by omega))).trans (HB4.out.mono (by omega))).trans (hb5.mono (by omega))
        have HB15 := Lib.hid hb15
        have hz15 := hb15.size
        have HS5 := Lib.hid hs5
        have HXS5 := Lib.hid (HXS4.out.below hb5)
        have HS25 := Lib.hid (HS24.out.below hb5)
        have HS35 := Lib.hid (HS34.out.below hb5)
        have HB5 := Lib.hid (HBV.out.below hb5)
        clear ht5 hs5 hc5 hb5 hb15 hb1 hb2 hb3 hc2 hc3 HXS4 HS24 HS34 HBV HXS3 HS23 HB3 HSB HB4 HXS HS2 HB2 HS3
        rcases HXL.out with ⟨rfl, hg, rfl⟩ | ⟨rfl, hg, rfl⟩
        · have hLt : L = tagsL ss := by
            rcases HEV.out with ⟨_, _, h3⟩ | ⟨h1, _, _⟩
            · exact h3
            · cases h1
          have h33 : ev3 = 0 ∧ L = L3 := by
            have hms : ∀ x, x ∈ risen ss ↔ x ∈ ss := risen_mem ss
            obtain ⟨t1, t2⟩ := tags_same hms
            rcases HEV3.out with ⟨h1, _, h3⟩ | ⟨_, h2, _⟩
            · exact ⟨h1, by rw [h3, t2, hLt]⟩
            · exact absurd (t1.2 hg) h2
          obtain ⟨rfl, rfl⟩ := h33
          have h3 : (L.length : Int) ≤ 3 := by
            have h1 := hg.2
            rw [← risen_len, HXn.out] at h1
            omega
          have HLn := HXn
          have HGD := Lib.hid hg
          clear HEV3 HEV HXL HX hLt hg HXn HT3 HXsz
          go_wp2_with fail
          go_loopw [14] (fun i wr => ∃ q : Nat, q ≤ L.length ∧ i = .int .i64 q ∧ Below w5.heap.size w5 wr) (fun i _ => L.length - (intOf i).toNat)
          case atStart => exact ⟨0, by omega, rfl, Below.refl _ _⟩
          case round =>
            obtain ⟨q, hq, rfl, hb6⟩ := hrel
            have HB6 := Lib.hid hb6
            have hz6 := hb6.size
            clear hb6
            by_cases hlt2 : q < L.length
            · have hsx := HXS5.out.below HB6.out
              obtain ⟨b, off, rfl, hbz, hxx⟩ := hsx.2.resolve_left (by omega)
              have hcell := hsx.text hlt2
              have hmem := (risen_mem ss _).1 (getD_mem (risen ss) q ⟨#[]⟩ (by have := HLn.out; omega))
              have hgs := HGD.out.1 _ hmem
              have hBL := HB5.out.below HB6.out
              have hhas : hasB ss ((risen ss).getD q ⟨#[]⟩) = true := (hasB_iff _ _).2 hmem
              have HC := fun W (h : Below wr.heap.size wr W) => has_c A k c ss ((risen ss).getD q ⟨#[]⟩) W (hBL.below h) (by omega)
              rw [hhas] at HC
              clear hxx hmem hhas hBL
              cases q with
              | zero =>
                obtain ⟨s, hs⟩ : ∃ s, (risen ss).getD 0 ⟨#[]⟩ = s := ⟨_, rfl⟩
                rw [hs] at hcell hgs HC
                rw [Nat.add_zero] at hcell
                clear hs hsx
                have g1 : decide ((s.size : Int) < 1) = false := by simp; omega
                have g2 : decide ((8 : Int) < s.size) = false := by simp; omega
                clear hgs
                go_wp2_with fail
                go_quiet ((go_at_call 36; exact quiet_left (HC _ (Below_drewN (Below.refl _ _) _))))
                go_wp2_with fail
                go_roundw
                case rel => exact ⟨1, by omega, by go_num, Below_drewN HB6.out _⟩
                case measure => simp [intOf]; omega
              | succ q =>
                have hcell2 := hsx.text (show q < L.length by omega)
                have hst := risen_step ss q (by have := HLn.out; omega)
                obtain ⟨s, hs⟩ : ∃ s, (risen ss).getD (q + 1) ⟨#[]⟩ = s := ⟨_, rfl⟩
                obtain ⟨t, ht⟩ : ∃ t, (risen ss).getD q ⟨#[]⟩ = t := ⟨_, rfl⟩
                rw [hs] at hcell hgs HC hst
                rw [ht] at hcell2 hst
                clear hs hsx ht
                have g0 : (0 : Int) < ((q + 1 : Nat) : Int) := by omega
                have g3 : (q : Int) < (L.length : Int) := by omega
                have g4 : (q : Int) + 1 < (L.length : Int) := by omega
                have g5 : q < L.length := by omega
                have g1 : decide ((s.size : Int) < 1) = false := by simp; omega
                have g2 : decide ((8 : Int) < s.size) = false := by simp; omega
                clear hgs
                go_wp2_with fail
                go_quiet ((go_at_call 36; exact quiet_left (HC _ (Below_drewN (Below.refl _ _) _))))
                go_wp2_with fail
                go_roundw
                case rel => exact ⟨q + 2, by omega, by go_num, Below_drewN HB6.out _⟩
                case measure => simp [intOf]; omega
            · have e0 : decide ((q : Int) < (L.length : Int)) = false := by simp; omega
              obtain ⟨U, hU⟩ : ∃ U, U = wr := ⟨_, rfl⟩
              subst hU
              have HXU := Lib.hid (HXS5.out.below HB6.out)
              have H2U := Lib.hid (HS25.out.below HB6.out)
              have H3U := Lib.hid (HS35.out.below HB6.out)
              have H5U := Lib.hid (HS5.out.below HB6.out)
              have HBU := Lib.hid (HB5.out.below HB6.out)
              have HWU := Lib.hid (HB15.out.trans (HB6.out.mono hz15))
              have hzu := HWU.out.size
              clear HXS5 HS25 HS35 HS5 HB5 HB6 HB15
              go_wp2_with fail
              go_loop [15] (fun i => ∃ j : Nat, j ≤ k ∧ i = .int .i64 j) (fun i => k - (intOf i).toNat)
              case atStart => exact ⟨0, by omega, rfl⟩
              case round =>
                obtain ⟨j, hj, rfl⟩ := hrel
                by_cases hlt3 : j < k
                · obtain ⟨b, off, rfl, hbz, hxx⟩ := HBU.out.2.resolve_left (by omega)
                  have hcell := HBU.out.text hlt3
                  have hmem := getD_mem ss j ⟨#[]⟩ (by have := HL.out; omega)
                  obtain ⟨s, hs⟩ : ∃ s, ss.getD j ⟨#[]⟩ = s := ⟨_, rfl⟩
                  rw [hs] at hcell hmem
                  have hhas : hasB (risen ss) s = true := (hasB_iff _ _).2 ((risen_mem ss s).2 hmem)
                  have HC := has_c A2 L.length c2 (risen ss) s _ HXU.out (by omega)
                  rw [hhas] at HC
                  clear hxx hs hmem hhas
                  go_wp2_with (go_at_call 36; with_reducible refine HC.mono ?_; rintro e w' ⟨rfl, rfl⟩)
                  go_round
                  case rel => exact ⟨j + 1, by omega, by go_num⟩
                  case measure => simp [intOf]; omega
                · have e1 : decide ((j : Int) < (k : Int)) = false := by simp; omega
                  go_wp2_with fail
                  with_reducible refine (same7_t A3 A2 L.length c3 c2 L _ H3U.out H2U.out (by omega)).mono ?_
                  rintro e w7 ⟨rfl, hb7⟩
                  have hz7 := hb7.size
                  go_wp2_with fail
                  with_reducible refine (same7_t A5 A2 L.length c5 c2 L _ (H5U.out.below hb7) (H2U.out.below hb7) (by omega)).mono ?_
                  rintro e w8 ⟨rfl, hb8⟩
                  go_wp2_with fail
                  go_ret
                  exact ⟨rfl, (HWU.out.trans (hb7.mono hzu)).trans (hb8.mono (by omega))⟩
        · have hLt : L = [] := by
            rcases HEV.out with ⟨h1, _, _⟩ | ⟨_, _, h3⟩
            · cases h1
            · exact h3
          subst hLt
          clear HEV HEV3 HX HXn HT3 HXsz HXL
          go_wp2_with fail
          go_ret
          exact ⟨by first | rfl | (simp; done), HB15.out⟩
  · have hf' : few ss 100 = false := by simpa using hf
    clear hf
    go_enter Try.func10, Try.ntmps10
    go_wp2_with fail
    with_reducible refine (awake9 _).mono ?_
    rintro e w1 ⟨rfl, hb1⟩
    go_wp2_with fail
    with_reducible refine (few_c A n c ss 100 _ (HS.out.below hb1) hmax).mono ?_
    rintro e w' ⟨rfl, rfl⟩
    rw [hf']
    go_wp2_with fail
    go_ret
    exact ⟨rfl, by (repeat' (first | (with_reducible exact Below.refl _ _) | (with_reducible assumption) | (with_reducible refine Below.alloc ?_ ?_ _) | (with_reducible refine Below.drew ?_) | (with_reducible refine Below_drewN ?_ _) | (with_reducible refine Below.setCell ?_ ?_ _) | (refine Below.step (B' := ?_) (b := ?_) ?_ ?_ ?_; rotate_left 2; (with_reducible assumption)) | go_size))⟩
end Go.Proofs.Try
