/- The reference's Best (stage 21). -/
import Derived.Test.YtjcclobnpbgmcaaDoorUv
namespace Go.Proofs.Tryd
open Go.RowKit Go.Sort
set_option linter.unusedVariables false
set_option linter.unusedSimpArgs false
def scR (l : List Sn) (m : Int) (g : Int) : Int := scoreF l (wOf g).toNat m
def okk (sc : Int → Int) (gs : List Int) (i j : Nat) : Bool := decide (gs.getD j 0 < 1) || (decide (sc (gs.getD j 0) < sc (gs.getD i 0)) || (decide (sc (gs.getD i 0) = sc (gs.getD j 0)) && decide (gs.getD i 0 ≤ gs.getD j 0)))
def winU (sc : Int → Int) (gs : List Int) (i j : Nat) : Bool := decide (1 ≤ gs.getD i 0) && (List.range j).all (okk sc gs i)
theorem getD_mapG (f : Int → Int) {gs : List Int} {k : Nat} (hk : k < gs.length) : (gs.map f).getD k 0 = f (gs.getD k 0) := by
  rw [List.getD_eq_getElem?_getD, List.getElem?_map, List.getD_eq_getElem?_getD, List.getElem?_eq_getElem hk]
  rfl
theorem winU_succ (sc : Int → Int) (gs : List Int) (i j : Nat) : winU sc gs i (j + 1) = (winU sc gs i j && okk sc gs i j) := by
  unfold winU
  rw [List.range_succ, List.all_append]
  simp [Bool.and_assoc]
theorem winU_less {sc : Int → Int} {gs : List Int} {i j n : Nat} (h : winU sc gs i j = false) (hj : j ≤ n) : winU sc gs i n = false := by
  induction n with
  | zero => obtain rfl : j = 0 := by omega
            exact h
  | succ n ih =>
    by_cases e : j = n + 1
    · rw [← e]; exact h
    · rw [winU_succ, ih (by omega), Bool.false_and]
theorem win_yes {sc : Int → Int} {gs : List Int} {i n : Nat} (h : winU sc gs i n = true) : 1 ≤ gs.getD i 0 ∧ ∀ j, j < n → okk sc gs i j = true := by
  unfold winU at h
  rw [Bool.and_eq_true, decide_eq_true_iff, List.all_eq_true] at h
  exact ⟨h.1, fun j hj => h.2 j (List.mem_range.2 hj)⟩
theorem scR_pos (l : List Sn) (m : Int) {g : Int} (h : 1 ≤ g) : scR l m g = scG l m g := by
  unfold scR scG wOf
  rw [if_neg (by omega)]
theorem win_is {l : List Sn} (hc : chkN l = true) (m : Int) (gs : List Int) {i : Nat} (hi : i < gs.length) (h : winU (scR l m) gs i gs.length = true) : (bestF l m gs).1 = gs.getD i 0 ∧ (bestF l m gs).2.2 = true := by
  obtain ⟨h1, h2⟩ := win_yes h
  rw [bestF_yes _ _ _ hc]
  rcases bestK_is (scG l m) gs with ⟨_, _, h3⟩ | ⟨h3, h4, h5, h6, h7⟩
  · have := h3 _ (getD_memG hi)
    omega
  · refine ⟨?_, h3⟩
    obtain ⟨j, hj, he⟩ := List.getElem_of_mem h4
    have hg : gs.getD j 0 = (bestK (scG l m) gs).1 := by rw [List.getD_eq_getElem?_getD, List.getElem?_eq_getElem hj]; exact he
    have h8 := h2 j hj
    have h9 := h7 _ (getD_memG hi) h1
    unfold okk at h8
    rw [hg, scR_pos l m h5, scR_pos l m h1] at h8
    rw [h6] at h9
    simp only [Bool.or_eq_true, Bool.and_eq_true, decide_eq_true_eq] at h8
    omega
theorem win_no {l : List Sn} (hc : chkN l = true) (m : Int) (gs : List Int) (h : ∀ i, i < gs.length → winU (scR l m) gs i gs.length = false) : (bestF l m gs).1 = 0 ∧ (bestF l m gs).2.2 = false := by
  rw [bestF_yes _ _ _ hc]
  rcases bestK_is (scG l m) gs with ⟨h1, h2, _⟩ | ⟨h3, h4, h5, h6, h7⟩
  · exact ⟨h2, h1⟩
  · obtain ⟨j, hj, he⟩ := List.getElem_of_mem h4
    have hg : gs.getD j 0 = (bestK (scG l m) gs).1 := by rw [List.getD_eq_getElem?_getD, List.getElem?_eq_getElem hj]; exact he
    have hw : winU (scR l m) gs j gs.length = true := by
      unfold winU
      rw [Bool.and_eq_true, decide_eq_true_iff, List.all_eq_true]
      refine ⟨by rw [hg]; exact h5, fun q hq => ?_⟩
      have hq' := List.mem_range.1 hq
      unfold okk
      rw [hg]
      simp only [Bool.or_eq_true, Bool.and_eq_true, decide_eq_true_eq]
      by_cases h1 : gs.getD q 0 < 1
      · exact .inl h1
      · have h9 := h7 _ (getD_memG hq') (by omega)
        rw [scR_pos l m h5, scR_pos l m (show 1 ≤ gs.getD q 0 by omega), ← h6]
        omega
    rw [h j hj] at hw
    cases hw
set_option maxRecDepth 100000 in
set_option maxHeartbeats 8000000 in
theorem rbest_no (v : Value) (n : Nat) (l : List Sn) (m : Int) (hm : 0 ≤ m) (hm' : m < 18446744073709551616) (A2 : Option Addr) (n2 c2 : Nat) (gs : List Int) (hn2 : n2 ≤ 1000) (hgs : ∀ k, -9223372036854775808 ≤ gs.getD k 0 ∧ gs.getD k 0 ≤ 9223372036854775807) (hc : chkN l = false) (w : World) (h : Rows encN 3 w v n l) (hG : Sees w 1 A2 n2 (gs.map (Value.int .i64))) :
    Calls Tryd.prog 22 #[v, .int .u64 m, .slice A2 n2 c2] w fun e w' => e = .returned (.tuple #[.int .i64 (bestF l m gs).1, .bool (bestF l m gs).2.2]) ∧ Below w.heap.size w w' := by
  have CK := fun W h => rcheck_c v n l W h
  rw [hc] at CK
  obtain ⟨i0, hy, hy0, hy1, hy2⟩ := infoU_parts uInfo
  have HR := Lib.hid h
  have HG := Lib.hid hG
  have HGL := Lib.hid (show gs.length = n2 by have := hG.1; simpa using this)
  have HGB := Lib.hid hgs
  have HC := Lib.hid hc
  have RS := fun L hL W h => rscore_c v n l L m hL hm hm' W h
  clear h hG hgs hc
  go_enter Tryd.func22, Tryd.ntmps22
  go_wp2_with (go_at_call 13; refine (CK _ HR.out).mono ?_; rintro e w1 ⟨rfl, hb1⟩)
  replace HR := Lib.hid (HR.out.below hb1)
  replace HG := Lib.hid (HG.out.below hb1)
  go_loopw [9, 10] (fun v i wr => ∃ k : Nat, k ≤ n2 ∧ i = .int .i64 (k : Int) ∧ Hid (wr.ownsRow w1.heap.size 23 1 v k (((gs.take k).map (scR l m)).map (Value.int .u64))) ∧ Hid (Below w1.heap.size w1 wr)) (fun _ i _ => n2 - (intOf i).toNat)
  case atStart => exact ⟨0, by omega, rfl, Lib.hid (World.ownsRow_nil _ _ _ _), Lib.hid (Below.refl _ _)⟩
  case round =>
    obtain ⟨k, hk, rfl, HO, HB⟩ := hrel
    by_cases hlt : k < n2
    · have hki : (k : Int) < (n2 : Int) := by omega
      have hgw := HG.out.below HB.out
      obtain ⟨bg, og, rfl, hbg, _⟩ := hgw.2.resolve_left (by omega)
      have g0 := hgw.int hlt
      obtain ⟨gl, gh⟩ := HGB.out k
      have hT : ((gs.take (k + 1)).map (scR l m)).map (Value.int .u64) = ((gs.take k).map (scR l m)).map (Value.int .u64) ++ [Value.int .u64 (scR l m (gs.getD k 0))] := by
        rw [List.take_add_one, List.getElem?_eq_getElem (by rw [HGL.out]; exact hlt), List.getD_eq_getElem?_getD, List.getElem?_eq_getElem (by rw [HGL.out]; exact hlt), List.map_append, List.map_append]
        rfl
      obtain ⟨G, hGe⟩ : ∃ G, gs.getD k 0 = G := ⟨_, rfl⟩
      rw [hGe] at g0 gl gh hT
      have OC := fun W => rof_c G gl gh W
      have hw0 : 0 ≤ wOf G ∧ wOf G < 18446744073709551616 := by unfold wOf; split <;> omega
      have SC := fun W h => RS (wOf G).toNat (by omega) W h
      rw [Int.toNat_of_nonneg hw0.1] at SC
      rw [show scoreF l (wOf G).toNat m = scR l m G from rfl] at SC
      have HT := Lib.hid hT
      obtain ⟨X, hX⟩ : ∃ X, scR l m G = X := ⟨_, rfl⟩
      rw [hX] at SC HT
      have HR2 := Lib.hid (HR.out.below HB.out)
      generalize wOf G = Q at *
      clear hgw hGe hT hX hw0 gl gh
      go_wp2_with (first
        | (go_at_call 42; refine (OC _).mono ?_; rintro e w4 ⟨rfl, rfl⟩)
        | (go_at_call 26; refine (SC _ HR2.out).mono ?_; rintro e w5 ⟨rfl, hb5⟩; have HB5 := Lib.hid (chain HB.out hb5); have HO5 := Lib.hid (own_below' HO.out hb5); have hbz5 := HB5.out.size; clear hb5)
        | (at_builtin
           refine wpList_app rfl (.tmp 22) (.tmp 31) _ rfl w1.heap.size 23 i0 _ 1 8 Tryd.underlying63 hy hy0 hy1 hy2 rfl (by omega) _ k _ rfl (HO5.out.alloc _) (some ⟨w5.heap.size, 0, none⟩) 1 1 [.int .u64 X] rfl (cap_some (by omega)) (Sees.one _ _ _) (by simp [Value.oneCell']) (by unfold maxLen; omega) (by omega) (by simp; omega) ?_
           intro v6 w6 hown6 hb6))
      have HO6 := Lib.hid hown6
      have HB6 := Lib.hid (Below.step1 HB5.out hb6 hbz5)
      clear hown6 hb6
      go_roundw
      case rel => exact ⟨k + 1, by omega, by first | rfl | (rw [wrap_1 k (by omega)]; rfl), Lib.hid (by rw [HT.out]; exact HO6.out), HB6⟩
      case measure => first | (simp [intOf]; done) | (simp [intOf]; omega) | (rw [wrap_1 k (by omega)]; simp [intOf]; omega)
    · have hke : k = n2 := by omega
      subst hke
      have HF := Lib.hid (bestF_no l m gs HC.out)
      have HBW := Lib.hid (chain hb1 HB.out)
      clear HO HB
      go_wp2_with fail
      go_loopw [11] (fun i wr' => i = .int .i64 0 ∧ wr' = wr) (fun i _ => 0)
      case atStart => exact ⟨rfl, rfl⟩
      case round =>
        obtain ⟨rfl, rfl⟩ := hrel
        by_cases hz : 0 < k
        · have hzi : (0 : Int) < (k : Int) := by omega
          go_wp2_with fail
          go_ret2
          rw [HF.out]
          exact ⟨rfl, HBW.out⟩
        · obtain rfl : k = 0 := by omega
          go_wp2_with fail
          go_ret2
          rw [HF.out]
          exact ⟨rfl, HBW.out⟩
set_option maxRecDepth 100000 in
set_option maxHeartbeats 8000000 in
theorem rbest_c (v : Value) (n : Nat) (l : List Sn) (m : Int) (hm : 0 ≤ m) (hm' : m < 18446744073709551616) (A2 : Option Addr) (n2 c2 : Nat) (gs : List Int) (hn2 : n2 ≤ 1000) (hgs : ∀ k, -9223372036854775808 ≤ gs.getD k 0 ∧ gs.getD k 0 ≤ 9223372036854775807) (hc : chkN l = true) (w : World) (h : Rows encN 3 w v n l) (hG : Sees w 1 A2 n2 (gs.map (Value.int .i64))) :
    Calls Tryd.prog 22 #[v, .int .u64 m, .slice A2 n2 c2] w fun e w' => e = .returned (.tuple #[.int .i64 (bestF l m gs).1, .bool (bestF l m gs).2.2]) ∧ Below w.heap.size w w' := by
  have CK := fun W h => rcheck_c v n l W h
  rw [hc] at CK
  obtain ⟨i0, hy, hy0, hy1, hy2⟩ := infoU_parts uInfo
  have HR := Lib.hid h
  have HG := Lib.hid hG
  have HGL := Lib.hid (show gs.length = n2 by have := hG.1; simpa using this)
  have HGB := Lib.hid hgs
  have HC := Lib.hid hc
  have RS := fun L hL W h => rscore_c v n l L m hL hm hm' W h
  clear h hG hgs hc
  go_enter Tryd.func22, Tryd.ntmps22
  go_wp2_with (go_at_call 13; refine (CK _ HR.out).mono ?_; rintro e w1 ⟨rfl, hb1⟩)
  replace HR := Lib.hid (HR.out.below hb1)
  replace HG := Lib.hid (HG.out.below hb1)
  go_loopw [9, 10] (fun v i wr => ∃ k : Nat, k ≤ n2 ∧ i = .int .i64 (k : Int) ∧ Hid (wr.ownsRow w1.heap.size 23 1 v k (((gs.take k).map (scR l m)).map (Value.int .u64))) ∧ Hid (Below w1.heap.size w1 wr)) (fun _ i _ => n2 - (intOf i).toNat)
  case atStart => exact ⟨0, by omega, rfl, Lib.hid (World.ownsRow_nil _ _ _ _), Lib.hid (Below.refl _ _)⟩
  case round =>
    obtain ⟨k, hk, rfl, HO, HB⟩ := hrel
    by_cases hlt : k < n2
    · have hki : (k : Int) < (n2 : Int) := by omega
      have hgw := HG.out.below HB.out
      obtain ⟨bg, og, rfl, hbg, _⟩ := hgw.2.resolve_left (by omega)
      have g0 := hgw.int hlt
      obtain ⟨gl, gh⟩ := HGB.out k
      have hT : ((gs.take (k + 1)).map (scR l m)).map (Value.int .u64) = ((gs.take k).map (scR l m)).map (Value.int .u64) ++ [Value.int .u64 (scR l m (gs.getD k 0))] := by
        rw [List.take_add_one, List.getElem?_eq_getElem (by rw [HGL.out]; exact hlt), List.getD_eq_getElem?_getD, List.getElem?_eq_getElem (by rw [HGL.out]; exact hlt), List.map_append, List.map_append]
        rfl
      obtain ⟨G, hGe⟩ : ∃ G, gs.getD k 0 = G := ⟨_, rfl⟩
      rw [hGe] at g0 gl gh hT
      have OC := fun W => rof_c G gl gh W
      have hw0 : 0 ≤ wOf G ∧ wOf G < 18446744073709551616 := by unfold wOf; split <;> omega
      have SC := fun W h => RS (wOf G).toNat (by omega) W h
      rw [Int.toNat_of_nonneg hw0.1] at SC
      rw [show scoreF l (wOf G).toNat m = scR l m G from rfl] at SC
      have HT := Lib.hid hT
      obtain ⟨X, hX⟩ : ∃ X, scR l m G = X := ⟨_, rfl⟩
      rw [hX] at SC HT
      have HR2 := Lib.hid (HR.out.below HB.out)
      generalize wOf G = Q at *
      clear hgw hGe hT hX hw0 gl gh
      go_wp2_with (first
        | (go_at_call 42; refine (OC _).mono ?_; rintro e w4 ⟨rfl, rfl⟩)
        | (go_at_call 26; refine (SC _ HR2.out).mono ?_; rintro e w5 ⟨rfl, hb5⟩; have HB5 := Lib.hid (chain HB.out hb5); have HO5 := Lib.hid (own_below' HO.out hb5); have hbz5 := HB5.out.size; clear hb5)
        | (at_builtin
           refine wpList_app rfl (.tmp 22) (.tmp 31) _ rfl w1.heap.size 23 i0 _ 1 8 Tryd.underlying63 hy hy0 hy1 hy2 rfl (by omega) _ k _ rfl (HO5.out.alloc _) (some ⟨w5.heap.size, 0, none⟩) 1 1 [.int .u64 X] rfl (cap_some (by omega)) (Sees.one _ _ _) (by simp [Value.oneCell']) (by unfold maxLen; omega) (by omega) (by simp; omega) ?_
           intro v6 w6 hown6 hb6))
      have HO6 := Lib.hid hown6
      have HB6 := Lib.hid (Below.step1 HB5.out hb6 hbz5)
      clear hown6 hb6
      go_roundw
      case rel => exact ⟨k + 1, by omega, by first | rfl | (rw [wrap_1 k (by omega)]; rfl), Lib.hid (by rw [HT.out]; exact HO6.out), HB6⟩
      case measure => first | (simp [intOf]; done) | (simp [intOf]; omega) | (rw [wrap_1 k (by omega)]; simp [intOf]; omega)
    · have hke : k = n2 := by omega
      subst hke
      rw [show gs.take k = gs by rw [← HGL.out, List.take_length]] at HO
      obtain ⟨A9, c9, rfl, _, hs9⟩ := Sees.of_own HO.out
      have HS9 := Lib.hid hs9
      have HG9 := Lib.hid (HG.out.below HB.out)
      have HBW := Lib.hid (chain hb1 HB.out)
      clear hs9 HO HB
      go_wp2_with fail
      go_loopw [11] (fun i wr' => ∃ i' : Nat, i' ≤ k ∧ i = .int .i64 (i' : Int) ∧ Hid (∀ q, q < i' → winU (scR l m) gs q k = false) ∧ Hid (Below wr.heap.size wr wr')) (fun i _ => k - (intOf i).toNat)
      case atStart => exact ⟨0, by omega, rfl, Lib.hid (fun q hq => by omega), Lib.hid (Below.refl _ _)⟩
      case round =>
        obtain ⟨i, hi, rfl, HQ, HB⟩ := hrel
        by_cases hlti : i < k
        · have hii : (i : Int) < (k : Int) := by omega
          have hgw := HG9.out.below HB.out
          obtain ⟨bg, og, rfl, hbg, _⟩ := hgw.2.resolve_left (by omega)
          have hsw := HS9.out.below HB.out
          obtain ⟨bs, os, rfl, hbs, _⟩ := hsw.2.resolve_left (by omega)
          have g0 := hgw.int hlti
          obtain ⟨Gi, hGi⟩ : ∃ Gi, gs.getD i 0 = Gi := ⟨_, rfl⟩
          rw [hGi] at g0
          have HGI := Lib.hid hGi
          clear hgw hsw hGi
          have hw0 : winU (scR l m) gs i 0 = decide (1 ≤ Gi) := by unfold winU; rw [HGI.out]; simp
          have HW0 := Lib.hid hw0
          clear hw0
          go_wp2_with fail
          go_loopw [12, 13] (fun b kk wr2 => ∃ j : Nat, j ≤ k ∧ kk = .int .i64 (j : Int) ∧ b = .bool (winU (scR l m) gs i j) ∧ Hid (Below wr.heap.size wr wr2)) (fun _ kk _ => k - (intOf kk).toNat)
          case atStart => exact ⟨0, by omega, rfl, by first | (rw [HW0.out]; done) | (rw [HW0.out]; rfl), Lib.hid (Below.refl _ _)⟩
          case round =>
            obtain ⟨j, hj, rfl, rfl, HB2⟩ := hrel
            have HBB := Lib.hid (chain HB.out HB2.out)
            obtain ⟨b, hb⟩ : ∃ b, winU (scR l m) gs i j = b := ⟨_, rfl⟩
            rw [hb]
            cases b with
            | false =>
              have HN : Hid (∀ q, q < i + 1 → winU (scR l m) gs q k = false) := Lib.hid fun q hq => by
                by_cases e : q = i
                · rw [e]; exact winU_less hb hj
                · exact HQ.out q (by omega)
              clear hb
              by_cases hjk : j < k
              · have hjki : (j : Int) < (k : Int) := by omega
                go_wp2_with fail
                go_roundw
                case rel => exact ⟨i + 1, by omega, by first | rfl | (rw [wrap_1 i (by omega)]; rfl), HN, HBB⟩
                case measure => first | (simp [intOf]; done) | (simp [intOf]; omega) | (rw [wrap_1 i (by omega)]; simp [intOf]; omega)
              · have hjki : ¬(j : Int) < (k : Int) := by omega
                go_wp2_with fail
                go_roundw
                case rel => exact ⟨i + 1, by omega, by first | rfl | (rw [wrap_1 i (by omega)]; rfl), HN, HBB⟩
                case measure => first | (simp [intOf]; done) | (simp [intOf]; omega) | (rw [wrap_1 i (by omega)]; simp [intOf]; omega)
            | true =>
              by_cases hjk : j < k
              · have hjki : (j : Int) < (k : Int) := by omega
                have gi := (HG9.out.below HBB.out).int hlti
                have gj := (HG9.out.below HBB.out).int hjk
                have si := (HS9.out.below HBB.out).int hlti
                have sj := (HS9.out.below HBB.out).int hjk
                rw [getD_mapG _ (by rw [HGL.out]; exact hlti)] at si
                rw [getD_mapG _ (by rw [HGL.out]; exact hjk)] at sj
                obtain ⟨_, _, e1, hbg2, _⟩ := (HG9.out.below HBB.out).2.resolve_left (by omega)
                cases e1
                obtain ⟨_, _, e2, hbs2, _⟩ := (HS9.out.below HBB.out).2.resolve_left (by omega)
                cases e2
                have hok : okk (scR l m) gs i j = (decide (gs.getD j 0 < 1) || (decide (scR l m (gs.getD j 0) < scR l m (gs.getD i 0)) || (decide (scR l m (gs.getD i 0) = scR l m (gs.getD j 0)) && decide (gs.getD i 0 ≤ gs.getD j 0)))) := rfl
                rw [HGI.out] at gi si hok
                generalize gs.getD j 0 = Gj at *
                generalize scR l m Gi = Si at *
                generalize scR l m Gj = Sj at *
                clear g0
                by_cases h1 : Gj < 1
                · have q1 : decide (Gj < 1) = true := decide_eq_true h1
                  have HWJ : Hid (winU (scR l m) gs i (j + 1) = true) := Lib.hid (by rw [winU_succ, hb, hok]; rw [q1]; rfl)
                  clear hok hb h1
                  go_wp2_with fail
                  (refine region_later (by kernel_rfl) (by kernel_rfl) ?_); (intro hlat); (repeat (go_big_quiet_step ((fail)))); (refine wpQuiet_nil ?_); (intro W1 hbl); (clear hlat)
                  have HB4 := Lib.hid (chain HB2.out hbl)
                  clear hbl
                  go_wp2_with fail
                  go_roundw
                  case rel => exact ⟨j + 1, by omega, by first | rfl | (rw [wrap_1 j (by omega)]; rfl), by rw [HWJ.out], HB4⟩
                  case measure => first | (simp [intOf]; done) | (simp [intOf]; omega) | (rw [wrap_1 j (by omega)]; simp [intOf]; omega)
                · have q1 : decide (Gj < 1) = false := decide_eq_false h1
                  by_cases h2 : Sj < Si
                  · have q2 : decide (Sj < Si) = true := decide_eq_true h2
                    have HWJ : Hid (winU (scR l m) gs i (j + 1) = true) := Lib.hid (by rw [winU_succ, hb, hok]; rw [q1, q2]; rfl)
                    clear hok hb h1 h2
                    go_wp2_with fail
                    (refine region_later (by kernel_rfl) (by kernel_rfl) ?_); (intro hlat); (repeat (go_big_quiet_step ((fail)))); (refine wpQuiet_nil ?_); (intro W1 hbl); (clear hlat)
                    have HB4 := Lib.hid (chain HB2.out hbl)
                    clear hbl
                    go_wp2_with fail
                    go_roundw
                    case rel => exact ⟨j + 1, by omega, by first | rfl | (rw [wrap_1 j (by omega)]; rfl), by rw [HWJ.out], HB4⟩
                    case measure => first | (simp [intOf]; done) | (simp [intOf]; omega) | (rw [wrap_1 j (by omega)]; simp [intOf]; omega)
                  · have q2 : decide (Sj < Si) = false := decide_eq_false h2
                    by_cases h3 : Si = Sj
                    · have q3 : decide (Si = Sj) = true := decide_eq_true h3
                      have q3' : (Si == Sj) = true := by rw [beq_iff_eq]; exact h3
                      by_cases h4 : Gi ≤ Gj
                      · have q4 : decide (Gi ≤ Gj) = true := decide_eq_true h4
                        have HWJ : Hid (winU (scR l m) gs i (j + 1) = true) := Lib.hid (by rw [winU_succ, hb, hok]; rw [q1, q2, q3, q4]; rfl)
                        clear hok hb h1 h2 h3 h4
                        go_wp2_with fail
                        (refine region_later (by kernel_rfl) (by kernel_rfl) ?_); (intro hlat); (repeat (go_big_quiet_step ((fail)))); (refine wpQuiet_nil ?_); (intro W1 hbl); (clear hlat)
                        have HB4 := Lib.hid (chain HB2.out hbl)
                        clear hbl
                        go_wp2_with fail
                        go_roundw
                        case rel => exact ⟨j + 1, by omega, by first | rfl | (rw [wrap_1 j (by omega)]; rfl), by rw [HWJ.out], HB4⟩
                        case measure => first | (simp [intOf]; done) | (simp [intOf]; omega) | (rw [wrap_1 j (by omega)]; simp [intOf]; omega)
                      · have q4 : decide (Gi ≤ Gj) = false := decide_eq_false h4
                        have HWJ : Hid (winU (scR l m) gs i (j + 1) = false) := Lib.hid (by rw [winU_succ, hb, hok]; rw [q1, q2, q3, q4]; rfl)
                        clear hok hb h1 h2 h3 h4
                        go_wp2_with fail
                        (refine region_later (by kernel_rfl) (by kernel_rfl) ?_); (intro hlat); (repeat (go_big_quiet_step ((fail)))); (refine wpQuiet_nil ?_); (intro W1 hbl); (clear hlat)
                        have HB4 := Lib.hid (chain HB2.out hbl)
                        clear hbl
                        go_wp2_with fail
                        go_roundw
                        case rel => exact ⟨j + 1, by omega, by first | rfl | (rw [wrap_1 j (by omega)]; rfl), by rw [HWJ.out], HB4⟩
                        case measure => first | (simp [intOf]; done) | (simp [intOf]; omega) | (rw [wrap_1 j (by omega)]; simp [intOf]; omega)
                    · have q3 : decide (Si = Sj) = false := decide_eq_false h3
                      have q3' : (Si == Sj) = false := by rw [beq_eq_false_iff_ne]; exact h3
                      have HWJ : Hid (winU (scR l m) gs i (j + 1) = false) := Lib.hid (by rw [winU_succ, hb, hok]; rw [q1, q2, q3]; rfl)
                      clear hok hb h1 h2 h3
                      go_wp2_with fail
                      (refine region_later (by kernel_rfl) (by kernel_rfl) ?_); (intro hlat); (repeat (go_big_quiet_step ((fail)))); (refine wpQuiet_nil ?_); (intro W1 hbl); (clear hlat)
                      have HB4 := Lib.hid (chain HB2.out hbl)
                      clear hbl
                      go_wp2_with fail
                      go_roundw
                      case rel => exact ⟨j + 1, by omega, by first | rfl | (rw [wrap_1 j (by omega)]; rfl), by rw [HWJ.out], HB4⟩
                      case measure => first | (simp [intOf]; done) | (simp [intOf]; omega) | (rw [wrap_1 j (by omega)]; simp [intOf]; omega)
              · have hjke : j = k := by omega
                subst hjke
                obtain ⟨f1, f2⟩ := win_is HC.out m gs (i := i) (by rw [HGL.out]; exact hlti) (by rw [HGL.out]; exact hb)
                have F1 := Lib.hid f1
                have F2 := Lib.hid f2
                have gi := (HG9.out.below HBB.out).int hlti
                rw [HGI.out] at gi
                obtain ⟨_, _, e1, hbg2, _⟩ := (HG9.out.below HBB.out).2.resolve_left (by omega)
                cases e1
                clear hb f1 f2 g0
                go_wp2_with fail
                go_ret2
                rw [F1.out, F2.out, HGI.out]
                exact ⟨rfl, chain HBW.out HBB.out⟩
        · have hie : i = k := by omega
          subst hie
          obtain ⟨f1, f2⟩ := win_no HC.out m gs (fun q hq => by rw [HGL.out] at hq ⊢; exact HQ.out q hq)
          have F1 := Lib.hid f1
          have F2 := Lib.hid f2
          clear f1 f2
          go_wp2_with fail
          go_ret2
          rw [F1.out, F2.out]
          exact ⟨rfl, chain HBW.out HB.out⟩
end Go.Proofs.Tryd
