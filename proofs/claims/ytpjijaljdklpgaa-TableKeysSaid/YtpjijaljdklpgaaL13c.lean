/- The walk of TableKeys. -/
import Derived.Test.YtpjijaljdklpgaaL13a
import Derived.Laws.Cover1
import Derived.Sort.Walk0
namespace Go.Proofs.Try
open Go.RowKit Go.Maps Go.Sort
set_option linter.unusedVariables false
set_option linter.unusedSimpArgs false
/-- A key of all keys, as a text. -/
def keyA (l : List Pl) (i : Nat) : ByteArray := ⟨((keysL l).getD i []).toArray⟩
theorem bytesK_back (k : ByteArray) : (⟨(bytesK k).toArray⟩ : ByteArray) = k := by cases k; rfl
theorem keyA_has {l : List Pl} (g : OkL l) {i : Nat} (hi : i < fullN l) : (valL l (keyA l i)).isSome = true ∧ isKey (keyA l i) = true := by
  have hl : i < (keysL l).length := by rw [keysL_len]; exact hi
  have hm : (keysL l).getD i [] ∈ keysL l := by
    rw [List.getD_eq_getElem?_getD, List.getElem?_eq_getElem hl]
    exact List.getElem_mem hl
  unfold keysL at hm
  rw [List.mem_mergeSort, List.mem_map] at hm
  obtain ⟨k, hk, he⟩ := hm
  have hs : keyA l i = k := by
    show (⟨((keysL l).getD i []).toArray⟩ : ByteArray) = k
    unfold keysL
    rw [← he, bytesK_back]
  have hv := (keysT_mem g k).1 hk
  rw [hs]
  refine ⟨?_, keysT_key g hv⟩
  cases h : valL l k with
  | none => exact absurd h hv
  | some v => rfl
theorem keyA_rise {l : List Pl} (g : OkL l) {i : Nat} (hi : i + 1 < fullN l) : Op.bytesLess (keyA l i).toList (keyA l (i + 1)).toList = true := by
  have hl : i + 1 < (keysL l).length := by rw [keysL_len]; exact hi
  have tr : ∀ a b c : List UInt8, leB a b = true → leB b c = true → leB a c = true := fun a b c h1 h2 => by simp only [leB, decide_eq_true_eq] at *; exact List.le_trans h1 h2
  have to : ∀ a b : List UInt8, (leB a b || leB b a) = true := fun a b => by simp only [leB, Bool.or_eq_true, decide_eq_true_eq]; exact List.le_total a b
  have hp : (keysL l).Pairwise (fun a b => leB a b = true) := List.pairwise_mergeSort tr to _
  have hn : (keysL l).Nodup := by
    unfold keysL
    rw [(List.mergeSort_perm _ _).nodup_iff, List.nodup_iff_pairwise_ne, List.pairwise_map]
    exact (keysT_nodup g).imp fun h e => h (bytesK_inj e)
  have h1 := List.pairwise_iff_getElem.1 hp i (i + 1) (by omega) hl (by omega)
  have h2 := List.pairwise_iff_getElem.1 (List.nodup_iff_pairwise_ne.1 hn) i (i + 1) (by omega) hl (by omega)
  have e1 : (keyA l i).toList = (keysL l)[i] := by
    unfold keyA
    rw [ByteArray.toList_eq, List.getD_eq_getElem?_getD, List.getElem?_eq_getElem (show i < (keysL l).length by omega)]
    rfl
  have e2 : (keyA l (i + 1)).toList = (keysL l)[i + 1] := by
    unfold keyA
    rw [ByteArray.toList_eq, List.getD_eq_getElem?_getD, List.getElem?_eq_getElem hl]
    rfl
  rw [e1, e2, bytesLess_eq, decide_eq_true_iff]
  simp only [leB, decide_eq_true_eq] at h1
  by_cases h3 : (keysL l)[i] < (keysL l)[i + 1]
  · exact h3
  · exact absurd (List.le_antisymm h1 (List.not_lt.1 h3)) h2
set_option maxRecDepth 100000 in
set_option maxHeartbeats 8000000 in
theorem keysw_big (A : Option Addr) (n c : Nat) (steps : List StT) (hn : n ≤ maxLen) (hl : steps.length = n) (hf : (fewT steps && decide (n ≤ 60)) = false) (w : World) (hs : Sees w 3 A n (flat encT steps)) :
    Calls Try.prog 6 #[.slice A n c] w fun e w' => e = .returned (.bool true) ∧ Below w.heap.size w w' := by
  have FC := fun W h => few_c A n c steps 60 hn (by omega) W h hl
  have HS := Lib.hid hs
  rw [hf] at FC
  clear hs hf
  go_enter Try.func6, Try.ntmps6
  go_wp2_with (first
    | (go_at_call 8; refine (awake13 _).mono ?_; rintro e w1 ⟨rfl, hb1⟩; have HB1 := Lib.hid hb1; replace HS := Lib.hid (HS.out.below hb1); clear hb1)
    | (go_at_call 9; refine (FC _ HS.out).mono ?_; rintro e w2 ⟨rfl, hb2⟩; have HB2 := Lib.hid (chain HB1.out hb2); replace HS := Lib.hid (HS.out.below hb2); clear hb2))
  go_ret
  exact ⟨rfl, HB2.out⟩
set_option maxRecDepth 100000 in
set_option maxHeartbeats 8000000 in
theorem keysw_c (A : Option Addr) (n c : Nat) (steps : List StT) (hn : n ≤ maxLen) (hl : steps.length = n) (hf : fewT steps = true) (hn2 : n ≤ 60) (w : World) (hs : Sees w 3 A n (flat encT steps)) :
    Calls Try.prog 6 #[.slice A n c] w fun e w' => e = .returned (.bool true) ∧ Below w.heap.size w w' := by
  have FC := fun W h => few_c A n c steps 60 hn (by omega) W h hl
  have HS := Lib.hid hs
  rw [hf, decide_eq_true hn2] at FC
  have HFEW := Lib.hid (fun j hj => few_at hf (k := j) hj)
  have HL := Lib.hid hl
  clear hs hf hl hn
  go_enter Try.func6, Try.ntmps6
  go_wp2_with (first
    | (go_at_call 8; refine (awake13 _).mono ?_; rintro e w1 ⟨rfl, hb1⟩; have HB1 := Lib.hid hb1; replace HS := Lib.hid (HS.out.below hb1); clear hb1)
    | (go_at_call 9; refine (FC _ HS.out).mono ?_; rintro e w2 ⟨rfl, hb2⟩; have HB2 := Lib.hid (chain HB1.out hb2); replace HS := Lib.hid (HS.out.below hb2); clear hb2)
    | (go_at_call 10; refine (tnew_t _).mono ?_; rintro e w3 ⟨v3, rfl, ht3, hb3⟩; have HB3 := Lib.hid (chain HB2.out hb3); replace HS := Lib.hid (HS.out.below hb3); have HT3 := Lib.hid ht3; clear ht3 hb3))
  clear HB1 HB2 FC
  go_loopw [4, 5] (fun x i wr => ∃ (j : Nat) (lr : List Pl), j ≤ n ∧ i = .int .i64 (j : Int) ∧ Hid (Tbl wr x lr) ∧ Hid (Below w3.heap.size w3 wr)) (fun _ i _ => n - (intOf i).toNat)
  case atStart => exact ⟨0, noPl 128, by omega, rfl, HT3, Lib.hid (Below.refl _ _)⟩
  case round =>
    obtain ⟨j, lr, hj, rfl, HT, HB⟩ := hrel
    by_cases hlt : j < n
    · have hlt' : (j : Int) < (n : Int) := by omega
      obtain ⟨bA, oA, d, s, x, rfl, c0, c1, c2, hbA, hat⟩ := steps_at HS.out HB.out hlt
      have hss := HFEW.out j (by rw [HL.out]; exact hlt)
      rw [hat] at hss
      dsimp only at hss
      have DC := fun W h => do_c u4 lr d s x (by omega) W h
      clear hss hat
      go_wp2_with (go_at_call 11; refine (DC _ HT.out).mono ?_; rintro e w5 ⟨v', l', q, rfl, hP, hT, hb5⟩; have HT5 := Lib.hid hT; have HBN := Lib.hid (chain HB.out hb5); clear hP hT hb5)
      exact ⟨⟨j + 1, l', by omega, by first | rfl | (rw [wrap_suc j (by omega)]; rfl), HT5, HBN⟩, by first | (simp [intOf]; done) | (simp [intOf]; omega) | (rw [wrap_suc j (by omega)]; simp [intOf]; omega)⟩
    · have hke : j = n := by omega
      subst hke
      have g := HT.out.ok
      have HG := Lib.hid g
      have KC := fun W h => keys_t u4 lr W h
      have HBX := Lib.hid (chain HB3.out HB.out)
      clear HB HB3 g hlt
      go_wp2_with (go_at_call 19; refine (KC _ HT.out).mono ?_; rintro e w6 ⟨AK, cK, rfl, hcK, hsK, hb6⟩; have HB6 := Lib.hid (chain HBX.out hb6); have HT6 := Lib.hid (HT.out.below hb6); have HSK := Lib.hid hsK; clear hb6 hsK)
      clear HT HBX KC
      obtain ⟨V, hV⟩ : ∃ V, V = w6 := ⟨_, rfl⟩
      have HTX := HT6.out
      obtain ⟨bT, oT, cT, rfl, hcT, _, hsT⟩ := HTX
      have HST := Lib.hid hsT
      have hfl : fullN lr ≤ 96 := HG.out.few
      clear hsT hV
      go_loopw [9, 10] (fun cn i wr => ∃ (q : Nat), q ≤ 128 ∧ i = .int .i64 (q : Int) ∧ cn = .int .i64 (fullN (lr.take q) : Int) ∧ Hid (Below w6.heap.size w6 wr)) (fun _ i _ => 128 - (intOf i).toNat)
      case atStart => exact ⟨0, by omega, rfl, by rw [List.take_zero]; rfl, Lib.hid (Below.refl _ _)⟩
      case round =>
        obtain ⟨q, hq, rfl, rfl, HBQ⟩ := hrel
        by_cases hqt : q < 128
        · have hqi : (q : Int) < 128 := by omega
          have hql : q < lr.length := by rw [HG.out.len]; exact hqt
          obtain ⟨c0, c1⟩ := place_cells (HST.out.below HBQ.out) hql
          have HF := Lib.hid (full_one hql)
          have hfq := full_le (lr.take q)
          rw [List.length_take] at hfq
          have hfq2 : fullN (lr.take q) ≤ 128 := by omega
          obtain ⟨f, hf⟩ : ∃ f, fullN (lr.take q) = f := ⟨_, rfl⟩
          rw [hf] at hfq2 HF ⊢
          obtain ⟨⟨s, x⟩, hp⟩ : ∃ p, atP lr q = p := ⟨_, rfl⟩
          rw [hp] at c0 c1 HF
          dsimp only at c0 c1 HF
          clear hql hf hp hfq
          cases hz : noneS s with
          | true =>
            rw [hz] at HF
            have hz2 : (s.toList == []) = true := hz
            rw [if_pos rfl, Nat.add_zero] at HF
            go_wp2_with fail
            exact ⟨⟨q + 1, by omega, by first | rfl | (rw [wrap_suc q (by omega)]; rfl), by rw [HF.out]; first | done | rfl | (simp; done), HBQ⟩, by first | (simp [intOf]; done) | (simp [intOf]; omega) | (rw [wrap_suc q (by omega)]; simp [intOf]; omega)⟩
          | false =>
            rw [hz] at HF
            have hz2 : (s.toList == []) = false := hz
            rw [if_neg (by simp)] at HF
            go_wp2_with fail
            exact ⟨⟨q + 1, by omega, by first | rfl | (rw [wrap_suc q (by omega)]; rfl), by rw [HF.out]; first | rfl | (rw [wrap_suc f (by omega)]; rfl), HBQ⟩, by first | (simp [intOf]; done) | (simp [intOf]; omega) | (rw [wrap_suc q (by omega)]; simp [intOf]; omega)⟩
        · have hqe : q = 128 := by omega
          subst hqe
          have HTK := Lib.hid (show lr.take 128 = lr by rw [← HG.out.len, List.take_length])
          rw [HTK.out]
          have HTW := Lib.hid (HT6.out.below HBQ.out)
          have HSW := Lib.hid (HSK.out.below HBQ.out)
          have HBW := Lib.hid (chain HB6.out HBQ.out)
          have HKH := Lib.hid (fun i hi => keyA_has HG.out (i := i) hi)
          have HKR := Lib.hid (fun i hi => keyA_rise HG.out (i := i) hi)
          obtain ⟨f, hf⟩ : ∃ f, fullN lr = f := ⟨_, rfl⟩
          rw [hf] at HSW HKH HKR hfl ⊢
          clear HST HT6 HSK HB6 HBQ hqt
          obtain ⟨W0, hW0⟩ : ∃ W0, W0 = wr := ⟨_, rfl⟩
          subst hW0
          go_wp2_with fail
          go_loopw [11] (fun i wr => ∃ (q : Nat), q ≤ f ∧ i = .int .i64 (q : Int) ∧ Hid (Below W0.heap.size W0 wr)) (fun i _ => f - (intOf i).toNat)
          case atStart => exact ⟨0, by omega, rfl, Lib.hid (Below.refl _ _)⟩
          case round =>
            obtain ⟨q, hq, rfl, HBQ⟩ := hrel
            by_cases hqt : q < f
            · have hqi : (q : Int) < (f : Int) := by omega
              have hsw := HSW.out.below HBQ.out
              obtain ⟨bk, ok, rfl, hbk, _⟩ := hsw.2.resolve_left (by omega)
              have k0 : wr.cell? ⟨bk, ok + q, none⟩ = some (.string (keyA lr q)) := hsw.encK hqt
              obtain ⟨h1, h2⟩ := HKH.out q hqt
              have KC := fun W => key_c (keyA lr q) W
              rw [h2] at KC
              have HDC := fun W h => had_c (.slice (some ⟨bT, oT, none⟩) 128 cT) lr (keyA lr q) (key_size h2) W h
              rw [h1] at HDC
              have HTQ := Lib.hid (HTW.out.below HBQ.out)
              clear h1 h2
              by_cases hq0 : q = 0
              · generalize keyA lr q = s0 at *
                have qz : decide ((0 : Int) < (q : Int)) = false := by simp; omega
                have qz2 : decide (0 < q) = false := by simp; omega
                clear hsw hq0
                go_wp2_with fail
                (refine region_later (by kernel_rfl) (by kernel_rfl) ?_); (intro hlat); (repeat (go_big_quiet_step ((first | (go_at_call 12; exact later_call (HDC _ (HTQ.out.below (After.ok _)))) | (go_at_call 13; exact later_same (KC _)))))); (refine wpQuiet_nil ?_); (intro W1 hb1); (clear hlat)
                replace HBQ := Lib.hid (chain HBQ.out hb1)
                clear hb1
                go_wp2_with fail
                exact ⟨⟨q + 1, by omega, by first | rfl | (rw [wrap_suc q (by omega)]; rfl), HBQ⟩, by first | (simp [intOf]; done) | (simp [intOf]; omega) | (rw [wrap_suc q (by omega)]; simp [intOf]; omega)⟩
              · obtain ⟨q, rfl⟩ : ∃ p, q = p + 1 := ⟨q - 1, by omega⟩
                have hri := HKR.out q hqt
                have k1 : wr.cell? ⟨bk, ok + q, none⟩ = some (.string (keyA lr q)) := hsw.encK (by omega)
                generalize keyA lr (q + 1) = s0 at *
                generalize keyA lr q = s1 at *
                have qz : decide ((0 : Int) < ((q + 1 : Nat) : Int)) = true := by simp
                clear hsw hq0
                go_wp2_with fail
                (refine region_later (by kernel_rfl) (by kernel_rfl) ?_); (intro hlat); (repeat (go_big_quiet_step ((first | (go_at_call 12; exact later_call (HDC _ (HTQ.out.below (After.ok _)))) | (go_at_call 13; exact later_same (KC _)))))); (refine wpQuiet_nil ?_); (intro W1 hb1); (clear hlat)
                replace HBQ := Lib.hid (chain HBQ.out hb1)
                clear hb1
                go_wp2_with fail
                exact ⟨⟨q + 1 + 1, by omega, by first | rfl | (rw [wrap_suc (q + 1) (by omega)]; rfl), HBQ⟩, by first | (simp [intOf]; done) | (simp [intOf]; omega) | (rw [wrap_suc (q + 1) (by omega)]; simp [intOf]; omega)⟩
            · have hqe : q = f := by omega
              subst hqe
              go_wp2_with fail
              go_ret
              exact ⟨rfl, chain HBW.out HBQ.out⟩
theorem walk_TableKeys (v0 : Value) (w : World) (o0 : RowIn encT 3 (fun _ => True) w v0) :
    Calls Try.prog 6 #[v0] w fun e w' => e = .returned (.bool true) ∧ Below w.heap.size w w' := by
  obtain ⟨A, n, c, l, rfl, hc, hn, hl, _, hs⟩ := o0
  cases hf : (fewT l && decide (n ≤ 60)) with
  | false => exact keysw_big A n c l hn hl hf w hs
  | true =>
    rw [Bool.and_eq_true, decide_eq_true_iff] at hf
    exact keysw_c A n c l hn hl hf.1 hf.2 w hs
end Go.Proofs.Try
