/- The walk of TableModel. -/
import Derived.Test.YtpjijaljdklpgaaW13
import Derived.Test.YtpjijaljdklpgaaOpenB
namespace Go.Proofs.Try
open Go.RowKit Go.Maps Go.Sort
set_option linter.unusedVariables false
set_option linter.unusedSimpArgs false
/-- What a step does to what a key has. -/
theorem step_facts {l l' : List Pl} {d : Bool} {s : ByteArray} {x e : Int} (g : OkL l) (h : StepP l (d, s, x) l' e) (hf : fullN l < 96) :
    OkL l' ∧ fullN l' ≤ fullN l + 1 ∧ ((e = 0 ∧ (if d then (valL l s).isSome else isKey s) = true ∧ ∀ k, valL l' k = if k = s then (if d then none else some x) else valL l k) ∨ (e ≠ 0 ∧ (if d then (valL l s).isSome else isKey s) = false ∧ l' = l)) := by
  rcases h with ⟨h0, h⟩ | ⟨h0, rfl, rfl⟩
  · dsimp only at h0 h
    subst h0
    refine ⟨h.ok g, ?_, ?_⟩
    · rcases h with ⟨_, rfl, _⟩ | ⟨_, _, h⟩
      · omega
      · have := h.full; omega
    · rcases h with ⟨h1, rfl, rfl⟩ | ⟨h1, rfl, h⟩
      · exact .inr ⟨by omega, by simp [h1], rfl⟩
      · refine .inl ⟨rfl, ?_, fun k => by rw [h.val]; simp⟩
        cases hv : valL l s with
        | none => exact absurd hv h1
        | some v => rfl
  · dsimp only at h0 ⊢
    subst h0
    refine ⟨put_ok g s x, ?_, ?_⟩
    · by_cases he : (putL l s x).2 = 0
      · rw [put_full g he]; split <;> omega
      · rw [put_same he]; omega
    · cases hk : isKey s with
      | false =>
        have he : (putL l s x).2 = 90 := by rw [put_err g, if_pos hk]
        exact .inr ⟨by rw [he]; omega, by simp, put_same (by rw [he]; omega)⟩
      | true =>
        have he := put_fine g (v := x) hk hf
        exact .inl ⟨he, by simp, fun k => by rw [put_val g he]; simp⟩
set_option maxRecDepth 100000 in
set_option maxHeartbeats 4000000 in
theorem model_big (A : Option Addr) (n c : Nat) (steps : List StT) (k : ByteArray) (hn : n ≤ maxLen) (hl : steps.length = n) (hf : fewT steps = false ∨ 60 < n ∨ 100 < k.size) (w : World) (hs : Sees w 3 A n (flat encT steps)) :
    Calls Try.prog 3 #[.slice A n c, .string k] w fun e w' => e = .returned (.bool true) ∧ Below w.heap.size w w' := by
  have FC := fun W h => few_c A n c steps 60 hn (by omega) W h hl
  have HS := Lib.hid hs
  clear hs
  by_cases hb : (fewT steps && decide (n ≤ 60)) = true
  · have hk : 100 < k.size := by
      rw [Bool.and_eq_true, decide_eq_true_iff] at hb
      rcases hf with h | h | h
      · rw [hb.1] at h; cases h
      · omega
      · exact h
    have hk1 : decide (100 < (k.size : Int)) = true := by simp; omega
    have hk2 : decide (100 < k.size) = true := by simp; omega
    have hk3 : (100 : Int) < (k.size : Int) := by omega
    rw [hb] at FC
    clear hf hb hk
    go_enter Try.func3, Try.ntmps3
    go_wp2_with (first
      | (go_at_call 8; refine (awake13 _).mono ?_; rintro e w1 ⟨rfl, hb1⟩; have HB1 := Lib.hid hb1; replace HS := Lib.hid (HS.out.below hb1); clear hb1)
      | (go_at_call 9; refine (FC _ HS.out).mono ?_; rintro e w2 ⟨rfl, hb2⟩; have HB2 := Lib.hid (chain HB1.out hb2); clear hb2))
    go_ret
    exact ⟨rfl, HB2.out⟩
  · rw [Bool.not_eq_true] at hb
    rw [hb] at FC
    clear hf hb
    go_enter Try.func3, Try.ntmps3
    go_wp2_with (first
      | (go_at_call 8; refine (awake13 _).mono ?_; rintro e w1 ⟨rfl, hb1⟩; have HB1 := Lib.hid hb1; replace HS := Lib.hid (HS.out.below hb1); clear hb1)
      | (go_at_call 9; refine (FC _ HS.out).mono ?_; rintro e w2 ⟨rfl, hb2⟩; have HB2 := Lib.hid (chain HB1.out hb2); clear hb2))
    go_ret
    exact ⟨rfl, HB2.out⟩
set_option maxRecDepth 100000 in
set_option maxHeartbeats 8000000 in
theorem model_c (A : Option Addr) (n c : Nat) (steps : List StT) (k : ByteArray) (hn : n ≤ 60) (hl : steps.length = n) (hf : fewT steps = true) (hk : k.size ≤ 100) (w : World) (hs : Sees w 3 A n (flat encT steps)) :
    Calls Try.prog 3 #[.slice A n c, .string k] w fun e w' => e = .returned (.bool true) ∧ Below w.heap.size w w' := by
  have FC := fun W h => few_c A n c steps 60 (by unfold maxLen; omega) (by omega) W h hl
  rw [hf, decide_eq_true hn] at FC
  have HS := Lib.hid hs
  have HFEW := Lib.hid (fun j hj => few_at hf (k := j) hj)
  have HL := Lib.hid hl
  have hk1 : decide (100 < (k.size : Int)) = false := by simp; omega
  have hk2 : decide (100 < k.size) = false := by simp; omega
  have hk3 : ¬((100 : Int) < (k.size : Int)) := by omega
  have HK := Lib.hid hk
  clear hs hf hl hk
  go_enter Try.func3, Try.ntmps3
  go_wp2_with (first
    | (go_at_call 8; refine (awake13 _).mono ?_; rintro e w1 ⟨rfl, hb1⟩; have HB1 := Lib.hid hb1; replace HS := Lib.hid (HS.out.below hb1); clear hb1)
    | (go_at_call 9; refine (FC _ HS.out).mono ?_; rintro e w2 ⟨rfl, hb2⟩; have HB2 := Lib.hid (chain HB1.out hb2); replace HS := Lib.hid (HS.out.below hb2); clear hb2)
    | (go_at_call 10; refine (tnew_t _).mono ?_; rintro e w3 ⟨v3, rfl, ht3, hb3⟩; have HB3 := Lib.hid (chain HB2.out hb3); replace HS := Lib.hid (HS.out.below hb3); have HT3 := Lib.hid ht3; clear ht3 hb3))
  clear HB1 HB2 FC
  go_loopw [6, 7, 8, 9] (fun x val has i wr => ∃ (j : Nat) (lr : List Pl) (y : Int), j ≤ n ∧ i = .int .i64 (j : Int) ∧ val = .int .i64 y ∧ has = .bool (valL lr k).isSome ∧ Hid (∀ z, valL lr k = some z → z = y) ∧ Hid (fullN lr ≤ j) ∧ Hid (Tbl wr x lr) ∧ Hid (Below w3.heap.size w3 wr)) (fun _ _ _ i _ => n - (intOf i).toNat)
  case atStart => exact ⟨0, noPl 128, 0, by omega, rfl, rfl, by rw [val_new]; rfl, Lib.hid (fun z hz => by rw [val_new] at hz; cases hz), Lib.hid (by rw [full_new]; omega), HT3, Lib.hid (Below.refl _ _)⟩
  case round =>
    obtain ⟨j, lr, y, hj, rfl, rfl, rfl, HV, HFU, HT, HB⟩ := hrel
    by_cases hlt : j < n
    · have hlt' : (j : Int) < (n : Int) := by omega
      obtain ⟨bA, oA, d, s, x, rfl, c0, c1, c2, hbA, hat⟩ := steps_at HS.out HB.out hlt
      have hss := HFEW.out j (by rw [HL.out]; exact hlt)
      rw [hat] at hss
      dsimp only at hss
      have g := HT.out.ok
      have hf96 : fullN lr < 96 := by have := HFU.out; omega
      have HG := Lib.hid g
      have HF96 := Lib.hid hf96
      have HSS := Lib.hid hss
      have DC := fun W h => do_c u6 lr d s x (by omega) W h
      have HDC := fun W h => had_c u6 lr s (by omega) W h
      have KC := fun W => key_c s W
      obtain ⟨B, hB⟩ : ∃ B, (valL lr k).isSome = B := ⟨_, rfl⟩
      rw [hB]
      have HBE := Lib.hid hB
      clear g hf96 hss hat hB
      go_wp2_with fail
      refine (DC _ HT.out).mono ?_
      rintro e w5 ⟨v', l', q, rfl, hP, hT, hb5⟩
      have HT5 := Lib.hid hT
      replace HT := Lib.hid (HT.out.below hb5)
      have HBN := Lib.hid (chain HB.out hb5)
      replace c0 : w5.cell? _ = _ := (hb5.cell hbA).trans c0
      replace c1 : w5.cell? _ = _ := (hb5.cell hbA).trans c1
      replace c2 : w5.cell? _ = _ := (hb5.cell hbA).trans c2
      have hbA5 : bA < w5.heap.size := Nat.lt_of_lt_of_le hbA hb5.size
      obtain ⟨_, hfu, hcase⟩ := step_facts HG.out hP HF96.out
      have HFN := Lib.hid (show fullN l' ≤ j + 1 by have := HFU.out; omega)
      clear hP hT hb5 hbA DC hfu
      rcases hcase with ⟨rfl, hcond, hval⟩ | ⟨hq, hcond, hsame⟩
      · have HVAL := Lib.hid hval
        clear hval
        cases d with
        | true =>
          rw [if_pos rfl] at hcond
          rw [hcond] at HDC
          clear hcond
          by_cases hsk : s = k
          · have heq : (s.toList == k.toList) = true := key_eq.2 hsk
            have HNV := Lib.hid (show valL l' k = none by rw [HVAL.out, if_pos hsk.symm, if_pos rfl])
            clear hsk
            go_wp2_with (first
          | (go_at_call 12; refine (HDC _ HT.out).mono ?_; rintro e w6 ⟨rfl, hb6⟩; have HBM := Lib.hid (chain HBN.out hb6); have HT6 := Lib.hid (HT5.out.below hb6); have d0 := (hb6.cell (p := ⟨bA, oA + j * 3, none⟩) hbA5).trans c0; have d1 := (hb6.cell (p := ⟨bA, oA + j * 3 + 1, none⟩) hbA5).trans c1; have d2 := (hb6.cell (p := ⟨bA, oA + j * 3 + 2, none⟩) hbA5).trans c2; clear hb6)
          | (go_at_call 13; refine (KC _).mono ?_; rintro e w7 ⟨rfl, rfl⟩))
            refine ⟨⟨j + 1, l', x, by omega, by first | rfl | (rw [wrap_suc j (by omega)]; rfl), rfl, by rw [HNV.out]; rfl, Lib.hid (fun z hz => by rw [HNV.out] at hz; cases hz), HFN, HT6, HBM⟩, by first | (simp [intOf]; done) | (simp [intOf]; omega) | (rw [wrap_suc j (by omega)]; simp [intOf]; omega)⟩
          · have heq : (s.toList == k.toList) = false := by
              cases hb : (s.toList == k.toList) with
              | false => rfl
              | true => exact absurd (key_eq.1 hb) hsk
            have HNV := Lib.hid (show valL l' k = valL lr k by rw [HVAL.out, if_neg (Ne.symm hsk)])
            clear hsk
            go_wp2_with (first
          | (go_at_call 12; refine (HDC _ HT.out).mono ?_; rintro e w6 ⟨rfl, hb6⟩; have HBM := Lib.hid (chain HBN.out hb6); have HT6 := Lib.hid (HT5.out.below hb6); have d0 := (hb6.cell (p := ⟨bA, oA + j * 3, none⟩) hbA5).trans c0; have d1 := (hb6.cell (p := ⟨bA, oA + j * 3 + 1, none⟩) hbA5).trans c1; have d2 := (hb6.cell (p := ⟨bA, oA + j * 3 + 2, none⟩) hbA5).trans c2; clear hb6)
          | (go_at_call 13; refine (KC _).mono ?_; rintro e w7 ⟨rfl, rfl⟩))
            refine ⟨⟨j + 1, l', y, by omega, by first | rfl | (rw [wrap_suc j (by omega)]; rfl), rfl, by rw [HNV.out, HBE.out], Lib.hid (fun z hz => by rw [HNV.out] at hz; exact HV.out z hz), HFN, HT6, HBM⟩, by first | (simp [intOf]; done) | (simp [intOf]; omega) | (rw [wrap_suc j (by omega)]; simp [intOf]; omega)⟩
        | false =>
          rw [if_neg (by simp)] at hcond
          rw [hcond] at KC
          clear hcond
          by_cases hsk : s = k
          · have heq : (s.toList == k.toList) = true := key_eq.2 hsk
            have HNV := Lib.hid (show valL l' k = some x by rw [HVAL.out, if_pos hsk.symm, if_neg (by simp)])
            clear hsk
            go_wp2_with (first
          | (go_at_call 12; refine (HDC _ HT.out).mono ?_; rintro e w6 ⟨rfl, hb6⟩; have HBM := Lib.hid (chain HBN.out hb6); have HT6 := Lib.hid (HT5.out.below hb6); have d0 := (hb6.cell (p := ⟨bA, oA + j * 3, none⟩) hbA5).trans c0; have d1 := (hb6.cell (p := ⟨bA, oA + j * 3 + 1, none⟩) hbA5).trans c1; have d2 := (hb6.cell (p := ⟨bA, oA + j * 3 + 2, none⟩) hbA5).trans c2; clear hb6)
          | (go_at_call 13; refine (KC _).mono ?_; rintro e w7 ⟨rfl, rfl⟩))
            refine ⟨⟨j + 1, l', x, by omega, by first | rfl | (rw [wrap_suc j (by omega)]; rfl), rfl, by rw [HNV.out]; rfl, Lib.hid (fun z hz => by rw [HNV.out] at hz; injection hz with hz; exact hz.symm), HFN, HT5, HBN⟩, by first | (simp [intOf]; done) | (simp [intOf]; omega) | (rw [wrap_suc j (by omega)]; simp [intOf]; omega)⟩
          · have heq : (s.toList == k.toList) = false := by
              cases hb : (s.toList == k.toList) with
              | false => rfl
              | true => exact absurd (key_eq.1 hb) hsk
            have HNV := Lib.hid (show valL l' k = valL lr k by rw [HVAL.out, if_neg (Ne.symm hsk)])
            clear hsk
            go_wp2_with (first
          | (go_at_call 12; refine (HDC _ HT.out).mono ?_; rintro e w6 ⟨rfl, hb6⟩; have HBM := Lib.hid (chain HBN.out hb6); have HT6 := Lib.hid (HT5.out.below hb6); have d0 := (hb6.cell (p := ⟨bA, oA + j * 3, none⟩) hbA5).trans c0; have d1 := (hb6.cell (p := ⟨bA, oA + j * 3 + 1, none⟩) hbA5).trans c1; have d2 := (hb6.cell (p := ⟨bA, oA + j * 3 + 2, none⟩) hbA5).trans c2; clear hb6)
          | (go_at_call 13; refine (KC _).mono ?_; rintro e w7 ⟨rfl, rfl⟩))
            refine ⟨⟨j + 1, l', y, by omega, by first | rfl | (rw [wrap_suc j (by omega)]; rfl), rfl, by rw [HNV.out, HBE.out], Lib.hid (fun z hz => by rw [HNV.out] at hz; exact HV.out z hz), HFN, HT5, HBN⟩, by first | (simp [intOf]; done) | (simp [intOf]; omega) | (rw [wrap_suc j (by omega)]; simp [intOf]; omega)⟩
      · subst hsame
        have hq0 : (q == 0) = false := by rw [beq_eq_false_iff_ne]; exact hq
        have hq1 : decide (q = 0) = false := decide_eq_false hq
        cases d with
        | true =>
          rw [if_pos rfl] at hcond
          rw [hcond] at HDC
          clear hcond
          cases heq : (s.toList == k.toList) with
          | true =>
            go_wp2_with (first
          | (go_at_call 12; refine (HDC _ HT.out).mono ?_; rintro e w6 ⟨rfl, hb6⟩; have HBM := Lib.hid (chain HBN.out hb6); have HT6 := Lib.hid (HT5.out.below hb6); have d0 := (hb6.cell (p := ⟨bA, oA + j * 3, none⟩) hbA5).trans c0; have d1 := (hb6.cell (p := ⟨bA, oA + j * 3 + 1, none⟩) hbA5).trans c1; have d2 := (hb6.cell (p := ⟨bA, oA + j * 3 + 2, none⟩) hbA5).trans c2; clear hb6)
          | (go_at_call 13; refine (KC _).mono ?_; rintro e w7 ⟨rfl, rfl⟩))
            refine ⟨⟨j + 1, l', y, by omega, by first | rfl | (rw [wrap_suc j (by omega)]; rfl), rfl, by rw [HBE.out], HV, HFN, HT6, HBM⟩, by first | (simp [intOf]; done) | (simp [intOf]; omega) | (rw [wrap_suc j (by omega)]; simp [intOf]; omega)⟩
          | false =>
            go_wp2_with (first
          | (go_at_call 12; refine (HDC _ HT.out).mono ?_; rintro e w6 ⟨rfl, hb6⟩; have HBM := Lib.hid (chain HBN.out hb6); have HT6 := Lib.hid (HT5.out.below hb6); have d0 := (hb6.cell (p := ⟨bA, oA + j * 3, none⟩) hbA5).trans c0; have d1 := (hb6.cell (p := ⟨bA, oA + j * 3 + 1, none⟩) hbA5).trans c1; have d2 := (hb6.cell (p := ⟨bA, oA + j * 3 + 2, none⟩) hbA5).trans c2; clear hb6)
          | (go_at_call 13; refine (KC _).mono ?_; rintro e w7 ⟨rfl, rfl⟩))
            refine ⟨⟨j + 1, l', y, by omega, by first | rfl | (rw [wrap_suc j (by omega)]; rfl), rfl, by rw [HBE.out], HV, HFN, HT6, HBM⟩, by first | (simp [intOf]; done) | (simp [intOf]; omega) | (rw [wrap_suc j (by omega)]; simp [intOf]; omega)⟩
        | false =>
          rw [if_neg (by simp)] at hcond
          rw [hcond] at KC
          clear hcond
          cases heq : (s.toList == k.toList) with
          | true =>
            go_wp2_with (first
          | (go_at_call 12; refine (HDC _ HT.out).mono ?_; rintro e w6 ⟨rfl, hb6⟩; have HBM := Lib.hid (chain HBN.out hb6); have HT6 := Lib.hid (HT5.out.below hb6); have d0 := (hb6.cell (p := ⟨bA, oA + j * 3, none⟩) hbA5).trans c0; have d1 := (hb6.cell (p := ⟨bA, oA + j * 3 + 1, none⟩) hbA5).trans c1; have d2 := (hb6.cell (p := ⟨bA, oA + j * 3 + 2, none⟩) hbA5).trans c2; clear hb6)
          | (go_at_call 13; refine (KC _).mono ?_; rintro e w7 ⟨rfl, rfl⟩))
            refine ⟨⟨j + 1, l', y, by omega, by first | rfl | (rw [wrap_suc j (by omega)]; rfl), rfl, by rw [HBE.out], HV, HFN, HT5, HBN⟩, by first | (simp [intOf]; done) | (simp [intOf]; omega) | (rw [wrap_suc j (by omega)]; simp [intOf]; omega)⟩
          | false =>
            go_wp2_with (first
          | (go_at_call 12; refine (HDC _ HT.out).mono ?_; rintro e w6 ⟨rfl, hb6⟩; have HBM := Lib.hid (chain HBN.out hb6); have HT6 := Lib.hid (HT5.out.below hb6); have d0 := (hb6.cell (p := ⟨bA, oA + j * 3, none⟩) hbA5).trans c0; have d1 := (hb6.cell (p := ⟨bA, oA + j * 3 + 1, none⟩) hbA5).trans c1; have d2 := (hb6.cell (p := ⟨bA, oA + j * 3 + 2, none⟩) hbA5).trans c2; clear hb6)
          | (go_at_call 13; refine (KC _).mono ?_; rintro e w7 ⟨rfl, rfl⟩))
            refine ⟨⟨j + 1, l', y, by omega, by first | rfl | (rw [wrap_suc j (by omega)]; rfl), rfl, by rw [HBE.out], HV, HFN, HT5, HBN⟩, by first | (simp [intOf]; done) | (simp [intOf]; omega) | (rw [wrap_suc j (by omega)]; simp [intOf]; omega)⟩
    · have hke : j = n := by omega
      subst hke
      have GC := fun W h => get_t u6 lr k (by have := HK.out; omega) W h
      have CC := fun W h => check_t u6 lr W h
      have HBX := Lib.hid (chain HB3.out HB.out)
      cases hv : valL lr k with
      | none =>
        rw [hv] at GC
        clear hv
        dsimp only [Option.getD_none, Option.isSome_none] at GC ⊢
        go_wp2_with (first
          | (go_at_call 14; refine (GC _ HT.out).mono ?_; rintro e w8 ⟨rfl, hb8⟩; have HB8 := Lib.hid (chain HBX.out hb8); have HT8 := Lib.hid (HT.out.below hb8); clear hb8)
          | (go_at_call 15; refine (CC _ HT8.out).mono ?_; rintro e w9 ⟨rfl, hb9⟩; have HB9 := Lib.hid (chain HB8.out hb9); clear hb9))
        go_ret
        exact ⟨rfl, HB9.out⟩
      | some z =>
        obtain rfl := HV.out z hv
        rw [hv] at GC
        clear hv
        dsimp only [Option.getD_some, Option.isSome_some] at GC ⊢
        go_wp2_with (first
          | (go_at_call 14; refine (GC _ HT.out).mono ?_; rintro e w8 ⟨rfl, hb8⟩; have HB8 := Lib.hid (chain HBX.out hb8); have HT8 := Lib.hid (HT.out.below hb8); clear hb8)
          | (go_at_call 15; refine (CC _ HT8.out).mono ?_; rintro e w9 ⟨rfl, hb9⟩; have HB9 := Lib.hid (chain HB8.out hb9); clear hb9))
        go_ret
        exact ⟨rfl, HB9.out⟩
theorem walk_TableModel (v0 : Value) (k : ByteArray) (w1 : k.size ≤ maxLen) (w : World) (o0 : RowIn encT 3 (fun _ => True) w v0) :
    Calls Try.prog 3 #[v0, .string k] w fun e w' => e = .returned (.bool true) ∧ Below w.heap.size w w' := by
  obtain ⟨A, n, c, l, rfl, hc, hn, hl, _, hs⟩ := o0
  by_cases h1 : n ≤ 60 ∧ fewT l = true ∧ k.size ≤ 100
  · exact model_c A n c l k h1.1 hl h1.2.1 h1.2.2 w hs
  · refine model_big A n c l k hn hl ?_ w hs
    cases hf : fewT l with
    | false => exact .inl rfl
    | true =>
      right
      rcases Nat.lt_or_ge 60 n with h | h
      · exact .inl h
      · right
        apply Nat.lt_of_not_le
        intro h2
        exact h1 ⟨h, hf, h2⟩
end Go.Proofs.Try
