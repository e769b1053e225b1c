/- The walk of TableBack. -/
import Derived.Test.YtpjijaljdklpgaaL13a
namespace Go.Proofs.Try
open Go.RowKit Go.Maps Go.Sort
set_option linter.unusedVariables false
set_option linter.unusedSimpArgs false
set_option maxRecDepth 100000 in
set_option maxHeartbeats 8000000 in
theorem back_big1 (A : Option Addr) (n c : Nat) (steps : List StT) (k : ByteArray) (val : Int) (other : ByteArray) (hn : n ≤ maxLen) (hl : steps.length = n) (hf : (fewT steps && decide (n ≤ 60)) = false) (w : World) (hs : Sees w 3 A n (flat encT steps)) :
    Calls Try.prog 4 #[.slice A n c, .string k, .int .i64 val, .string other] w fun e w' => e = .returned (.bool true) ∧ Below w.heap.size w w' := by
  have FC := fun W h => few_c A n c steps 60 hn (by omega) W h hl
  have HS := Lib.hid hs
  rw [hf] at FC
  clear hs hf
  go_enter Try.func4, Try.ntmps4
  go_wp2_with (first
    | (go_at_call 8; refine (awake13 _).mono ?_; rintro e w1 ⟨rfl, hb1⟩; have HB1 := Lib.hid hb1; replace HS := Lib.hid (HS.out.below hb1); clear hb1)
    | (go_at_call 9; refine (FC _ HS.out).mono ?_; rintro e w2 ⟨rfl, hb2⟩; have HB2 := Lib.hid (chain HB1.out hb2); replace HS := Lib.hid (HS.out.below hb2); clear hb2))
  go_ret
  exact ⟨rfl, HB2.out⟩
set_option maxRecDepth 100000 in
set_option maxHeartbeats 8000000 in
theorem back_big2 (A : Option Addr) (n c : Nat) (steps : List StT) (k : ByteArray) (val : Int) (other : ByteArray) (hn : n ≤ maxLen) (hl : steps.length = n) (hf : (fewT steps && decide (n ≤ 60)) = true) (hk : 100 < k.size) (w : World) (hs : Sees w 3 A n (flat encT steps)) :
    Calls Try.prog 4 #[.slice A n c, .string k, .int .i64 val, .string other] w fun e w' => e = .returned (.bool true) ∧ Below w.heap.size w w' := by
  have FC := fun W h => few_c A n c steps 60 hn (by omega) W h hl
  have HS := Lib.hid hs
  rw [hf] at FC
  have qk1 : decide (100 < (k.size : Int)) = true := by simp; omega
  have qk2 : decide (100 < k.size) = true := by simp; omega
  have qk3 : (100 : Int) < (k.size : Int) := by omega
  clear hs hf hk
  go_enter Try.func4, Try.ntmps4
  go_wp2_with (first
    | (go_at_call 8; refine (awake13 _).mono ?_; rintro e w1 ⟨rfl, hb1⟩; have HB1 := Lib.hid hb1; replace HS := Lib.hid (HS.out.below hb1); clear hb1)
    | (go_at_call 9; refine (FC _ HS.out).mono ?_; rintro e w2 ⟨rfl, hb2⟩; have HB2 := Lib.hid (chain HB1.out hb2); replace HS := Lib.hid (HS.out.below hb2); clear hb2))
  go_ret
  exact ⟨rfl, HB2.out⟩
set_option maxRecDepth 100000 in
set_option maxHeartbeats 8000000 in
theorem back_big3 (A : Option Addr) (n c : Nat) (steps : List StT) (k : ByteArray) (val : Int) (other : ByteArray) (hn : n ≤ maxLen) (hl : steps.length = n) (hf : (fewT steps && decide (n ≤ 60)) = true) (hk : k.size ≤ 100) (ho : 100 < other.size) (w : World) (hs : Sees w 3 A n (flat encT steps)) :
    Calls Try.prog 4 #[.slice A n c, .string k, .int .i64 val, .string other] w fun e w' => e = .returned (.bool true) ∧ Below w.heap.size w w' := by
  have FC := fun W h => few_c A n c steps 60 hn (by omega) W h hl
  have HS := Lib.hid hs
  rw [hf] at FC
  have qk1 : decide (100 < (k.size : Int)) = false := by simp; omega
  have qk2 : decide (100 < k.size) = false := by simp; omega
  have qk3 : ¬((100 : Int) < (k.size : Int)) := by omega
  have qother1 : decide (100 < (other.size : Int)) = true := by simp; omega
  have qother2 : decide (100 < other.size) = true := by simp; omega
  have qother3 : (100 : Int) < (other.size : Int) := by omega
  clear hs hf hk ho
  go_enter Try.func4, Try.ntmps4
  go_wp2_with (first
    | (go_at_call 8; refine (awake13 _).mono ?_; rintro e w1 ⟨rfl, hb1⟩; have HB1 := Lib.hid hb1; replace HS := Lib.hid (HS.out.below hb1); clear hb1)
    | (go_at_call 9; refine (FC _ HS.out).mono ?_; rintro e w2 ⟨rfl, hb2⟩; have HB2 := Lib.hid (chain HB1.out hb2); replace HS := Lib.hid (HS.out.below hb2); clear hb2))
  go_ret
  exact ⟨rfl, HB2.out⟩
set_option maxRecDepth 100000 in
set_option maxHeartbeats 8000000 in
theorem back_c (A : Option Addr) (n c : Nat) (steps : List StT) (k : ByteArray) (val : Int) (other : ByteArray) (hn : n ≤ maxLen) (hl : steps.length = n) (hf : fewT steps = true) (hn2 : n ≤ 60) (hk : k.size ≤ 100) (ho : other.size ≤ 100) (w : World) (hs : Sees w 3 A n (flat encT steps)) :
    Calls Try.prog 4 #[.slice A n c, .string k, .int .i64 val, .string other] w fun e w' => e = .returned (.bool true) ∧ Below w.heap.size w w' := by
  have FC := fun W h => few_c A n c steps 60 hn (by omega) W h hl
  have HS := Lib.hid hs
  rw [hf, decide_eq_true hn2] at FC
  have HFEW := Lib.hid (fun j hj => few_at hf (k := j) hj)
  have HL := Lib.hid hl
  have qk1 : decide (100 < (k.size : Int)) = false := by simp; omega
  have qk2 : decide (100 < k.size) = false := by simp; omega
  have qk3 : ¬((100 : Int) < (k.size : Int)) := by omega
  have qother1 : decide (100 < (other.size : Int)) = false := by simp; omega
  have qother2 : decide (100 < other.size) = false := by simp; omega
  have qother3 : ¬((100 : Int) < (other.size : Int)) := by omega
  have HK := Lib.hid hk
  have HOT := Lib.hid ho
  clear hs hf hl hk ho hn
  go_enter Try.func4, Try.ntmps4
  go_wp2_with (first
    | (go_at_call 8; refine (awake13 _).mono ?_; rintro e w1 ⟨rfl, hb1⟩; have HB1 := Lib.hid hb1; replace HS := Lib.hid (HS.out.below hb1); clear hb1)
    | (go_at_call 9; refine (FC _ HS.out).mono ?_; rintro e w2 ⟨rfl, hb2⟩; have HB2 := Lib.hid (chain HB1.out hb2); replace HS := Lib.hid (HS.out.below hb2); clear hb2)
    | (go_at_call 10; refine (tnew_t _).mono ?_; rintro e w3 ⟨v3, rfl, ht3, hb3⟩; have HB3 := Lib.hid (chain HB2.out hb3); replace HS := Lib.hid (HS.out.below hb3); have HT3 := Lib.hid ht3; clear ht3 hb3))
  clear HB1 HB2 FC
  go_loopw [10, 11] (fun x i wr => ∃ (j : Nat) (lr : List Pl), j ≤ n ∧ i = .int .i64 (j : Int) ∧ Hid (Tbl wr x lr) ∧ Hid (Below w3.heap.size w3 wr)) (fun _ i _ => n - (intOf i).toNat)
  case atStart => exact ⟨0, noPl 128, by omega, rfl, HT3, Lib.hid (Below.refl _ _)⟩
  case round =>
    obtain ⟨j, lr, hj, rfl, HT, HB⟩ := hrel
    by_cases hlt : j < n
    · have hlt' : (j : Int) < (n : Int) := by omega
      obtain ⟨bA, oA, d, s, x, rfl, c0, c1, c2, hbA, hat⟩ := steps_at HS.out HB.out hlt
      have hss := HFEW.out j (by rw [HL.out]; exact hlt)
      rw [hat] at hss
      dsimp only at hss
      have DC := fun W h => do_c u10 lr d s x (by omega) W h
      clear hss hat
      go_wp2_with (go_at_call 11; refine (DC _ HT.out).mono ?_; rintro e w5 ⟨v', l', q, rfl, hP, hT, hb5⟩; have HT5 := Lib.hid hT; have HBN := Lib.hid (chain HB.out hb5); clear hP hT hb5)
      exact ⟨⟨j + 1, l', by omega, by first | rfl | (rw [wrap_suc j (by omega)]; rfl), HT5, HBN⟩, by first | (simp [intOf]; done) | (simp [intOf]; omega) | (rw [wrap_suc j (by omega)]; simp [intOf]; omega)⟩
    · have hke : j = n := by omega
      subst hke
      have g := HT.out.ok
      have HG := Lib.hid g
      have HDC := fun W h => had_c u10 lr k (by have := HK.out; omega) W h
      have PC := fun W h => put_t u10 lr k val W h
      have GC := fun W h => get_t u10 lr other (by have := HOT.out; omega) W h
      have HBX := Lib.hid (chain HB3.out HB.out)
      clear HB HB3 g
      cases hv : valL lr k with
      | some z =>
        rw [hv] at HDC
        clear hv
        dsimp only [Option.isSome_some] at HDC
        go_wp2_with (go_at_call 12; refine (HDC _ HT.out).mono ?_; rintro e w8 ⟨rfl, hb8⟩; have HB8 := Lib.hid (chain HBX.out hb8); clear hb8)
        go_ret
        exact ⟨rfl, HB8.out⟩
      | none =>
        rw [hv] at HDC
        dsimp only [Option.isSome_none] at HDC
        have HV := Lib.hid hv
        clear hv
        obtain ⟨E, hE⟩ : ∃ E, (putL lr k val).2 = E := ⟨_, rfl⟩
        rw [hE] at PC
        by_cases he : E = 0
        · subst he
          have HE := Lib.hid hE
          have g' := put_ok HG.out k val
          have hvk := put_val HG.out hE k
          rw [if_pos rfl] at hvk
          have hvo := put_val HG.out hE other
          obtain ⟨l1, hl1⟩ : ∃ l1, (putL lr k val).1 = l1 := ⟨_, rfl⟩
          rw [hl1] at PC hvk hvo
          have HBK := Lib.hid (fun z hd => back_same HG.out hE HV.out (z := z) hd)
          rw [hl1] at HBK
          have HVK := Lib.hid hvk
          clear hE g' hvk hl1
          have G2 := fun v W h => get_t v l1 other (by have := HOT.out; omega) W h
          have D2 := fun v W h => del_t v l1 k (by have := HK.out; omega) W h
          obtain ⟨N1, hN1⟩ : ∃ N1, (valL lr other).getD 0 = N1 := ⟨_, rfl⟩
          obtain ⟨I1, hI1⟩ : ∃ I1, (valL lr other).isSome = I1 := ⟨_, rfl⟩
          rw [hN1, hI1] at GC
          go_wp2_with (first
            | (go_at_call 12; refine (HDC _ HT.out).mono ?_; rintro e w8 ⟨rfl, hb8⟩; have HB8 := Lib.hid (chain HBX.out hb8); replace HT := Lib.hid (HT.out.below hb8); clear hb8)
            | (go_at_call 16; refine (PC _ HT.out).mono ?_; rintro e w9 ⟨v9, rfl, ht9, hb9⟩; have HB9 := Lib.hid (chain HB8.out hb9); replace HT := Lib.hid (HT.out.below hb9); have HY := Lib.hid ht9; clear ht9 hb9)
            | (go_at_call 18; refine (D2 _ _ HY.out).mono ?_; rintro e w10 ⟨v10, l10, q10, rfl, hd10, ht10, hb10⟩; have HB10 := Lib.hid (chain HB9.out hb10); replace HT := Lib.hid (HT.out.below hb10); have HZ := Lib.hid ht10; replace HY := Lib.hid (HY.out.below hb10); have HD10 := Lib.hid hd10; clear hd10 ht10 hb10))
          have hd := HD10.out
          have hdd : q10 = 0 ∧ l10 = lr := by
            rcases hd with ⟨h, _⟩ | ⟨_, h1, h2⟩
            · rw [HVK.out] at h; cases h
            · exact ⟨h1, HBK.out _ h2⟩
          obtain ⟨rfl, rfl⟩ := hdd
          clear hd HD10 HBK
          go_wp2_with fail
          refine (GC _ HT.out).mono ?_
          rintro e w11 ⟨rfl, hb11⟩
          have HB11 := Lib.hid (chain HB10.out hb11)
          replace HT := Lib.hid (HT.out.below hb11)
          replace HY := Lib.hid (HY.out.below hb11)
          replace HZ := Lib.hid (HZ.out.below hb11)
          clear hb11
          by_cases hok : other = k
          · have hoe : (other.toList == k.toList) = true := key_eq.2 hok
            clear hok hvo hN1 hI1
            go_wp2_with fail
            refine (G2 _ _ HY.out).mono ?_
            rintro e w12 ⟨rfl, hb12⟩
            have HB12 := Lib.hid (chain HB11.out hb12)
            replace HT := Lib.hid (HT.out.below hb12)
            replace HZ := Lib.hid (HZ.out.below hb12)
            clear hb12
            go_wp2_with (go_at_call 17; refine (sameT_c _ _ _ _ HZ.out HT.out).mono ?_; rintro e w13 ⟨rfl, hb13⟩; have HB13 := Lib.hid (chain HB12.out hb13); clear hb13)
            go_ret
            exact ⟨rfl, HB13.out⟩
          · have hoe : (other.toList == k.toList) = false := by
              cases hb : (other.toList == k.toList) with
              | false => rfl
              | true => exact absurd (key_eq.1 hb) hok
            rw [if_neg hok] at hvo
            rw [hvo, hN1, hI1] at G2
            clear hok hvo hN1 hI1
            go_wp2_with fail
            refine (G2 _ _ HY.out).mono ?_
            rintro e w12 ⟨rfl, hb12⟩
            have HB12 := Lib.hid (chain HB11.out hb12)
            replace HT := Lib.hid (HT.out.below hb12)
            replace HZ := Lib.hid (HZ.out.below hb12)
            clear hb12
            go_wp2_with (go_at_call 17; refine (sameT_c _ _ _ _ HZ.out HT.out).mono ?_; rintro e w13 ⟨rfl, hb13⟩; have HB13 := Lib.hid (chain HB12.out hb13); clear hb13)
            go_ret
            exact ⟨rfl, HB13.out⟩
        · have hq0 : (E == 0) = false := by rw [beq_eq_false_iff_ne]; exact he
          have hq1 : decide (E = 0) = false := decide_eq_false he
          have hq2 : (E != 0) = true := by rw [bne_iff_ne]; exact he
          rw [put_same (by rw [hE]; exact he)] at PC
          clear hE he
          go_wp2_with (first
            | (go_at_call 12; refine (HDC _ HT.out).mono ?_; rintro e w8 ⟨rfl, hb8⟩; have HB8 := Lib.hid (chain HBX.out hb8); replace HT := Lib.hid (HT.out.below hb8); clear hb8)
            | (go_at_call 16; refine (PC _ HT.out).mono ?_; rintro e w9 ⟨v9, rfl, ht9, hb9⟩; have HB9 := Lib.hid (chain HB8.out hb9); replace HT := Lib.hid (HT.out.below hb9); have HY := Lib.hid ht9; clear ht9 hb9)
            | (go_at_call 17; refine (sameT_c _ _ _ _ HY.out HT.out).mono ?_; rintro e w10 ⟨rfl, hb10⟩; have HB10 := Lib.hid (chain HB9.out hb10); clear hb10))
          go_ret
          exact ⟨rfl, HB10.out⟩
theorem walk_TableBack (v0 : Value) (k : ByteArray) (val : Int) (other : ByteArray) (w1 : k.size ≤ maxLen) (w2 : (Lit.int .i64 val).wf = true) (w3 : other.size ≤ maxLen) (w : World) (o0 : RowIn encT 3 (fun _ => True) w v0) :
    Calls Try.prog 4 #[v0, .string k, .int .i64 val, .string other] w fun e w' => e = .returned (.bool true) ∧ Below w.heap.size w w' := by
  obtain ⟨A, n, c, l, rfl, hc, hn, hl, _, hs⟩ := o0
  cases hf : (fewT l && decide (n ≤ 60)) with
  | false => exact back_big1 A n c l k val other hn hl hf w hs
  | true =>
    rcases Nat.lt_or_ge 100 k.size with hk | hk
    · exact back_big2 A n c l k val other hn hl hf hk w hs
    · rcases Nat.lt_or_ge 100 other.size with ho | ho
      · exact back_big3 A n c l k val other hn hl hf hk ho w hs
      · rw [Bool.and_eq_true, decide_eq_true_iff] at hf
        exact back_c A n c l k val other hn hl hf.1 hf.2 hk ho w hs
end Go.Proofs.Try
