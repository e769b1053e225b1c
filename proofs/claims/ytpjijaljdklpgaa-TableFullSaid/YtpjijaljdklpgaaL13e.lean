/- The walk of TableFull. -/
import Derived.Test.YtpjijaljdklpgaaL13a
import Derived.Laws.BytesArg
namespace Go.Proofs.Try
open Go.RowKit Go.Maps Go.Sort
set_option linter.unusedVariables false
set_option linter.unusedSimpArgs false
/-- The key of a number. -/
def kF (i : Nat) : ByteArray := ⟨#[UInt8.ofNat (97 + i / 10), UInt8.ofNat (48 + i % 10)]⟩
theorem kF_inj {i j : Nat} (hi : i < 120) (hj : j < 120) (h : kF i = kF j) : i = j := by
  unfold kF at h
  injection h with h
  injection h with h
  simp only [List.cons.injEq, and_true] at h
  have h1 := congrArg UInt8.toNat h.1
  have h2 := congrArg UInt8.toNat h.2
  simp only [UInt8.toNat_ofNat'] at h1 h2
  omega
theorem kF_key (i : Nat) : isKey (kF i) = true := by
  unfold isKey kF
  exact decide_eq_true ⟨Nat.le_add_left 1 1, by show 2 ≤ 16; omega⟩
theorem conv_kF (j : Nat) (W : World) (t : TypeId) : (convert 42 9 (.slice (some ⟨W.heap.size, 0, none⟩) 2 2)).run Try.prog (W.alloc (.cells #[.int .u8 (97 + (j : Int) / 10), .int .u8 (48 + (j : Int) % 10)] t)) = .ok (.string (kF j)) (W.alloc (.cells #[.int .u8 (97 + (j : Int) / 10), .int .u8 (48 + (j : Int) % 10)] t)) := by
  have h := run_convert_bytes_arg (P := Try.prog) (W.alloc (.cells #[.int .u8 (97 + (j : Int) / 10), .int .u8 (48 + (j : Int) % 10)] t)) 42 5 Try.underlying42 (by kernel_rfl) W.heap.size 0 2 2 [97 + (j : Int) / 10, 48 + (j : Int) % 10] rfl (fun i hi => by
    rcases (by omega : i = 0 ∨ i = 1) with rfl | rfl
    · go_simp
    · go_simp) 9 Try.underlying9
  rw [h]
  have e : strOfNums [97 + (j : Int) / 10, 48 + (j : Int) % 10] = kF j := by
    unfold strOfNums kF
    have e1 : (97 + (j : Int) / 10).toNat = 97 + j / 10 := by omega
    have e2 : (48 + (j : Int) % 10).toNat = 48 + j % 10 := by omega
    simp only [List.map_cons, List.map_nil, e1, e2]
  rw [e]
structure FullI (l : List Pl) (j : Nat) : Prop where
  ok : OkL l
  val : ∀ i, i < j → valL l (kF i) = some (i : Int)
  only : ∀ k, valL l k ≠ none → ∃ i, i < j ∧ k = kF i
  full : fullN l = j
theorem full_start : FullI (noPl 128) 0 := ⟨ok_new, fun i hi => by omega, fun k h => absurd (val_new k) h, full_new⟩
theorem full_next {l : List Pl} {j : Nat} (h : FullI l j) (hj : j < 96) : (putL l (kF j) (j : Int)).2 = 0 ∧ FullI (putL l (kF j) (j : Int)).1 (j + 1) := by
  have he := put_fine h.ok (v := (j : Int)) (kF_key j) (by rw [h.full]; exact hj)
  have hv := put_val h.ok he
  have hn : valL l (kF j) = none := by
    cases hx : valL l (kF j) with
    | none => rfl
    | some v =>
      obtain ⟨i, hi, e⟩ := h.only _ (by rw [hx]; simp)
      have := kF_inj (by omega) (by omega) e
      omega
  have hf := put_full h.ok he
  rw [hn, if_pos rfl, h.full] at hf
  refine ⟨he, put_ok h.ok _ _, fun i hi => ?_, fun k hk => ?_, hf⟩
  · rw [hv]
    by_cases e : i = j
    · subst e; rw [if_pos rfl]
    · rw [if_neg (fun e2 => e (kF_inj (by omega) (by omega) e2))]
      exact h.val i (by omega)
  · rw [hv] at hk
    by_cases e : k = kF j
    · exact ⟨j, by omega, e⟩
    · rw [if_neg e] at hk
      obtain ⟨i, hi, h2⟩ := h.only k hk
      exact ⟨i, by omega, h2⟩
theorem full_no {l : List Pl} (h : FullI l 96) {j : Nat} (hj : 96 ≤ j) (hj2 : j < 120) (v : Int) : (putL l (kF j) v).2 = 110 := by
  have hn : valL l (kF j) = none := by
    cases hx : valL l (kF j) with
    | none => rfl
    | some v =>
      obtain ⟨i, hi, e⟩ := h.only _ (by rw [hx]; simp)
      have := kF_inj (by omega) (by omega) e
      omega
  rw [put_err h.ok, if_neg (by rw [kF_key]; simp), if_pos ⟨hn, h.full⟩]
theorem full_over {l : List Pl} {j k : Nat} (h : FullI l j) (hk : k < j) : (putL l (kF k) 1000).2 = 0 ∧ valL (putL l (kF k) 1000).1 (kF k) = some 1000 ∧ fullN (putL l (kF k) 1000).1 = j := by
  have hv := h.val k hk
  have he : (putL l (kF k) 1000).2 = 0 := by
    rw [put_err h.ok, if_neg (by rw [kF_key]; simp), if_neg (by rw [hv]; simp)]
  refine ⟨he, by rw [put_val h.ok he, if_pos rfl], ?_⟩
  rw [put_full h.ok he, hv, if_neg (by simp), h.full]
  rfl
set_option maxRecDepth 100000 in
set_option maxHeartbeats 8000000 in
theorem walk_TableFull (a0 a1 : Int) (w0 : (Lit.int .u8 a0).wf = true) (w1 : (Lit.int .u8 a1).wf = true) (w : World) :
    Calls Try.prog 5 #[.int .u8 a0, .int .u8 a1] w fun e w' => e = .returned (.bool true) ∧ Below w.heap.size w w' := by
  obtain ⟨n0, n1⟩ := bounds_u8 w0
  obtain ⟨m0, m1⟩ := bounds_u8 w1
  obtain ⟨n, rfl⟩ := Int.eq_ofNat_of_zero_le n0
  obtain ⟨m, rfl⟩ := Int.eq_ofNat_of_zero_le m0
  have hN : (n : Int) % 120 = ((n % 120 : Nat) : Int) := by omega
  obtain ⟨q, hq⟩ : ∃ q, n % 120 = q := ⟨_, rfl⟩
  rw [hq] at hN
  have hq2 : q < 120 := by omega
  clear hq w0 w1 n0
  go_enter Try.func5, Try.ntmps5
  go_wp2_with (go_at_call 8; refine (awake13 _).mono ?_; rintro e w1 ⟨rfl, hb1⟩; have HB1 := Lib.hid hb1; clear hb1)
  go_wp2_with fail
  refine (tnew_t _).mono ?_
  rintro e w2 ⟨v2, rfl, ht2, hb2⟩
  have HB2 := Lib.hid (chain HB1.out hb2)
  have HT2 := Lib.hid ht2
  clear hb2 ht2 HB1
  go_wp2_with fail
  clear hN n1
  go_loopw [6, 8] (fun x i wr => ∃ (j : Nat) (lr : List Pl), j ≤ q ∧ i = .int .i64 (j : Int) ∧ Hid (FullI lr (min j 96)) ∧ Hid (Tbl wr x lr) ∧ Hid (Below w2.heap.size w2 wr)) (fun _ i _ => q - (intOf i).toNat)
  case atStart => exact ⟨0, noPl 128, by omega, rfl, Lib.hid full_start, HT2, Lib.hid (Below.refl _ _)⟩
  case round =>
    obtain ⟨j, lr, hj, rfl, HF, HT, HB⟩ := hrel
    by_cases hlt : j < q
    · have hlt' : (j : Int) < (q : Int) := by omega
      have hcv := conv_kF j wr 5
      have PC := fun W h => put_t u6 lr (kF j) (j : Int) W h
      have HT1 := Lib.hid (HT.out.below ((Below.refl wr.heap.size wr).alloc (Nat.le_refl _) (.cells #[.int .u8 (97 + (j : Int) / 10), .int .u8 (48 + (j : Int) % 10)] 5)))
      have HB1 := Lib.hid (chain1 HB.out (.cells #[.int .u8 (97 + (j : Int) / 10), .int .u8 (48 + (j : Int) % 10)] 5))
      by_cases h96 : j < 96
      · have hj1 : decide ((j : Int) < 96) = true := by simp; omega
        have hj2 : decide (j < 96) = true := by simp; omega
        have hj3 : (j : Int) < 96 := by omega
        have hj4 : decide (96 ≤ (j : Int)) = false := by simp; omega
        have hj5 : decide (96 ≤ j) = false := by simp; omega
        have hF := HF.out
        rw [Nat.min_eq_left (by omega)] at hF
        obtain ⟨he, hn⟩ := full_next hF h96
        rw [he] at PC
        have HN : Hid (FullI (putL lr (kF j) (j : Int)).1 (min (j + 1) 96)) := Lib.hid (by rw [Nat.min_eq_left (by omega)]; exact hn)
        clear hF he hn h96
        go_wp2_with fail
        refine (PC _ HT1.out).mono ?_
        rintro e w5 ⟨v5, rfl, ht5, hb5⟩
        have HT5 := Lib.hid ht5
        have HB5 := Lib.hid (chain HB1.out hb5)
        clear ht5 hb5 PC hcv
        go_wp2_with fail
        go_roundw
        case rel => exact ⟨j + 1, _, by omega, by first | rfl | (rw [wrap_suc j (by omega)]; rfl), HN, HT5, HB5⟩
        case measure => first | (simp [intOf]; done) | (simp [intOf]; omega) | (rw [wrap_suc j (by omega)]; simp [intOf]; omega)
      · have hj1 : decide ((j : Int) < 96) = false := by simp; omega
        have hj2 : decide (j < 96) = false := by simp; omega
        have hj3 : ¬((j : Int) < 96) := by omega
        have hj4 : decide (96 ≤ (j : Int)) = true := by simp; omega
        have hj5 : decide (96 ≤ j) = true := by simp; omega
        have hj6 : (96 : Int) ≤ (j : Int) := by omega
        have hF := HF.out
        rw [Nat.min_eq_right (by omega)] at hF
        have he := full_no hF (j := j) (by omega) (by omega) (j : Int)
        rw [he, put_same (by rw [he]; omega)] at PC
        have HN : Hid (FullI lr (min (j + 1) 96)) := Lib.hid (by rw [Nat.min_eq_right (by omega)]; exact hF)
        clear hF he h96
        go_wp2_with fail
        refine (PC _ HT1.out).mono ?_
        rintro e w5 ⟨v5, rfl, ht5, hb5⟩
        have HT5 := Lib.hid ht5
        have HB5 := Lib.hid (chain HB1.out hb5)
        replace HT1 := Lib.hid (HT1.out.below hb5)
        clear ht5 hb5 PC hcv
        go_wp2_with fail
        refine (sameT_c _ _ _ _ HT5.out HT1.out).mono ?_
        rintro e w6 ⟨rfl, hb6⟩
        replace HT5 := Lib.hid (HT5.out.below hb6)
        replace HB5 := Lib.hid (chain HB5.out hb6)
        clear hb6 HT1
        go_wp2_with fail
        go_roundw
        case rel => exact ⟨j + 1, _, by omega, by first | rfl | (rw [wrap_suc j (by omega)]; rfl), HN, HT5, HB5⟩
        case measure => first | (simp [intOf]; done) | (simp [intOf]; omega) | (rw [wrap_suc j (by omega)]; simp [intOf]; omega)
    · have hje : j = q := by omega
      subst hje
      have HBX := Lib.hid (chain HB2.out HB.out)
      clear HB hlt
      by_cases hj0 : j = 0
      · subst hj0
        go_wp2_with fail
        go_ret
        exact ⟨rfl, HBX.out⟩
      · have q1 : ((j : Int) == 0) = false := by simp; omega
        have q2 : decide ((j : Int) = 0) = false := by simp; omega
        obtain ⟨M, hM⟩ : ∃ M, min j 96 = M := ⟨_, rfl⟩
        have hMi : min (j : Int) 96 = (M : Int) := by omega
        have hM0 : 0 < M := by omega
        have hmod : (m : Int) % (M : Int) = ((m % M : Nat) : Int) := by omega
        have hlt : m % M < M := Nat.mod_lt _ hM0
        obtain ⟨k, hk⟩ : ∃ k, m % M = k := ⟨_, rfl⟩
        rw [hk] at hmod hlt
        rw [hM] at HF
        have hk96 : k < 96 := by omega
        obtain ⟨e1, e2, e3⟩ := full_over HF.out hlt
        have PC := fun W h => put_t u6 lr (kF k) 1000 W h
        rw [e1] at PC
        obtain ⟨l1, hl1⟩ : ∃ l1, (putL lr (kF k) 1000).1 = l1 := ⟨_, rfl⟩
        rw [hl1] at PC e2 e3
        have GC := fun v W h => get_t v l1 (kF k) (by have := key_size (kF_key k); omega) W h
        rw [e2] at GC
        dsimp only [Option.getD_some, Option.isSome_some] at GC
        have KC := fun v W h => keys_t v l1 W h
        rw [e3] at KC
        have hcv := conv_kF k wr 5
        have HT1 := Lib.hid (HT.out.below ((Below.refl wr.heap.size wr).alloc (Nat.le_refl _) (.cells #[.int .u8 (97 + (k : Int) / 10), .int .u8 (48 + (k : Int) % 10)] 5)))
        have HB1 := Lib.hid (chain1 HBX.out (.cells #[.int .u8 (97 + (k : Int) / 10), .int .u8 (48 + (k : Int) % 10)] 5))
        have hM2 : ((M : Int) == 0) = false := by simp; omega
        have hM3 : ¬((M : Int) = 0) := by omega
        have hM4 : ¬(M = 0) := by omega
        clear e1 e2 e3 hl1 hk hj0 hM HT HBX
        go_wp2_with fail
        refine (PC _ HT1.out).mono ?_
        rintro e w5 ⟨v5, rfl, ht5, hb5⟩
        have HT5 := Lib.hid (ht5.below ((Below.refl w5.heap.size w5).alloc (Nat.le_refl _) (.cells #[.int .u8 (97 + (k : Int) / 10), .int .u8 (48 + (k : Int) % 10)] 5)))
        have HB5 := Lib.hid (chain1 (chain HB1.out hb5) (.cells #[.int .u8 (97 + (k : Int) / 10), .int .u8 (48 + (k : Int) % 10)] 5))
        replace hcv := conv_kF k w5 5
        clear ht5 hb5 PC HT1 HB1
        go_wp2_with fail
        refine (GC _ _ HT5.out).mono ?_
        rintro e w6 ⟨rfl, hb6⟩
        replace HT5 := Lib.hid (HT5.out.below hb6)
        replace HB5 := Lib.hid (chain HB5.out hb6)
        clear hb6 GC hcv
        go_wp2_with fail
        refine (KC _ _ HT5.out).mono ?_
        rintro e w7 ⟨A7, c7, rfl, hc7, hs7, hb7⟩
        replace HB5 := Lib.hid (chain HB5.out hb7)
        clear hb7 hs7 KC HT5
        go_wp2_with fail
        go_ret
        exact ⟨by first | rfl | (simp; done) | (simp; omega), HB5.out⟩
end Go.Proofs.Try
