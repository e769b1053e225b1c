/- The reference's power, Time, Score, Best (stage 21). -/
import Derived.Test.YtjcclobnpbgmcaaDoorUr
import Derived.Test.YtjcclobnpbgmcaaDoorUo
namespace Go.Proofs.Tryd
open Go.RowKit Go.Sort
set_option linter.unusedVariables false
set_option linter.unusedSimpArgs false
theorem shl_pow (k : Nat) (hk : k ≤ 33) : wShl 1 (k : Int) = ((2 ^ k : Nat) : Int) := by
  have h : ∀ i : Fin 34, wShl 1 ((i.val : Nat) : Int) = ((2 ^ i.val : Nat) : Int) := by decide +kernel
  exact h ⟨k, by omega⟩
set_option maxRecDepth 100000 in
set_option maxHeartbeats 4000000 in
theorem rpow_c (k : Nat) (hk : k ≤ 33) (w : World) :
    Calls Tryd.prog 44 #[.int .u64 (k : Int)] w fun e w' => e = .returned (.int .u64 ((2 ^ k : Nat) : Int)) ∧ Below w.heap.size w w' := by
  have SC := fun W => rshl_c 1 (k : Int) (by omega) (by omega) (by omega) (by omega) W
  rw [shl_pow k hk] at SC
  generalize ((2 ^ k : Nat) : Int) = P at *
  go_enter Tryd.func44, Tryd.ntmps44
  go_wp2_with (go_at_call 60; refine (SC _).mono ?_; rintro e w1 ⟨rfl, rfl⟩)
  go_ret
  exact ⟨rfl, Below.refl _ _⟩
def bestT (l : List Sn) (L : Nat) (m : Int) : Nat → Nat
  | 0 => 0
  | k + 1 => if fitB l L m k = true then k else bestT l L m k
theorem bestT_spec (l : List Sn) (L : Nat) (m : Int) : ∀ k, (bestT l L m k = 0 ∨ (fitB l L m (bestT l L m k) = true ∧ bestT l L m k < k)) ∧ ∀ j, j < k → fitB l L m j = true → j ≤ bestT l L m k
  | 0 => ⟨.inl rfl, fun j hj => by omega⟩
  | k + 1 => by
    have ih := bestT_spec l L m k
    unfold bestT
    by_cases h : fitB l L m k = true
    · rw [if_pos h]
      exact ⟨.inr ⟨h, by omega⟩, fun j hj _ => by omega⟩
    · rw [if_neg h]
      refine ⟨?_, fun j hj hf => ?_⟩
      · rcases ih.1 with h1 | ⟨h1, h2⟩
        · exact .inl h1
        · exact .inr ⟨h1, by omega⟩
      · by_cases e : j = k
        · rw [e] at hf; exact absurd hf h
        · exact ih.2 j (by omega) hf
theorem bestT_time {l : List Sn} (hc : chkN l = true) (L : Nat) (m : Int) : bestT l L m 33 = timeN l L m := by
  obtain ⟨h1, h2⟩ := bestT_spec l L m 33
  have h3 := time_fits hc L m
  have h4 := time_last hc L m
  have h5 := timeN_le l L m
  have h6 : timeN l L m ≤ bestT l L m 33 := by
    rcases h3 with h | h
    · omega
    · exact h2 _ (by omega) h
  rcases Nat.lt_or_ge (timeN l L m) (bestT l L m 33) with h | h
  · rcases h1 with h7 | ⟨h7, h8⟩
    · omega
    · rcases h4 with h9 | h9
      · omega
      · rw [fit_down hc L m (show timeN l L m + 1 ≤ bestT l L m 33 by omega) h7] at h9
        cases h9
  · omega
set_option maxRecDepth 100000 in
set_option maxHeartbeats 8000000 in
theorem rtime_c (v : Value) (n : Nat) (l : List Sn) (L : Nat) (m : Int) (hL : L < 18446744073709551616) (hm : 0 ≤ m) (hm' : m < 18446744073709551616) (w : World) (h : Rows encN 3 w v n l) :
    Calls Tryd.prog 24 #[v, .int .u64 (L : Int), .int .u64 m] w fun e w' => e = .returned (.int .u64 ((timeN l L m : Nat) : Int)) ∧ Below w.heap.size w w' := by
  have CK := fun W h => rcheck_c v n l W h
  have HR := Lib.hid h
  cases hok : chkN l with
  | false =>
    rw [hok] at CK
    have ht : timeN l L m = 0 := by unfold timeN; rw [if_neg (by rw [hok]; simp)]
    rw [ht]
    clear hok ht h
    go_enter Tryd.func24, Tryd.ntmps24
    go_wp2_with (go_at_call 13; refine (CK _ HR.out).mono ?_; rintro e w1 ⟨rfl, hb1⟩)
    go_loopw [8, 9] (fun a i wr => i = .int .u64 0 ∧ a = .int .u64 0 ∧ wr = w1) (fun _ i _ => 0)
    case atStart => exact ⟨rfl, rfl, rfl⟩
    case round =>
      obtain ⟨rfl, rfl, rfl⟩ := hrel
      go_wp2_with fail
      go_ret
      exact ⟨rfl, hb1⟩
  | true =>
    rw [hok] at CK
    rw [← bestT_time hok]
    have HF := Lib.hid (fun k => fitB_fill hok L m k)
    have FC := fun t ht ht' W h => rfill_c v n l L t hL ht ht' W h
    have MC := fun W => rmul_c m 4294967296 hm (by omega) hm' (by omega) W
    obtain ⟨RM, hRM⟩ : ∃ RM, wMul m 4294967296 = RM := ⟨_, rfl⟩
    rw [hRM] at MC
    have HRM := Lib.hid hRM
    clear hok hRM h
    go_enter Tryd.func24, Tryd.ntmps24
    go_wp2_with (go_at_call 13; refine (CK _ HR.out).mono ?_; rintro e w1 ⟨rfl, hb1⟩)
    replace HR := Lib.hid (HR.out.below hb1)
    go_loopw [8, 9] (fun a i wr => ∃ (k : Nat), k ≤ 33 ∧ i = .int .u64 (k : Int) ∧ a = .int .u64 ((bestT l L m k : Nat) : Int) ∧ Hid (Below w1.heap.size w1 wr)) (fun _ i _ => 33 - (intOf i).toNat)
    case atStart => exact ⟨0, by omega, rfl, rfl, Lib.hid (Below.refl _ _)⟩
    case round =>
      obtain ⟨k, hk, rfl, rfl, HB⟩ := hrel
      by_cases hlt : k < 33
      · have hki : (k : Int) ≤ 32 := by omega
        have hkd : decide ((k : Int) ≤ 32) = true := decide_eq_true hki
        obtain ⟨p1, p2⟩ := pow_in k (by omega)
        have PC := fun W => rpow_c k (by omega) W
        have F1 := fun W h => FC ((2 ^ k : Nat) : Int) p1 p2 W h
        have hfb := HF.out k
        rw [HRM.out] at hfb
        have hbt : bestT l L m (k + 1) = if fitB l L m k = true then k else bestT l L m k := rfl
        rw [hfb] at hbt
        generalize fillF l L ((2 ^ k : Nat) : Int) = X at *
        generalize ((2 ^ k : Nat) : Int) = P at *
        clear hfb p1 p2
        have HR2 := Lib.hid (HR.out.below HB.out)
        by_cases hf : X ≤ RM
        · have q1 : decide (X ≤ RM) = true := decide_eq_true hf
          rw [q1, if_pos rfl] at hbt
          have HBT := Lib.hid hbt
          clear hf hbt
          go_wp2_with (first | (go_at_call 44; refine (PC _).mono ?_; rintro e w3 ⟨rfl, hb3⟩; have HB3 := Lib.hid (chain HB.out hb3); replace HR2 := Lib.hid (HR2.out.below hb3); clear hb3) | (go_at_call 20; refine (F1 _ HR2.out).mono ?_; rintro e w4 ⟨rfl, hb4⟩; have HB4 := Lib.hid (chain HB3.out hb4); clear hb4) | (go_at_call 36; refine (MC _).mono ?_; rintro e w5 ⟨rfl, rfl⟩))
          go_roundw
          case rel => exact ⟨k + 1, by omega, by first | rfl | (simp; done) | (rw [wrap_u (k : Int) (by omega)]; rfl), by rw [HBT.out], HB4⟩
          case measure => first | (simp [intOf]; done) | (simp [intOf]; omega)
        · have q1 : decide (X ≤ RM) = false := decide_eq_false hf
          rw [q1, if_neg (by simp)] at hbt
          have HBT := Lib.hid hbt
          clear hf hbt
          go_wp2_with (first | (go_at_call 44; refine (PC _).mono ?_; rintro e w3 ⟨rfl, hb3⟩; have HB3 := Lib.hid (chain HB.out hb3); replace HR2 := Lib.hid (HR2.out.below hb3); clear hb3) | (go_at_call 20; refine (F1 _ HR2.out).mono ?_; rintro e w4 ⟨rfl, hb4⟩; have HB4 := Lib.hid (chain HB3.out hb4); clear hb4) | (go_at_call 36; refine (MC _).mono ?_; rintro e w5 ⟨rfl, rfl⟩))
          go_roundw
          case rel => exact ⟨k + 1, by omega, by first | rfl | (simp; done) | (rw [wrap_u (k : Int) (by omega)]; rfl), by rw [HBT.out], HB4⟩
          case measure => first | (simp [intOf]; done) | (simp [intOf]; omega)
      · have hke : k = 33 := by omega
        subst hke
        go_wp2_with fail
        go_ret
        exact ⟨rfl, chain hb1 HB.out⟩
set_option maxRecDepth 100000 in
set_option maxHeartbeats 8000000 in
theorem rscore_c (v : Value) (n : Nat) (l : List Sn) (L : Nat) (m : Int) (hL : L < 18446744073709551616) (hm : 0 ≤ m) (hm' : m < 18446744073709551616) (w : World) (h : Rows encN 3 w v n l) :
    Calls Tryd.prog 26 #[v, .int .u64 (L : Int), .int .u64 m] w fun e w' => e = .returned (.int .u64 (scoreF l L m)) ∧ Below w.heap.size w w' := by
  have CK := fun W h => rcheck_c v n l W h
  have TC := fun W h => rtime_c v n l L m hL hm hm' W h
  have htn := timeN_le l L m
  have HL := Lib.hid h.len
  have HR := Lib.hid h
  unfold scoreF
  obtain ⟨q, hq⟩ : ∃ q, timeN l L m = q := ⟨_, rfl⟩
  rw [hq] at TC htn ⊢
  have PC := fun W => rpow_c q (by omega) W
  obtain ⟨p1, p2⟩ := pow_in q (by omega)
  generalize ((2 ^ q : Nat) : Int) = t at *
  clear hq
  cases hok : chkN l with
  | false =>
    rw [hok] at CK
    rw [if_neg (by simp)]
    obtain ⟨A, c, rfl, hc, hn, _, hs⟩ := h
    clear hs hok
    go_enter Tryd.func26, Tryd.ntmps26
    go_wp2_with (first | (go_at_call 13; refine (CK _ HR.out).mono ?_; rintro e w1 ⟨rfl, hb1⟩; replace HR := Lib.hid (HR.out.below hb1); have HB1 := Lib.hid hb1; clear hb1) | (go_at_call 24; refine (TC _ HR.out).mono ?_; rintro e w2 ⟨rfl, hb2⟩; have HB2 := Lib.hid (chain HB1.out hb2); clear hb2) | (go_at_call 44; refine (PC _).mono ?_; rintro e w3 ⟨rfl, hb3⟩; have HB3 := Lib.hid (chain HB2.out hb3); clear hb3))
    go_loopw [9, 10] (fun a i wr => i = .int .i64 0 ∧ a = .int .u64 0 ∧ wr = w3) (fun _ i _ => 0)
    case atStart => exact ⟨rfl, rfl, rfl⟩
    case round =>
      obtain ⟨rfl, rfl, rfl⟩ := hrel
      by_cases hz : 0 < n
      · have hzi : (0 : Int) < (n : Int) := by omega
        go_wp2_with fail
        go_ret
        exact ⟨rfl, HB3.out⟩
      · obtain rfl : n = 0 := by omega
        go_wp2_with fail
        go_ret
        exact ⟨rfl, HB3.out⟩
  | true =>
    rw [hok] at CK
    rw [if_pos rfl, HL.out]
    have hn : n ≤ 1000 := by have := (chkN_iff.1 hok).1; rw [h.len] at this; exact this
    have HOK := Lib.hid (fun k hk => mem_nat hok (k := k) hk)
    have HIN := Lib.hid (fun k hk => sumK_in (F := cnF) (l := l) (fun k hk => by obtain ⟨s, X, Y, hp, _⟩ := mem_nat hok hk; rw [hp, cnF_mk]; omega) L t p1 k hk)
    obtain ⟨A, c, rfl, hc, _, _, hs⟩ := h
    have HS := Lib.hid hs
    have PT := fun s X Y hX hY W => rprt_c s X Y hX hY L t hL p1 p2 W
    clear hs hok hc
    go_enter Tryd.func26, Tryd.ntmps26
    go_wp2_with (first | (go_at_call 13; refine (CK _ HR.out).mono ?_; rintro e w1 ⟨rfl, hb1⟩; replace HR := Lib.hid (HR.out.below hb1); have HB1 := Lib.hid hb1; clear hb1) | (go_at_call 24; refine (TC _ HR.out).mono ?_; rintro e w2 ⟨rfl, hb2⟩; have HB2 := Lib.hid (chain HB1.out hb2); clear hb2) | (go_at_call 44; refine (PC _).mono ?_; rintro e w3 ⟨rfl, hb3⟩; have HB3 := Lib.hid (chain HB2.out hb3); clear hb3))
    replace HS := Lib.hid (HS.out.below HB3.out)
    go_loopw [9, 10] (fun a i wr => ∃ (k : Nat), k ≤ n ∧ i = .int .i64 (k : Int) ∧ a = .int .u64 (sumK cnF l L t k) ∧ Hid (Below w3.heap.size w3 wr)) (fun _ i _ => n - (intOf i).toNat)
    case atStart => exact ⟨0, by omega, rfl, rfl, Lib.hid (Below.refl _ _)⟩
    case round =>
      obtain ⟨k, hk, rfl, rfl, HB⟩ := hrel
      by_cases hlt : k < n
      · have hki : (k : Int) < (n : Int) := by omega
        have hs := HS.out.below HB.out
        obtain ⟨b, off, rfl, hbl⟩ := Rows.some hs (by omega)
        obtain ⟨d0, d1, d2, hbz⟩ := hs.seen hlt
        obtain ⟨s, X, Y, hp, hX1, hX2, hY1, hY2⟩ := HOK.out k (by rw [HL.out]; exact hlt)
        have hK : sumK cnF l L t (k + 1) = wAdd (sumK cnF l L t k) (wMul ((Y : Nat) : Int) (shareF (rateF X L Y) t)) := by
          rw [sumK_succ, hp, cnF_mk, rateN_mk]
        have HK := Lib.hid hK
        obtain ⟨i1, i2⟩ := HIN.out k (by rw [HL.out]; exact hk)
        obtain ⟨r1, r2⟩ := rateF_in X L Y
        obtain ⟨-, h2, h3, -⟩ := share_val (rateF X L Y) t r1 p1
        have hz64 : ((Y : Nat) : Int) < 18446744073709551616 := by omega
        obtain ⟨m1, m2⟩ := wMul_in ((Y : Nat) : Int) (shareF (rateF X L Y) t) (Int.natCast_nonneg _) h2
        have P1 := fun W => PT s (X : Int) (Y : Int) (by omega) (by omega) W
        rw [show partF (s, (X : Int), (Y : Int)) L t = shareF (rateF X L Y) t from by unfold partF; dsimp only; rw [if_neg (by omega), Int.toNat_natCast, Int.toNat_natCast]] at P1
        have MC := fun W => rmul_c ((Y : Nat) : Int) (shareF (rateF X L Y) t) (Int.natCast_nonneg _) h2 hz64 (Int.lt_trans h3 (by decide)) W
        have AC := fun W => radd_c (sumK cnF l L t k) (wMul ((Y : Nat) : Int) (shareF (rateF X L Y) t)) i1 m1 i2 m2 W
        rw [hp] at d0 d1 d2
        dsimp only at d0 d1 d2
        clear hs hp hK h2 h3 i1 i2 r1 r2 m1 m2
        generalize shareF (rateF X L Y) t = S at *
        generalize wMul ((Y : Nat) : Int) S = U at *
        generalize sumK cnF l L t k = T at *
        obtain ⟨V, hV⟩ : ∃ V, wAdd T U = V := ⟨_, rfl⟩
        rw [hV] at AC HK
        clear hV
        go_wp2_with fail
        (refine region_later (by kernel_rfl) (by kernel_rfl) ?_); (intro hlat); (repeat (go_big_quiet_step ((first | (go_at_call 18; with_reducible exact later_call (P1 _)) | (go_at_call 36; with_reducible exact later_same (MC _)) | (go_at_call 41; with_reducible exact later_same (AC _)))))); (refine wpQuiet_nil ?_); (intro W1 hbl); (clear hlat)
        have HB2 := Lib.hid (chain HB.out hbl)
        clear hbl
        go_wp2_with fail
        go_roundw
        case rel => exact ⟨k + 1, by omega, by first | rfl | (rw [wrap_1 k (by omega)]; rfl), by rw [HK.out], HB2⟩
        case measure => first | (simp [intOf]; done) | (simp [intOf]; omega) | (rw [wrap_1 k (by omega)]; simp [intOf]; omega)
      · have hke : k = n := by omega
        subst hke
        go_wp2_with fail
        go_ret
        exact ⟨rfl, chain HB3.out HB.out⟩
end Go.Proofs.Tryd
