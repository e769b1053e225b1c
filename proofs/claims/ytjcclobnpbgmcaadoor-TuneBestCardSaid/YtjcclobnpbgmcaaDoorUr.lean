/- The reference's Fill (stage 21). -/
import Derived.Test.YtjcclobnpbgmcaaDoorUq
namespace Go.Proofs.Tryd
open Go.RowKit Go.Sort
set_option linter.unusedVariables false
set_option linter.unusedSimpArgs false
set_option maxRecDepth 100000 in
set_option maxHeartbeats 8000000 in
theorem rfill_c (v : Value) (n : Nat) (l : List Sn) (L : Nat) (t : Int) (hL : L < 18446744073709551616) (ht : 0 ≤ t) (ht' : t < 18446744073709551616) (w : World) (h : Rows encN 3 w v n l) :
    Calls Tryd.prog 20 #[v, .int .u64 (L : Int), .int .u64 t] w fun e w' => e = .returned (.int .u64 (fillF l L t)) ∧ Below w.heap.size w w' := by
  have CK := fun W h => rcheck_c v n l W h
  have HL := Lib.hid h.len
  have HR := Lib.hid h
  unfold fillF
  cases hok : chkN l with
  | false =>
    rw [hok] at CK
    rw [if_neg (by simp)]
    obtain ⟨A, c, rfl, hc, hn, _, hs⟩ := h
    clear hs hok
    go_enter Tryd.func20, Tryd.ntmps20
    go_wp2_with (go_at_call 13; refine (CK _ HR.out).mono ?_; rintro e w1 ⟨rfl, hb1⟩)
    go_loopw [8, 9] (fun a i wr => i = .int .i64 0 ∧ a = .int .u64 0 ∧ wr = w1) (fun _ i _ => 0)
    case atStart => exact ⟨rfl, rfl, rfl⟩
    case round =>
      obtain ⟨rfl, rfl, rfl⟩ := hrel
      by_cases hz : 0 < n
      · have hzi : (0 : Int) < (n : Int) := by omega
        go_wp2_with fail
        go_ret
        exact ⟨rfl, hb1⟩
      · obtain rfl : n = 0 := by omega
        go_wp2_with fail
        go_ret
        exact ⟨rfl, hb1⟩
  | true =>
    rw [hok] at CK
    rw [if_pos rfl, HL.out]
    have hn : n ≤ 1000 := by have := (chkN_iff.1 hok).1; rw [h.len] at this; exact this
    have HOK := Lib.hid (fun k hk => mem_nat hok (k := k) hk)
    have HIN := Lib.hid (fun k hk => sumK_in (F := szF) (l := l) (fun k hk => by obtain ⟨s, X, Y, hp, _⟩ := mem_nat hok hk; rw [hp, szF_mk]; omega) L t ht k hk)
    obtain ⟨A, c, rfl, hc, _, _, hs⟩ := h
    have HS := Lib.hid hs
    have PC := fun s X Y hX hY W => rprt_c s X Y hX hY L t hL ht ht' W
    clear hs hok hc
    go_enter Tryd.func20, Tryd.ntmps20
    go_wp2_with (go_at_call 13; refine (CK _ HR.out).mono ?_; rintro e w1 ⟨rfl, hb1⟩)
    replace HS := Lib.hid (HS.out.below hb1)
    go_loopw [8, 9] (fun a i wr => ∃ (k : Nat), k ≤ n ∧ i = .int .i64 (k : Int) ∧ a = .int .u64 (sumK szF l L t k) ∧ Hid (Below w1.heap.size w1 wr)) (fun _ i _ => n - (intOf i).toNat)
    case atStart => exact ⟨0, by omega, rfl, rfl, Lib.hid (Below.refl _ _)⟩
    case round =>
      obtain ⟨k, hk, rfl, rfl, HB⟩ := hrel
      by_cases hlt : k < n
      · have hki : (k : Int) < (n : Int) := by omega
        have hs := HS.out.below HB.out
        obtain ⟨b, off, rfl, hbl⟩ := Rows.some hs (by omega)
        obtain ⟨d0, d1, d2, hbz⟩ := hs.seen hlt
        obtain ⟨s, X, Y, hp, hX1, hX2, hY1, hY2⟩ := HOK.out k (by rw [HL.out]; exact hlt)
        have hK : sumK szF l L t (k + 1) = wAdd (sumK szF l L t k) (wMul ((X : Nat) : Int) (shareF (rateF X L Y) t)) := by
          rw [sumK_succ, hp, szF_mk, rateN_mk]
        have HK := Lib.hid hK
        obtain ⟨i1, i2⟩ := HIN.out k (by rw [HL.out]; exact hk)
        obtain ⟨r1, r2⟩ := rateF_in X L Y
        obtain ⟨-, h2, h3, -⟩ := share_val (rateF X L Y) t r1 ht
        have hz64 : ((X : Nat) : Int) < 18446744073709551616 := by omega
        obtain ⟨m1, m2⟩ := wMul_in ((X : Nat) : Int) (shareF (rateF X L Y) t) (Int.natCast_nonneg _) h2
        have P1 := fun W => PC s (X : Int) (Y : Int) (by omega) (by omega) W
        rw [show partF (s, (X : Int), (Y : Int)) L t = shareF (rateF X L Y) t from by unfold partF; dsimp only; rw [if_neg (by omega), Int.toNat_natCast, Int.toNat_natCast]] at P1
        have MC := fun W => rmul_c ((X : Nat) : Int) (shareF (rateF X L Y) t) (Int.natCast_nonneg _) h2 hz64 (Int.lt_trans h3 (by decide)) W
        have AC := fun W => radd_c (sumK szF l L t k) (wMul ((X : Nat) : Int) (shareF (rateF X L Y) t)) i1 m1 i2 m2 W
        rw [hp] at d0 d1 d2
        dsimp only at d0 d1 d2
        clear hs hp hK h2 h3 i1 i2 r1 r2 m1 m2
        generalize shareF (rateF X L Y) t = S at *
        generalize wMul ((X : Nat) : Int) S = U at *
        generalize sumK szF l L t k = T at *
        obtain ⟨V, hV⟩ : ∃ V, wAdd T U = V := ⟨_, rfl⟩
        rw [hV] at AC HK
        clear hV
        go_wp2_with fail
        (refine region_later (by kernel_rfl) (by kernel_rfl) ?_); (intro hlat); (repeat (go_big_quiet_step ((first | (go_at_call 18; with_reducible exact later_call (P1 _)) | (go_at_call 36; with_reducible exact later_same (MC _)) | (go_at_call 41; with_reducible exact later_same (AC _)))))); (refine wpQuiet_nil ?_); (intro W1 hbl); (clear hlat)
        have HB2 := Lib.hid (chain HB.out hbl)
        clear hbl
        go_wp2_with fail
        go_roundw
        case rel => exact ⟨k + 1, by omega, by first | rfl | (rw [wrap_1 k (by omega)]; rfl), by rw [HK.out], HB2⟩
        case measure => first | (simp [intOf]; done) | (simp [intOf]; omega) | (rw [wrap_1 k (by omega)]; simp [intOf]; omega)
      · have hke : k = n := by omega
        subst hke
        go_wp2_with fail
        go_ret
        exact ⟨rfl, chain hb1 HB.out⟩
end Go.Proofs.Tryd
