/- What a sum tells at a time; Fill, Time, Score (stage 21). -/
import Derived.Test.YtjcclobnpbgmcaaDoorUd
namespace Go.Proofs.Tryd
open Go.RowKit
set_option linter.unusedVariables false
set_option linter.unusedSimpArgs false
/-- The sum over the first members. -/
def sumK (F : Sn → Int) (l : List Sn) (L : Nat) (t : Int) : Nat → Int
  | 0 => 0
  | k + 1 => wAdd (sumK F l L t k) (wMul (F (atN l k)) (shareF (rateN (atN l k) L) t))
theorem wAdd_in' (a b : Int) (ha : 0 ≤ a) (hb : 0 ≤ b) : 0 ≤ wAdd a b ∧ wAdd a b < 18446744073709551616 := by unfold wAdd; split <;> omega
theorem sumK_in {F : Sn → Int} {l : List Sn} (hF : ∀ k, k < l.length → 0 ≤ F (atN l k)) (L : Nat) (t : Int) (ht : 0 ≤ t) (k : Nat) (hk : k ≤ l.length) : 0 ≤ sumK F l L t k ∧ sumK F l L t k < 18446744073709551616 := by
  induction k with
  | zero => exact ⟨by unfold sumK; omega, by unfold sumK; omega⟩
  | succ k ih =>
    have h1 := ih (by omega)
    obtain ⟨r1, r2⟩ := rateF_in (atN l k).2.1.toNat L (atN l k).2.2.toNat
    have h2 := (share_val (rateN (atN l k) L) t r1 ht).2.1
    have h3 := wMul_in (F (atN l k)) (shareF (rateN (atN l k) L) t) (hF k (by omega)) h2
    exact wAdd_in' _ _ h1.1 h3.1
theorem sumK_succ (F : Sn → Int) (l : List Sn) (L : Nat) (t : Int) (k : Nat) : sumK F l L t (k + 1) = wAdd (sumK F l L t k) (wMul (F (atN l k)) (shareF (rateN (atN l k) L) t)) := by rw [sumK]
def szF (s : Sn) : Int := s.2.1
def cnF (s : Sn) : Int := s.2.2
theorem szF_mk (s : ByteArray) (x y : Int) : szF (s, x, y) = x := rfl
theorem cnF_mk (s : ByteArray) (x y : Int) : cnF (s, x, y) = y := rfl
theorem rateN_mk (s : ByteArray) (X Y L : Nat) : rateN (s, (X : Int), (Y : Int)) L = rateF X L Y := by
  unfold rateN
  dsimp only
  rw [Int.toNat_natCast, Int.toNat_natCast]
set_option maxRecDepth 100000 in
set_option maxHeartbeats 4000000 in
theorem size_c (s : ByteArray) (X Y : Nat) (hX : X ≤ 4096) (hY : Y ≤ 1000) (w : World) :
    Calls Tryd.prog 40 #[.agg #[.string s, .int .i64 (X : Int), .int .i64 (Y : Int)]] w fun e w' => e = .returned (.int .u64 (X : Int)) ∧ Below w.heap.size w w' := by
  have OC := fun W => of_c (X : Int) (by omega) (by omega) W
  have e0 : wOf (X : Int) = (X : Int) := by unfold wOf; rw [if_neg (by omega)]
  rw [e0] at OC
  clear e0
  go_enter Tryd.func40, Tryd.ntmps40
  go_wp2_with (go_at_call 56; refine (OC _).mono ?_; rintro e w1 ⟨rfl, rfl⟩)
  go_ret
  exact ⟨rfl, by (repeat' (first | (with_reducible exact Below.refl _ _) | (with_reducible assumption) | (with_reducible refine Below.alloc ?_ ?_ _) | (with_reducible refine Below.drew ?_) | (with_reducible refine Below_drewN ?_ _) | (with_reducible refine Below.setCell ?_ ?_ _) | (refine Below.step (B' := ?_) (b := ?_) ?_ ?_ ?_; rotate_left 2; (with_reducible assumption)) | go_size))⟩
set_option maxRecDepth 100000 in
set_option maxHeartbeats 4000000 in
theorem count_c (s : ByteArray) (X Y : Nat) (hX : X ≤ 4096) (hY : Y ≤ 1000) (w : World) :
    Calls Tryd.prog 45 #[.agg #[.string s, .int .i64 (X : Int), .int .i64 (Y : Int)]] w fun e w' => e = .returned (.int .u64 (Y : Int)) ∧ Below w.heap.size w w' := by
  have OC := fun W => of_c (Y : Int) (by omega) (by omega) W
  have e0 : wOf (Y : Int) = (Y : Int) := by unfold wOf; rw [if_neg (by omega)]
  rw [e0] at OC
  clear e0
  go_enter Tryd.func45, Tryd.ntmps45
  go_wp2_with (go_at_call 56; refine (OC _).mono ?_; rintro e w1 ⟨rfl, rfl⟩)
  go_ret
  exact ⟨rfl, by (repeat' (first | (with_reducible exact Below.refl _ _) | (with_reducible assumption) | (with_reducible refine Below.alloc ?_ ?_ _) | (with_reducible refine Below.drew ?_) | (with_reducible refine Below_drewN ?_ _) | (with_reducible refine Below.setCell ?_ ?_ _) | (refine Below.step (B' := ?_) (b := ?_) ?_ ?_ ?_; rotate_left 2; (with_reducible assumption)) | go_size))⟩
set_option maxRecDepth 100000 in
set_option maxHeartbeats 8000000 in
theorem fillc_c (v : Value) (n : Nat) (l : List Sn) (L : Nat) (t : Int) (ht : 0 ≤ t) (ht' : t < 18446744073709551616) (hok : chkN l = true) (B : Nat) (w : World) (h : Rows encN 3 w v n l) (hS : SumC w B v (.func (.func 40) #[] #[]) n l L) :
    Calls Tryd.prog 54 #[.int .u64 t, .pointer (some ⟨B, 0, none⟩), .pointer (some ⟨B + 1, 0, none⟩), .pointer (some ⟨B + 2, 0, none⟩)] w fun e w' => e = .returned (.int .u64 (sumK szF l L t n)) ∧ Below w.heap.size w w' := by
  have HL := Lib.hid h.len
  have hn : n ≤ 1000 := by have := (chkN_iff.1 hok).1; rw [h.len] at this; exact this
  have HOK := Lib.hid (fun k hk => mem_nat hok (k := k) hk)
  have HIN := Lib.hid (fun k hk => sumK_in (F := szF) (l := l) (fun k hk => by obtain ⟨s, X, Y, hp, _⟩ := mem_nat hok hk; rw [hp, szF_mk]; omega) L t ht k hk)
  obtain ⟨A, c, rfl, hc, _, _, hs⟩ := h
  obtain ⟨s1, s2, ⟨A', c', s3, s4⟩, s5⟩ := hS
  have HS := Lib.hid hs
  have HR := Lib.hid s4
  have OC := fun s X Y hX hY W => size_c s X Y hX hY W
  have hB1 : B + 1 < w.heap.size := by omega
  have hB0 : B < w.heap.size := by omega
  clear hs s4 hok hc
  go_enter Tryd.func54, Tryd.ntmps54
  go_wp2_with fail
  go_loopw [6, 11] (fun a i wr => ∃ (k : Nat), k ≤ n ∧ i = .int .i64 k ∧ a = .int .u64 (sumK szF l L t k) ∧ Hid (Below w.heap.size w wr)) (fun _ i _ => n - (intOf i).toNat)
  case atStart => exact ⟨0, by omega, rfl, rfl, Lib.hid (Below.refl _ _)⟩
  case round =>
    obtain ⟨k, hk, rfl, rfl, HB⟩ := hrel
    by_cases hlt : k < n
    · have hki : (k : Int) < (n : Int) := by omega
      have hs := HS.out.below HB.out
      obtain ⟨b, off, rfl, hbl⟩ := Rows.some hs (by omega)
      obtain ⟨d0, d1, d2, hbz⟩ := hs.seen hlt
      obtain ⟨s, X, Y, hp, hX1, hX2, hY1, hY2⟩ := HOK.out k (by rw [HL.out]; exact hlt)
      have hbsz := HB.out.size
      have hr := HR.out.below HB.out
      obtain ⟨br, offr, rfl, hbr, _⟩ := hr.2.resolve_left (by omega)
      have q0 := hr.int hlt
      have hrt : (ratesN l L).getD k 0 = rateF X L Y := by
        unfold ratesN
        rw [List.getD_eq_getElem?_getD, List.getElem?_map, atN_some (by rw [HL.out]; exact hlt), hp, Option.map_some, Option.getD_some, rateN_mk]
      rw [hrt] at q0
      have hK : sumK szF l L t (k + 1) = wAdd (sumK szF l L t k) (wMul ((X : Nat) : Int) (shareF (rateF X L Y) t)) := by
        rw [sumK_succ, hp, szF_mk, rateN_mk]
      have HK := Lib.hid hK
      obtain ⟨i1, i2⟩ := HIN.out k (by rw [HL.out]; exact hk)
      obtain ⟨r1, r2⟩ := rateF_in X L Y
      obtain ⟨-, h2, h3, -⟩ := share_val (rateF X L Y) t r1 ht
      have hz64 : ((X : Nat) : Int) < 18446744073709551616 := by omega
      obtain ⟨m1, m2⟩ := wMul_in ((X : Nat) : Int) (shareF (rateF X L Y) t) (Int.natCast_nonneg _) h2
      have SC := fun W => share_c (rateF X L Y) t r1 ht r2 ht' W
      have MC := fun W => mul_c ((X : Nat) : Int) (shareF (rateF X L Y) t) (Int.natCast_nonneg _) h2 hz64 (Int.lt_trans h3 (by decide)) W
      have AC := fun W => add_c (sumK szF l L t k) (wMul ((X : Nat) : Int) (shareF (rateF X L Y) t)) i1 m1 i2 m2 W
      have O1 := fun W => OC s X Y hX2 hY2 W
      rw [hp] at d0 d1 d2
      dsimp only at d0 d1 d2
      have t1 := (HB.out.cell (p := ⟨B, 0, none⟩) hB0).trans s1
      have t2 := (HB.out.cell (p := ⟨B + 1, 0, none⟩) hB1).trans s2
      have t3 := (HB.out.cell (p := ⟨B + 2, 0, none⟩) s5).trans s3
      clear hp hs hr hrt hK
      generalize sumK szF l L t k = S0 at *
      generalize shareF (rateF X L Y) t = SH at *
      generalize wMul ((X : Nat) : Int) SH = MM at *
      generalize rateF X L Y = RR at *
      go_wp2_with fail
      have k0 : (wr.alloc (.cells #[.string s, .int .i64 (X : Int), .int .i64 (Y : Int)] 25)).cell? ⟨wr.heap.size, 0, none⟩ = some (.string s) := by go_simp
      have k1 : (wr.alloc (.cells #[.string s, .int .i64 (X : Int), .int .i64 (Y : Int)] 25)).cell? ⟨wr.heap.size, 1, none⟩ = some (.int .i64 (X : Int)) := by go_simp
      have k2 : (wr.alloc (.cells #[.string s, .int .i64 (X : Int), .int .i64 (Y : Int)] 25)).cell? ⟨wr.heap.size, 2, none⟩ = some (.int .i64 (Y : Int)) := by go_simp
      have kb := (Below.refl wr.heap.size wr).alloc (Nat.le_refl _) (.cells #[.string s, .int .i64 (X : Int), .int .i64 (Y : Int)] 25)
      replace t2 := (kb.cell (p := ⟨B + 1, 0, none⟩) (by show B + 1 < _; omega)).trans t2
      replace t3 := (kb.cell (p := ⟨B + 2, 0, none⟩) (by show B + 2 < _; omega)).trans t3
      replace q0 := (kb.cell (p := ⟨br, offr + k, none⟩) hbr).trans q0
      have HBV := Lib.hid (chain1 HB.out (.cells #[.string s, .int .i64 (X : Int), .int .i64 (Y : Int)] 25))
      have hzV := HBV.out.size
      have hzW := kb.size
      obtain ⟨b9, hb9⟩ : ∃ b9, wr.heap.size = b9 := ⟨_, rfl⟩
      have h9 : b9 < (wr.alloc (.cells #[.string s, .int .i64 (X : Int), .int .i64 (Y : Int)] 25)).heap.size := by simp; omega
      have y2 : B + 1 < (wr.alloc (.cells #[.string s, .int .i64 (X : Int), .int .i64 (Y : Int)] 25)).heap.size := by omega
      have y3 : B + 2 < (wr.alloc (.cells #[.string s, .int .i64 (X : Int), .int .i64 (Y : Int)] 25)).heap.size := by omega
      have y4 : br < (wr.alloc (.cells #[.string s, .int .i64 (X : Int), .int .i64 (Y : Int)] 25)).heap.size := by omega
      rw [hb9] at k0 k1 k2 ⊢
      clear hb9 kb d0 d1 d2 t1
      generalize wr.alloc (.cells #[.string s, .int .i64 (X : Int), .int .i64 (Y : Int)] 25) = V at *
      (refine region_later (by kernel_rfl) (by kernel_rfl) ?_); (intro hlat); (repeat (go_big_quiet_step ((first | (go_at_call 40; exact later_call (O1 _)) | (go_at_call 34; exact later_call (SC _)) | (go_at_call 43; exact later_same (MC _)) | (go_at_call 55; exact later_same (AC _)))))); (refine wpQuiet_nil ?_); (intro W1 hb1); (clear hlat)
      have HB1 := Lib.hid (chain HBV.out hb1)
      clear hb1
      go_wp2_with fail
      exact ⟨⟨k + 1, by omega, by first | rfl | (rw [wrap_1 k (by omega)]; rfl), by rw [HK.out], HB1⟩, by first | (simp [intOf]; done) | (simp [intOf]; omega) | (rw [wrap_1 k (by omega)]; simp [intOf]; omega)⟩
    · have hke : k = n := by omega
      subst hke
      go_wp2_with fail
      go_ret
      exact ⟨rfl, HB.out⟩
set_option maxRecDepth 100000 in
set_option maxHeartbeats 8000000 in
theorem scorec_c (v : Value) (n : Nat) (l : List Sn) (L : Nat) (t : Int) (ht : 0 ≤ t) (ht' : t < 18446744073709551616) (hok : chkN l = true) (B : Nat) (w : World) (h : Rows encN 3 w v n l) (hS : SumC w B v (.func (.func 45) #[] #[]) n l L) :
    Calls Tryd.prog 54 #[.int .u64 t, .pointer (some ⟨B, 0, none⟩), .pointer (some ⟨B + 1, 0, none⟩), .pointer (some ⟨B + 2, 0, none⟩)] w fun e w' => e = .returned (.int .u64 (sumK cnF l L t n)) ∧ Below w.heap.size w w' := by
  have HL := Lib.hid h.len
  have hn : n ≤ 1000 := by have := (chkN_iff.1 hok).1; rw [h.len] at this; exact this
  have HOK := Lib.hid (fun k hk => mem_nat hok (k := k) hk)
  have HIN := Lib.hid (fun k hk => sumK_in (F := cnF) (l := l) (fun k hk => by obtain ⟨s, X, Y, hp, _⟩ := mem_nat hok hk; rw [hp, cnF_mk]; omega) L t ht k hk)
  obtain ⟨A, c, rfl, hc, _, _, hs⟩ := h
  obtain ⟨s1, s2, ⟨A', c', s3, s4⟩, s5⟩ := hS
  have HS := Lib.hid hs
  have HR := Lib.hid s4
  have OC := fun s X Y hX hY W => count_c s X Y hX hY W
  have hB1 : B + 1 < w.heap.size := by omega
  have hB0 : B < w.heap.size := by omega
  clear hs s4 hok hc
  go_enter Tryd.func54, Tryd.ntmps54
  go_wp2_with fail
  go_loopw [6, 11] (fun a i wr => ∃ (k : Nat), k ≤ n ∧ i = .int .i64 k ∧ a = .int .u64 (sumK cnF l L t k) ∧ Hid (Below w.heap.size w wr)) (fun _ i _ => n - (intOf i).toNat)
  case atStart => exact ⟨0, by omega, rfl, rfl, Lib.hid (Below.refl _ _)⟩
  case round =>
    obtain ⟨k, hk, rfl, rfl, HB⟩ := hrel
    by_cases hlt : k < n
    · have hki : (k : Int) < (n : Int) := by omega
      have hs := HS.out.below HB.out
      obtain ⟨b, off, rfl, hbl⟩ := Rows.some hs (by omega)
      obtain ⟨d0, d1, d2, hbz⟩ := hs.seen hlt
      obtain ⟨s, X, Y, hp, hX1, hX2, hY1, hY2⟩ := HOK.out k (by rw [HL.out]; exact hlt)
      have hbsz := HB.out.size
      have hr := HR.out.below HB.out
      obtain ⟨br, offr, rfl, hbr, _⟩ := hr.2.resolve_left (by omega)
      have q0 := hr.int hlt
      have hrt : (ratesN l L).getD k 0 = rateF X L Y := by
        unfold ratesN
        rw [List.getD_eq_getElem?_getD, List.getElem?_map, atN_some (by rw [HL.out]; exact hlt), hp, Option.map_some, Option.getD_some, rateN_mk]
      rw [hrt] at q0
      have hK : sumK cnF l L t (k + 1) = wAdd (sumK cnF l L t k) (wMul ((Y : Nat) : Int) (shareF (rateF X L Y) t)) := by
        rw [sumK_succ, hp, cnF_mk, rateN_mk]
      have HK := Lib.hid hK
      obtain ⟨i1, i2⟩ := HIN.out k (by rw [HL.out]; exact hk)
      obtain ⟨r1, r2⟩ := rateF_in X L Y
      obtain ⟨-, h2, h3, -⟩ := share_val (rateF X L Y) t r1 ht
      have hz64 : ((Y : Nat) : Int) < 18446744073709551616 := by omega
      obtain ⟨m1, m2⟩ := wMul_in ((Y : Nat) : Int) (shareF (rateF X L Y) t) (Int.natCast_nonneg _) h2
      have SC := fun W => share_c (rateF X L Y) t r1 ht r2 ht' W
      have MC := fun W => mul_c ((Y : Nat) : Int) (shareF (rateF X L Y) t) (Int.natCast_nonneg _) h2 hz64 (Int.lt_trans h3 (by decide)) W
      have AC := fun W => add_c (sumK cnF l L t k) (wMul ((Y : Nat) : Int) (shareF (rateF X L Y) t)) i1 m1 i2 m2 W
      have O1 := fun W => OC s X Y hX2 hY2 W
      rw [hp] at d0 d1 d2
      dsimp only at d0 d1 d2
      have t1 := (HB.out.cell (p := ⟨B, 0, none⟩) hB0).trans s1
      have t2 := (HB.out.cell (p := ⟨B + 1, 0, none⟩) hB1).trans s2
      have t3 := (HB.out.cell (p := ⟨B + 2, 0, none⟩) s5).trans s3
      clear hp hs hr hrt hK
      generalize sumK cnF l L t k = S0 at *
      generalize shareF (rateF X L Y) t = SH at *
      generalize wMul ((Y : Nat) : Int) SH = MM at *
      generalize rateF X L Y = RR at *
      go_wp2_with fail
      have k0 : (wr.alloc (.cells #[.string s, .int .i64 (X : Int), .int .i64 (Y : Int)] 25)).cell? ⟨wr.heap.size, 0, none⟩ = some (.string s) := by go_simp
      have k1 : (wr.alloc (.cells #[.string s, .int .i64 (X : Int), .int .i64 (Y : Int)] 25)).cell? ⟨wr.heap.size, 1, none⟩ = some (.int .i64 (X : Int)) := by go_simp
      have k2 : (wr.alloc (.cells #[.string s, .int .i64 (X : Int), .int .i64 (Y : Int)] 25)).cell? ⟨wr.heap.size, 2, none⟩ = some (.int .i64 (Y : Int)) := by go_simp
      have kb := (Below.refl wr.heap.size wr).alloc (Nat.le_refl _) (.cells #[.string s, .int .i64 (X : Int), .int .i64 (Y : Int)] 25)
      replace t2 := (kb.cell (p := ⟨B + 1, 0, none⟩) (by show B + 1 < _; omega)).trans t2
      replace t3 := (kb.cell (p := ⟨B + 2, 0, none⟩) (by show B + 2 < _; omega)).trans t3
      replace q0 := (kb.cell (p := ⟨br, offr + k, none⟩) hbr).trans q0
      have HBV := Lib.hid (chain1 HB.out (.cells #[.string s, .int .i64 (X : Int), .int .i64 (Y : Int)] 25))
      have hzV := HBV.out.size
      have hzW := kb.size
      obtain ⟨b9, hb9⟩ : ∃ b9, wr.heap.size = b9 := ⟨_, rfl⟩
      have h9 : b9 < (wr.alloc (.cells #[.string s, .int .i64 (X : Int), .int .i64 (Y : Int)] 25)).heap.size := by simp; omega
      have y2 : B + 1 < (wr.alloc (.cells #[.string s, .int .i64 (X : Int), .int .i64 (Y : Int)] 25)).heap.size := by omega
      have y3 : B + 2 < (wr.alloc (.cells #[.string s, .int .i64 (X : Int), .int .i64 (Y : Int)] 25)).heap.size := by omega
      have y4 : br < (wr.alloc (.cells #[.string s, .int .i64 (X : Int), .int .i64 (Y : Int)] 25)).heap.size := by omega
      rw [hb9] at k0 k1 k2 ⊢
      clear hb9 kb d0 d1 d2 t1
      generalize wr.alloc (.cells #[.string s, .int .i64 (X : Int), .int .i64 (Y : Int)] 25) = V at *
      (refine region_later (by kernel_rfl) (by kernel_rfl) ?_); (intro hlat); (repeat (go_big_quiet_step ((first | (go_at_call 45; exact later_call (O1 _)) | (go_at_call 34; exact later_call (SC _)) | (go_at_call 43; exact later_same (MC _)) | (go_at_call 55; exact later_same (AC _)))))); (refine wpQuiet_nil ?_); (intro W1 hb1); (clear hlat)
      have HB1 := Lib.hid (chain HBV.out hb1)
      clear hb1
      go_wp2_with fail
      exact ⟨⟨k + 1, by omega, by first | rfl | (rw [wrap_1 k (by omega)]; rfl), by rw [HK.out], HB1⟩, by first | (simp [intOf]; done) | (simp [intOf]; omega) | (rw [wrap_1 k (by omega)]; simp [intOf]; omega)⟩
    · have hke : k = n := by omega
      subst hke
      go_wp2_with fail
      go_ret
      exact ⟨rfl, HB.out⟩
end Go.Proofs.Tryd
