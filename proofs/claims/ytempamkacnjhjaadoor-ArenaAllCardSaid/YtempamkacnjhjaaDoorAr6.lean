/- arena.seek. -/
import Derived.Test.YtempamkacnjhjaaDoorAr5
import Derived.Test.YtempamkacnjhjaaDoorDeb
import Derived.Test.YtempamkacnjhjaaDoorPairAt
import Derived.Deep.LoopGhost
namespace Go.Proofs.Tryd
open Go.RowKit
set_option linter.unusedVariables false
set_option linter.unusedSimpArgs false
theorem at_lt {l : List Sg} {c : Int} {i : Nat} (h : (at' l i).2 ≠ 0) : i < l.length := by
  apply Nat.lt_of_not_le
  intro hle
  apply h
  unfold at'
  rw [List.getD_eq_getElem?_getD, List.getElem?_eq_none hle]
  rfl
theorem seekL_hit (l : List Sg) (c : Int) (i : Nat) (hi : i < l.length) (h : (at' l i).1 = c ∧ lz (at' l i).2 64 < slN c) (hb : ∀ m, m < i → ¬((at' l m).1 = c ∧ lz (at' l m).2 64 < slN c)) : seekL l c = some (i, lz (at' l i).2 64) := by
  unfold seekL
  cases hf : seekF l c 0 with
  | none => exact absurd h (seekF_none c l 0 hf i hi)
  | some p =>
    obtain ⟨j, k⟩ := p
    obtain ⟨_, a, b, e, f, g⟩ := seekF_some c l 0 j k hf
    simp only [Nat.sub_zero] at a b e f g
    rcases Nat.lt_trichotomy i j with q | q | q
    · exact absurd h (g i q)
    · subst q; rw [e]
    · exact absurd ⟨b, by rw [← e]; exact f⟩ (hb j q)
theorem seekL_free (l : List Sg) (c : Int) (i : Nat) (hi : i < l.length) (hn : ∀ m, m < l.length → ¬((at' l m).1 = c ∧ lz (at' l m).2 64 < slN c)) (h : (at' l i).1 = -1) (hb : ∀ m, m < i → (at' l m).1 ≠ -1) : seekL l c = some (i, 0) := by
  unfold seekL
  cases hf : seekF l c 0 with
  | some p =>
    obtain ⟨j, k⟩ := p
    obtain ⟨_, a, b, e, f, g⟩ := seekF_some c l 0 j k hf
    simp only [Nat.sub_zero] at a b e f g
    exact absurd ⟨b, by rw [← e]; exact f⟩ (hn j a)
  | none =>
    show freeF l 0 = _
    cases hg : freeF l 0 with
    | none => exact absurd h (freeF_none l 0 hg i hi)
    | some p =>
      obtain ⟨j, k⟩ := p
      obtain ⟨_, a, b, e, g⟩ := freeF_some l 0 j k hg
      simp only [Nat.sub_zero] at a b e g
      rcases Nat.lt_trichotomy i j with q | q | q
      · exact absurd h (g i q)
      · subst q; rw [e]
      · exact absurd b (hb j q)
theorem seekL_none (l : List Sg) (c : Int) (hn : ∀ m, m < l.length → ¬((at' l m).1 = c ∧ lz (at' l m).2 64 < slN c)) (hb : ∀ m, m < l.length → (at' l m).1 ≠ -1) : seekL l c = none := by
  unfold seekL
  cases hf : seekF l c 0 with
  | some p =>
    obtain ⟨j, k⟩ := p
    obtain ⟨_, a, b, e, f, g⟩ := seekF_some c l 0 j k hf
    simp only [Nat.sub_zero] at a b e f g
    exact absurd ⟨b, by rw [← e]; exact f⟩ (hn j a)
  | none =>
    show freeF l 0 = _
    cases hg : freeF l 0 with
    | none => rfl
    | some p =>
      obtain ⟨j, k⟩ := p
      obtain ⟨_, a, b, e, g⟩ := freeF_some l 0 j k hg
      simp only [Nat.sub_zero] at a b e g
      exact absurd b (hb j a)
theorem not_u64 (u : Nat) (hu : u < 18446744073709551616) : bits .xor .u64 IntKind.u64.max (u : Int) = 18446744073709551615 - (u : Int) := by
  have h := bits_xor_u64_nat 18446744073709551615 u (by omega) hu
  have e : (18446744073709551615 ^^^ u) = 18446744073709551615 - u := by
    apply Nat.eq_of_testBit_eq
    intro j
    have hv : (18446744073709551615 - u).testBit j = (decide (j < 64) && !u.testBit j) := by
      have := Nat.testBit_two_pow_sub_succ (x := u) (n := 64) (by omega) j
      rwa [show 2 ^ 64 - (u + 1) = 18446744073709551615 - u by omega] at this
    rw [hv, Nat.testBit_xor, show (18446744073709551615 : Nat) = 2 ^ 64 - 1 by decide, Nat.testBit_two_pow_sub_one]
    by_cases hj : j < 64
    · simp [hj]
    · rw [Nat.testBit_lt_two_pow (Nat.lt_of_lt_of_le (show u < 2 ^ 64 by omega) (Nat.pow_le_pow_right (by omega) (by omega)))]
      simp [hj]
  rw [e] at h
  rw [show IntKind.u64.max = ((18446744073709551615 : Nat) : Int) by rfl, h]
  omega
/-- What seek answers. -/
def skI (o : Option (Nat × Nat)) : Int := match o with | some p => p.1 | none => 0
def skK (o : Option (Nat × Nat)) : Int := match o with | some p => p.2 | none => 0
/-- What was found among the first k segments, where none is of the class. -/
def FoundR (l : List Sg) (k : Nat) (f : Bool) (i : Int) : Prop := (f = false ∧ i = 0 ∧ ∀ m, m < k → (at' l m).1 ≠ -1) ∨ (f = true ∧ ∃ j : Nat, i = (j : Int) ∧ j < k ∧ (at' l j).1 = -1 ∧ ∀ m, m < j → (at' l m).1 ≠ -1)
theorem FoundR.more {l : List Sg} {k : Nat} {F : Bool} {x : Int} (h : FoundR l k F x) (hn : (at' l k).1 ≠ -1) : FoundR l (k + 1) F x := by
  rcases h with ⟨a, b, d⟩ | ⟨a, j, b, d, e, f⟩
  · exact .inl ⟨a, b, fun m hm => by
      by_cases e : m = k
      · rw [e]; exact hn
      · exact d m (by omega)⟩
  · exact .inr ⟨a, j, b, by omega, e, f⟩
theorem FoundR.stay {l : List Sg} {k : Nat} {x : Int} (h : FoundR l k true x) : FoundR l (k + 1) true x := by
  rcases h with ⟨a, b, d⟩ | ⟨a, j, b, d, e, f⟩
  · cases a
  · exact .inr ⟨a, j, b, by omega, e, f⟩
theorem FoundR.hit {l : List Sg} {k : Nat} {x : Int} (h : FoundR l k false x) (he : (at' l k).1 = -1) : FoundR l (k + 1) true (k : Int) := by
  rcases h with ⟨a, b, d⟩ | ⟨a, j, b, d, e, f⟩
  · exact .inr ⟨rfl, k, rfl, by omega, he, d⟩
  · cases a
theorem none_more {l : List Sg} {k : Nat} {c : Int} (h : ∀ m, m < k → ¬((at' l m).1 = c ∧ lz (at' l m).2 64 < slN c)) (hn : ¬((at' l k).1 = c ∧ lz (at' l k).2 64 < slN c)) : ∀ m, m < k + 1 → ¬((at' l m).1 = c ∧ lz (at' l m).2 64 < slN c) := by
  intro m hm
  by_cases e : m = k
  · rw [e]; exact hn
  · exact h m (by omega)
set_option maxRecDepth 100000 in
set_option maxHeartbeats 4000000 in
theorem seek_in (b off n cc : Nat) (l : List Sg) (c : Int) (hc : 0 ≤ c ∧ c ≤ 3) (hn : n ≤ 1000) (hl : l.length = n) (hu : ∀ j, (at' l j).2 < 18446744073709551616) (w : World) (hs : Sees w 2 (some ⟨b, off, none⟩) n (segC l)) (hT : Deb w) :
    Calls Tryd.prog 15 #[.slice (some ⟨b, off, none⟩) n cc, .int .i64 c] w fun e w' => e = .returned (.tuple #[.agg #[.int .i64 (skI (seekL l c)), .int .i64 (skK (seekL l c))], .bool (seekL l c).isSome]) ∧ Below w.heap.size w w' := by
  have HS := Lib.hid hs
  have HT := Lib.hid hT
  have HL := Lib.hid hl
  have HU := Lib.hid hu
  clear hs hT hl hu
  go_enter Tryd.func15, Tryd.ntmps15
  go_wp2_with fail
  go_step3
  go_wp2_with fail
  go_step3
  go_wp2_with fail
  have hz0 : w.heap.size < w.heap.size + 1 + 1 := by omega
  go_loopw [7, 14] (fun f i wr => ∃ (k : Nat) (F : Bool) (x : Int), k ≤ n ∧ i = .int .i64 k ∧ f = .bool F ∧ pairAt wr (w.heap.size + 1) (.int .i64 x) (.int .i64 0) ∧ pairAt wr w.heap.size (.int .i64 0) (.int .i64 0) ∧
     Hid (∀ m, m < k → ¬((at' l m).1 = c ∧ lz (at' l m).2 64 < slN c)) ∧ Hid (FoundR l k F x) ∧ Below w.heap.size w wr) (fun _ i _ => n - (intOf i).toNat)
  case atStart => exact ⟨0, false, 0, by omega, rfl, rfl, pairAt.new' (by simp) _ _ _, (pairAt.new w _ _ _).alloc _, Lib.hid (fun m hm => by omega), Lib.hid (.inl ⟨rfl, rfl, fun m hm => by omega⟩), by (repeat' (first | (with_reducible exact Below.refl _ _) | (with_reducible assumption) | (with_reducible refine Below.alloc ?_ ?_ _) | (with_reducible refine Below.drew ?_) | (with_reducible refine Below_drewN ?_ _) | (with_reducible refine Below.setCell ?_ ?_ _) | (refine Below.step (B' := ?_) (b := ?_) ?_ ?_ ?_; rotate_left 2; (with_reducible assumption)) | go_size))⟩
  case round =>
    obtain ⟨k, F, x, hk, rfl, rfl, hp1, hp0, HA, HF, hb⟩ := hrel
    have HP1 := Lib.hid hp1
    have HP0 := Lib.hid hp0
    have hy1 := hp1.lt
    have hy0 := hp0.lt
    obtain ⟨c0, c1, f0, f1⟩ := hp1
    obtain ⟨d0, d1, g0, g1⟩ := hp0
    have HB := Lib.hid hb
    by_cases hlt : k < n
    · obtain ⟨s0, s1, hbl⟩ := (HS.out.below hb).seg hlt
      have hlt' : (k : Int) < (n : Int) := by omega
      have hTz := tz_c (at' l k).2 (HU.out k)
      have hTD := Lib.hid (HT.out.below hb)
      have hsl := slots_c c
      rw [clsS_sl] at hsl
      clear hb
      by_cases hcc : (at' l k).1 = c
      · by_cases hfit : lz (at' l k).2 64 < slN c
        · have HR := Lib.hid (seekL_hit l c k (by rw [HL.out]; exact hlt) ⟨hcc, hfit⟩ HA.out)
          rw [hcc] at s0
          have hfi : ((lz (at' l k).2 64 : Nat) : Int) < ((slN c : Nat) : Int) := by omega
          clear hfit hcc
          have hx := not_u64 (at' l k).2 (HU.out k)
          have hsg : IntKind.u64.signed = false := rfl
          generalize lz (at' l k).2 64 = z at *
          generalize (at' l k).2 = u at *
          generalize slN c = K at *
          go_wp2_with fail
          have HC9 := hTz (wr.alloc (.cells #[.int .i64 c, .int .u64 (u : Int)] 44)) (hTD.out.below ((Below.refl _ _).alloc (Nat.le_refl _) _))
          with_reducible refine HC9.mono ?_
          rintro e w' ⟨rfl, rfl⟩
          clear HC9
          go_wp2_with fail
          with_reducible refine (hsl _).mono ?_
          rintro e w' ⟨rfl, rfl⟩
          go_wp2_with fail
          rw [Exit.noGoto_ret]
          have hq := (((HP0.out.other (a := ⟨w.heap.size + 1, 0, none⟩) (by simp) (.int .i64 (k : Int))).other (a := ⟨w.heap.size + 1, 1, none⟩) (by simp) (.int .i64 (z : Int))).set (.int .i64 (k : Int)) (.int .i64 (z : Int))).alloc (.cells #[.int .i64 c, .int .u64 (u : Int)] 44)
          obtain ⟨r0, r1, _, _⟩ := hq
          refine bodyPost_ret (by simp [results, Tryd.results15, go_sem, r0, r1]; try rfl) rfl ?_
          refine ⟨by rw [HR.out]; rfl, ?_⟩
          have := HB.out
          (repeat' (first | (with_reducible exact Below.refl _ _) | (with_reducible assumption) | (with_reducible refine Below.alloc ?_ ?_ _) | (with_reducible refine Below.drew ?_) | (with_reducible refine Below_drewN ?_ _) | (with_reducible refine Below.setCell ?_ ?_ _) | (refine Below.step (B' := ?_) (b := ?_) ?_ ?_ ?_; rotate_left 2; (with_reducible assumption)) | go_size))
        · have HA' := Lib.hid (none_more HA.out (fun h => hfit h.2))
          have HF' := Lib.hid (HF.out.more (by omega))
          rw [hcc] at s0
          have hfi : decide (((lz (at' l k).2 64 : Nat) : Int) < ((slN c : Nat) : Int)) = false := by simp; omega
          have hfn : decide (lz (at' l k).2 64 < slN c) = false := by simp; omega
          have hx := not_u64 (at' l k).2 (HU.out k)
          have hsg : IntKind.u64.signed = false := rfl
          clear hfit hcc HF HA
          obtain ⟨K, hK⟩ : ∃ K, slN c = K := ⟨_, rfl⟩
          obtain ⟨z, hzk⟩ : ∃ z, lz (at' l k).2 64 = z := ⟨_, rfl⟩
          rw [hzk] at hTz hfi hfn
          rw [hK] at hsl hfi hfn
          clear hK hzk
          generalize (at' l k).2 = u at *
          go_wp2_with fail
          have HC9 := hTz (wr.alloc (.cells #[.int .i64 c, .int .u64 (u : Int)] 44)) (hTD.out.below ((Below.refl _ _).alloc (Nat.le_refl _) _))
          with_reducible refine HC9.mono ?_
          rintro e w' ⟨rfl, rfl⟩
          clear HC9
          go_wp2_with fail
          with_reducible refine (hsl _).mono ?_
          rintro e w' ⟨rfl, rfl⟩
          go_wp2_with fail
          go_roundw
          case rel => exact ⟨k + 1, F, x, by omega, by go_num, rfl, HP1.out.alloc _, HP0.out.alloc _, HA', HF', HB.out.alloc (by have := HB.out.size; omega) _⟩
          case measure => first | (simp [intOf]; done) | (simp [intOf]; omega)
      · have HA' := Lib.hid (none_more HA.out (fun h => hcc h.1))
        by_cases hfr : (at' l k).1 = -1
        · rw [hfr] at s0
          have hm1 : ((-1 : Int) == c) = false := by rw [beq_eq_false_iff_ne]; omega
          cases F with
          | false =>
            have HF' := Lib.hid (HF.out.hit hfr)
            clear hcc hfr hTz hsl HF HA
            generalize (at' l k).2 = u at *
            go_wp2_with fail
            go_roundw
            case rel => exact ⟨k + 1, true, (k : Int), by omega, by go_num, rfl, (HP1.out.set _ _).alloc _, ((HP0.out.other (a := ⟨w.heap.size + 1, 0, none⟩) (by simp) _).other (a := ⟨w.heap.size + 1, 1, none⟩) (by simp) _).alloc _, HA', HF', by have := HB.out; have hzz := HB.out.size; (repeat' (first | (with_reducible exact Below.refl _ _) | (with_reducible assumption) | (with_reducible refine Below.alloc ?_ ?_ _) | (with_reducible refine Below.drew ?_) | (with_reducible refine Below_drewN ?_ _) | (with_reducible refine Below.setCell ?_ ?_ _) | (refine Below.step (B' := ?_) (b := ?_) ?_ ?_ ?_; rotate_left 2; (with_reducible assumption)) | go_size))⟩
            case measure => first | (simp [intOf]; done) | (simp [intOf]; omega)
          | true =>
            have HF' := Lib.hid HF.out.stay
            clear hcc hfr hTz hsl HF HA
            generalize (at' l k).2 = u at *
            go_wp2_with fail
            go_roundw
            case rel => exact ⟨k + 1, true, x, by omega, by go_num, rfl, HP1.out.alloc _, HP0.out.alloc _, HA', HF', HB.out.alloc (by have := HB.out.size; omega) _⟩
            case measure => first | (simp [intOf]; done) | (simp [intOf]; omega)
        · have HF' := Lib.hid (HF.out.more hfr)
          have e1 : ((at' l k).1 == c) = false := by rw [beq_eq_false_iff_ne]; exact hcc
          have e2 : ((at' l k).1 == -1) = false := by rw [beq_eq_false_iff_ne]; exact hfr
          clear hcc hfr hTz hsl HF HA
          generalize (at' l k).2 = u at *
          generalize (at' l k).1 = y at *
          go_wp2_with fail
          go_roundw
          case rel => exact ⟨k + 1, F, x, by omega, by go_num, rfl, HP1.out.alloc _, HP0.out.alloc _, HA', HF', HB.out.alloc (by have := HB.out.size; omega) _⟩
          case measure => first | (simp [intOf]; done) | (simp [intOf]; omega)
    · obtain rfl : k = n := by omega
      clear hb
      have HR : Hid (skI (seekL l c) = x ∧ skK (seekL l c) = 0 ∧ (seekL l c).isSome = F) := by
        have hL := HL.out
        rcases HF.out with ⟨rfl, rfl, hf⟩ | ⟨rfl, j, rfl, hj, hj1, hf⟩
        · rw [seekL_none l c (by rw [hL]; exact HA.out) (by rw [hL]; exact hf)]
          exact ⟨rfl, rfl, rfl⟩
        · rw [seekL_free l c j (by omega) (by rw [hL]; exact HA.out) hj1 hf]
          exact ⟨rfl, rfl, rfl⟩
      clear HF HA
      go_wp2_with fail
      rw [Exit.noGoto_ret]
      have hq := HP0.out.set (.int .i64 x) (.int .i64 0)
      obtain ⟨r0, r1, _, _⟩ := hq
      refine bodyPost_ret (by simp [results, Tryd.results15, go_sem, r0, r1]; try rfl) rfl ?_
      refine ⟨by rw [HR.out.1, HR.out.2.1, HR.out.2.2], ?_⟩
      have := HB.out
      (repeat' (first | (with_reducible exact Below.refl _ _) | (with_reducible assumption) | (with_reducible refine Below.alloc ?_ ?_ _) | (with_reducible refine Below.drew ?_) | (with_reducible refine Below_drewN ?_ _) | (with_reducible refine Below.setCell ?_ ?_ _) | (refine Below.step (B' := ?_) (b := ?_) ?_ ?_ ?_; rotate_left 2; (with_reducible assumption)) | go_size))
end Go.Proofs.Tryd
