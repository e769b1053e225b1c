/- arena.Free. -/
import Derived.Test.YtempamkacnjhjaaDoorAr7
import Derived.Laws.BitsAllLaws
namespace Go.Proofs.Tryd
open Go.RowKit
set_option linter.unusedVariables false
set_option linter.unusedSimpArgs false
/-- What Free answers. -/
def frR (l : List Sg) (i k : Int) : List Sg × Int := if chkL l ∧ hasL l i k = true then (delL l i.toNat k.toNat, 0) else (l, 120)
def FreeR (R : List Sg × Int) (n : Nat) (w : World) (e : Ending) (w' : World) : Prop :=
  (∃ v', e = .returned (.tuple #[v', .int .i64 R.2]) ∧ OwnS w.heap.size w' v' n R.1) ∧ Below w.heap.size w w'
set_option maxRecDepth 100000 in
set_option maxHeartbeats 4000000 in
theorem free_no (v : Value) (n : Nat) (l : List Sg) (i k : Int) (hc : (decide (chkL l) && hasL l i k) = false) (w : World) (h : Segs w v n l) :
    Calls Tryd.prog 6 #[v, .agg #[.int .i64 i, .int .i64 k]] w (FreeR (l, 120) n w) := by
  have HS := Lib.hid h
  have HC := Lib.hid (fun W (hb : Below w.heap.size w W) => has_c v n l i k W (HS.out.below hb))
  rw [hc] at HC
  have HK := Lib.hid (fun W (hb : Below w.heap.size w W) => clone_c v n l W (HS.out.below hb))
  clear h hc
  go_enter Tryd.func6, Tryd.ntmps6
  go_wp2_with fail
  refine (HK.out _ (by (repeat' (first | (with_reducible exact Below.refl _ _) | (with_reducible assumption) | (with_reducible refine Below.alloc ?_ ?_ _) | (with_reducible refine Below.drew ?_) | (with_reducible refine Below_drewN ?_ _) | (with_reducible refine Below.setCell ?_ ?_ _) | (refine Below.step (B' := ?_) (b := ?_) ?_ ?_ ?_; rotate_left 2; (with_reducible assumption)) | go_size)))).mono ?_
  rintro e w1 ⟨⟨v1, rfl, ho⟩, hb1⟩
  have hz1 := hb1.size
  simp only [World.size_alloc] at hz1 ho
  have HP := Lib.hid ((pairAt.new w (.int .i64 i) (.int .i64 k) 34).below hb1)
  have HB := Lib.hid (show Below w.heap.size w w1 from ((Below.refl _ _).alloc (Nat.le_refl _) _).trans (hb1.mono (by simp)))
  have HO := Lib.hid ho
  obtain ⟨c0, c1, f0, f1⟩ := HP.out
  clear hb1 ho
  go_wp2_with fail
  refine (HC.out _ HB.out).mono ?_
  rintro e w2 ⟨rfl, hb2⟩
  have HB := Lib.hid (chain HB.out hb2)
  have HO := Lib.hid (HO.out.below hb2)
  clear hb2
  go_wp2_with fail
  go_ret2
  exact ⟨⟨v1, rfl, HO.out.mono (Nat.le_succ _)⟩, HB.out⟩
theorem andNot_pow (u k P : Nat) (hu : u < 18446744073709551616) (hk : k < 64) (hP : 2 ^ k = P) (ht : u.testBit k = true) : bits .andNot .u64 (u : Int) (P : Int) = ((u ^^^ P : Nat) : Int) := by
  have h : 2 ^ k < 2 ^ 64 := Nat.pow_lt_pow_right (by omega) hk
  rw [u64_andNot_nat u P hu (by rw [← hP]; exact h)]
  congr 1
  apply Nat.eq_of_testBit_eq
  intro j
  have hv : (18446744073709551615 - P).testBit j = (decide (j < 64) && !P.testBit j) := by
    have := Nat.testBit_two_pow_sub_succ (x := P) (n := 64) (by rw [← hP]; exact h) j
    rwa [show 2 ^ 64 - (P + 1) = 18446744073709551615 - P by omega] at this
  rw [Nat.testBit_and, hv, Nat.testBit_xor, ← hP, Nat.testBit_two_pow]
  by_cases hj : j < 64
  · by_cases e : k = j
    · subst e; simp [ht, hj]
    · simp [e, hj]
  · rw [Nat.testBit_lt_two_pow (Nat.lt_of_lt_of_le (show u < 2 ^ 64 by omega) (Nat.pow_le_pow_right (by omega) (by omega)))]
    simp
    omega
theorem xor_in (u P : Nat) (hu : u < 18446744073709551616) (hP : P < 18446744073709551616) : u ^^^ P < 18446744073709551616 := Nat.xor_lt_two_pow (n := 64) hu hP
set_option maxRecDepth 100000 in
set_option maxHeartbeats 4000000 in
theorem free_ok (v : Value) (n : Nat) (l : List Sg) (i k : Nat) (hc : chkL l) (ht : tkL l i k = true) (w : World) (h : Segs w v n l) :
    Calls Tryd.prog 6 #[v, .agg #[.int .i64 (i : Int), .int .i64 (k : Int)]] w (FreeR (delL l i k, 0) n w) := by
  have HS := Lib.hid h
  have HC := Lib.hid (fun W (hb : Below w.heap.size w W) => has_c v n l (i : Int) (k : Int) W (HS.out.below hb))
  rw [has_nat, ht, decide_eq_true hc, Bool.and_true] at HC
  have HK := Lib.hid (fun W (hb : Below w.heap.size w W) => clone_c v n l W (HS.out.below hb))
  obtain ⟨hi0, hk0, _⟩ := tk_lt l hc i k ht
  have hk64 : k < 64 := by have := slN_le (at' l i).1; omega
  have HT : Hid ((at' l i).2.testBit k = true) := Lib.hid ht
  clear h hc ht hk0
  go_enter Tryd.func6, Tryd.ntmps6
  go_wp2_with fail
  refine (HK.out _ (by (repeat' (first | (with_reducible exact Below.refl _ _) | (with_reducible assumption) | (with_reducible refine Below.alloc ?_ ?_ _) | (with_reducible refine Below.drew ?_) | (with_reducible refine Below_drewN ?_ _) | (with_reducible refine Below.setCell ?_ ?_ _) | (refine Below.step (B' := ?_) (b := ?_) ?_ ?_ ?_; rotate_left 2; (with_reducible assumption)) | go_size)))).mono ?_
  rintro e w1 ⟨⟨v1, rfl, ho⟩, hb1⟩
  have hz1 := hb1.size
  simp only [World.size_alloc] at hz1 ho
  have HP := Lib.hid ((pairAt.new w (.int .i64 (i : Int)) (.int .i64 (k : Int)) 34).below hb1)
  have HB := Lib.hid (show Below w.heap.size w w1 from ((Below.refl _ _).alloc (Nat.le_refl _) _).trans (hb1.mono (by simp)))
  have HO := Lib.hid ho
  obtain ⟨c0, c1, f0, f1⟩ := HP.out
  clear hb1 ho
  go_wp2_with fail
  refine (HC.out _ HB.out).mono ?_
  rintro e w2 ⟨rfl, hb2⟩
  have HB := Lib.hid (chain HB.out hb2)
  have HO := Lib.hid (HO.out.below hb2)
  have HP := Lib.hid (HP.out.below hb2)
  clear c0 c1 f0 f1 hb2
  have hy := HP.out.lt
  obtain ⟨c0, c1, f0, f1⟩ := HP.out
  obtain ⟨hn1, hl1, hu1, hd⟩ := HO.out
  rw [hl1] at hi0
  rcases hd with ⟨rfl, rfl⟩ | ⟨g, cc, rfl, hcc, hg1, hg2, hrow⟩
  · omega
  have HR := Lib.hid hrow
  obtain ⟨⟨s0, s1⟩, t0, t1⟩ := hrow i (by omega)
  rw [Nat.mul_comm 2 i] at s0 s1 t0 t1
  have hi' : (i : Int) < (n : Int) := by omega
  obtain ⟨P, hP⟩ : ∃ P, 2 ^ k = P := ⟨_, rfl⟩
  obtain ⟨hP1, hpw⟩ := wrap_pow k P hk64 hP
  obtain ⟨V, hV⟩ : ∃ V, (at' l i).2 ^^^ P = V := ⟨_, rfl⟩
  have hor := andNot_pow (at' l i).2 k P (hu1 i) hk64 hP HT.out
  rw [hV] at hor
  have HV := Lib.hid (show (at' l i).2 ^^^ 2 ^ k = V by rw [hP, hV])
  have HV2 := Lib.hid (show V < 18446744073709551616 by rw [← hV]; exact xor_in _ _ (hu1 i) hP1)
  have HU1 := Lib.hid hu1
  have HL1 := Lib.hid hl1
  clear hrow hu1 hl1 hP hV
  go_wp2_with fail
  go_region
  have hlr : (l.set i ((at' l i).1, V)).length = n := by rw [List.length_set]; exact HL1.out
  have h2 := HR.out.set1 i (by have := HL1.out; omega) V
  rw [Nat.mul_comm 2 i] at h2
  by_cases hv0 : V = 0
  · subst hv0
    have h3 := h2.set0 i (by rw [hlr]; exact hi0) (-1)
    rw [at_set _ _ _ _ (by have := HL1.out; omega), if_pos rfl, List.set_set, Nat.mul_comm 2 i] at h3
    have HE := Lib.hid (show delL l i k = l.set i (-1, 0) by unfold delL delS; rw [HV.out, if_pos rfl])
    have HH := Lib.hid h3
    have HLR := Lib.hid (show (l.set i ((-1 : Int), (0 : Nat))).length = n by rw [List.length_set]; exact HL1.out)
    have HLL := Lib.hid (show i < l.length by have := HL1.out; omega)
    clear h2 h3 hlr
    go_wp2_with fail
    go_ret2
    refine ⟨⟨_, rfl, ?_⟩, ?_⟩
    · simp only
      rw [HE.out]
      refine ⟨hn1, HLR.out, fun j => ?_, .inr ⟨g, cc, rfl, hcc, by omega, by simp; omega, HH.out⟩⟩
      rw [at_set _ _ _ _ HLL.out]
      split
      · exact HV2.out
      · exact HU1.out j
    · have := HB.out
      (repeat' (first | (with_reducible exact Below.refl _ _) | (with_reducible assumption) | (with_reducible refine Below.alloc ?_ ?_ _) | (with_reducible refine Below.drew ?_) | (with_reducible refine Below_drewN ?_ _) | (with_reducible refine Below.setCell ?_ ?_ _) | (refine Below.step (B' := ?_) (b := ?_) ?_ ?_ ?_; rotate_left 2; (with_reducible assumption)) | go_size))
  · have HE := Lib.hid (show delL l i k = l.set i ((at' l i).1, V) by unfold delL delS; rw [HV.out, if_neg hv0])
    have HH := Lib.hid h2
    have HLR := Lib.hid hlr
    have HLL := Lib.hid (show i < l.length by have := HL1.out; omega)
    have hvi : ((V : Int) == 0) = false := by rw [beq_eq_false_iff_ne]; omega
    have hvn : (V == 0) = false := by rw [beq_eq_false_iff_ne]; omega
    clear h2 hv0 hlr
    go_wp2_with fail
    go_ret2
    refine ⟨⟨_, rfl, ?_⟩, ?_⟩
    · simp only
      rw [HE.out]
      refine ⟨hn1, HLR.out, fun j => ?_, .inr ⟨g, cc, rfl, hcc, by omega, by simp; omega, HH.out⟩⟩
      rw [at_set _ _ _ _ HLL.out]
      split
      · exact HV2.out
      · exact HU1.out j
    · have := HB.out
      (repeat' (first | (with_reducible exact Below.refl _ _) | (with_reducible assumption) | (with_reducible refine Below.alloc ?_ ?_ _) | (with_reducible refine Below.drew ?_) | (with_reducible refine Below_drewN ?_ _) | (with_reducible refine Below.setCell ?_ ?_ _) | (refine Below.step (B' := ?_) (b := ?_) ?_ ?_ ?_; rotate_left 2; (with_reducible assumption)) | go_size))
end Go.Proofs.Tryd
