/- The walk of TuneNotes (stage 21). -/
import Derived.Test.YtjcclobnpbgmcaaDoorUm
import Derived.Test.YtjcclobnpbgmcaaDoorUt
import Derived.Test.YtjcclobnpbgmcaaDoorOpenC
import Derived.Test.YtjcclobnpbgmcaaDoorRow
import Derived.Test.YtjcclobnpbgmcaaDoorTxt
namespace Go.Proofs.Tryd
open Go.RowKit Go.Sort
set_option linter.unusedVariables false
set_option linter.unusedSimpArgs false
set_option maxRecDepth 100000 in
set_option maxHeartbeats 8000000 in
theorem notes_long (A0 A1 : Option Addr) (n0 c0 n1 c1 : Nat) (h0 : n0 ≤ maxLen) (h1 : n1 ≤ maxLen) (hlong : 60 < min n0 n1) (w : World) (hT : Pows w) :
    Calls Tryd.prog 5 #[.slice A0 n0 c0, .slice A1 n1 c1] w fun e w' => e = .returned (.bool true) ∧ Below w.heap.size w w' := by
  obtain ⟨N, hN⟩ : ∃ N, min n0 n1 = N := ⟨_, rfl⟩
  have hmn : min (n0 : Int) (n1 : Int) = (N : Int) := by omega
  have q1 : decide ((60 : Int) < (N : Int)) = true := by simp; omega
  have q2 : (60 : Int) < (N : Int) := by omega
  have HT := Lib.hid hT
  clear hlong hT
  go_enter Tryd.func5, Tryd.ntmps5
  go_wp2_with (go_at_call 10; refine (awake21 _ HT.out).mono ?_; rintro e w1 ⟨rfl, hb1⟩; have HB1 := Lib.hid hb1; clear hb1)
  go_ret
  exact ⟨rfl, HB1.out⟩
set_option maxRecDepth 100000 in
set_option maxHeartbeats 8000000 in
theorem notes_c (A0 A1 : Option Addr) (n0 c0 n1 c1 : Nat) (ks : List ByteArray) (zs : List Int) (N : Nat) (hmin : min n0 n1 = N) (hN60 : N ≤ 60) (hz : ∀ x ∈ zs, (Lit.int .u16 x).wf = true) (w : World) (hT : Pows w) (hK : Sees w 1 A0 n0 (ks.map Value.string)) (hZ : Sees w 1 A1 n1 (zs.map (Value.int .u16))) :
    Calls Tryd.prog 5 #[.slice A0 n0 c0, .slice A1 n1 c1] w fun e w' => e = .returned (.bool true) ∧ Below w.heap.size w w' := by
  have hmn : min (n0 : Int) (n1 : Int) = (N : Int) := by omega
  have q1 : decide ((60 : Int) < (N : Int)) = false := by simp; omega
  have q2 : ¬(60 : Int) < (N : Int) := by omega
  have hzl : zs.length = n1 := by have := hZ.1; simpa using this
  have HT := Lib.hid hT
  have HK := Lib.hid hK
  have HZ := Lib.hid hZ
  have HZL := Lib.hid hzl
  have HZW := Lib.hid hz
  have HMIN := Lib.hid hmin
  clear hT hK hZ hz hmin hzl
  go_enter Tryd.func5, Tryd.ntmps5
  go_wp2_with (go_at_call 10; refine (awake21 _ HT.out).mono ?_; rintro e w1 ⟨rfl, hb1⟩; have HB1 := Lib.hid hb1; replace HK := Lib.hid (HK.out.below hb1); replace HZ := Lib.hid (HZ.out.below hb1); clear hb1 HT)
  go_loopw [7, 8, 9] (fun v m i wr => ∃ (k nl : Nat) (ls : List Sn) (M : Int), k ≤ N ∧ i = .int .i64 (k : Int) ∧ m = .int .i64 M ∧ 0 ≤ M ∧ M ≤ (k : Int) ∧ nl ≤ k ∧ Hid (Rows encN 3 wr v nl ls) ∧ Hid (chkN ls = true) ∧ Hid (sumNn ls = M) ∧ Hid (Below w1.heap.size w1 wr)) (fun _ _ i _ => N - (intOf i).toNat)
  case atStart => exact ⟨0, 0, [], 0, by omega, rfl, rfl, by omega, by omega, by omega, Lib.hid (Rows.nil encN 3 _), Lib.hid rfl, Lib.hid rfl, Lib.hid (Below.refl _ _)⟩
  case round =>
    obtain ⟨k, nl, ls, M, hk, rfl, rfl, hM0, hM1, hnl, HR, HC, HSUM, HB⟩ := hrel
    by_cases hlt : k < N
    · have hki : (k : Int) < (N : Int) := by omega
      have hlt0 : k < n0 := by have := HMIN.out; omega
      have hlt1 : k < n1 := by have := HMIN.out; omega
      have hki0 : (k : Int) < (n0 : Int) := by omega
      have hki1 : (k : Int) < (n1 : Int) := by omega
      obtain ⟨bk, ok, rfl, hbk, _⟩ := (HK.out.below HB.out).2.resolve_left (by omega)
      obtain ⟨bz, oz, rfl, hbz, _⟩ := (HZ.out.below HB.out).2.resolve_left (by omega)
      have hkw := (HK.out.below HB.out).txt hlt0
      have hzw := (HZ.out.below HB.out).int hlt1
      obtain ⟨K, hKe⟩ : ∃ K, ks.getD k ⟨#[]⟩ = K := ⟨_, rfl⟩
      obtain ⟨Z, hZe⟩ : ∃ Z, zs.getD k 0 = Z := ⟨_, rfl⟩
      have hZb := bounds_u16 (HZW.out Z (by rw [← hZe]; exact getD_memT (by rw [HZL.out]; exact hlt1)))
      obtain ⟨hZ0, hZ1⟩ := hZb
      rw [hKe] at hkw
      rw [hZe] at hzw
      have HKE := Lib.hid hKe
      clear hKe hZe
      by_cases hbig : 100 < K.size
      · have qk1 : decide (100 < (K.size : Int)) = true := by simp; omega
        have qk2 : decide (100 < K.size) = true := by simp; omega
        have qk3 : (100 : Int) < (K.size : Int) := by omega
        clear hbig
        go_wp2_with fail
        go_ret
        exact ⟨rfl, chain HB1.out HB.out⟩
      · have qk1 : decide (100 < (K.size : Int)) = false := by simp; omega
        have qk2 : decide (100 < K.size) = false := by simp; omega
        have qk3 : ¬(100 : Int) < (K.size : Int) := by omega
        have hlen := HR.out.len
        have hni := note_is HC.out (by omega) K Z
        have hcn := cnI_in K ls (((chk_is ls).1 HC.out).2.2)
        rw [HSUM.out] at hcn
        have hwM : wrap64 (M + 1) = M + 1 := by unfold wrap64; omega
        have NC := fun v W h => note_c v nl ls K Z W h
        have hch := note_chk HC.out (by omega) K Z
        have hln := note_len HC.out (by omega) K Z
        unfold NoteP at NC
        by_cases hr : 1 ≤ Z ∧ Z ≤ 4096
        · have hu : okU ls K Z = true := by
            unfold okU okV inB
            simp only [Bool.and_eq_true, decide_eq_true_eq]
            omega
          rw [if_pos hu] at hni
          have hof := of_ins K Z ls
          have hsm := sum_ins K Z ls
          rw [← hni] at hof hsm
          rw [HSUM.out] at hsm
          obtain ⟨l', hl'⟩ : ∃ l', noteN ls K Z = l' := ⟨_, rfl⟩
          rw [hl'] at NC hch hln hof hsm
          have CK := fun v n W h => tcheck_c v n l' W h
          rw [hch] at CK
          have OC := fun v n W h => lawof_c v n l' K W h
          rw [hof] at OC
          have HC' := Lib.hid hch
          have HSUM' := Lib.hid hsm
          have HLN := Lib.hid hln
          obtain ⟨z1, z2⟩ := hr
          have y1 : decide (1 ≤ Z) = true := decide_eq_true z1
          have y2 : decide (Z ≤ 4096) = true := decide_eq_true z2
          have HLEN := Lib.hid hlen
          clear hni hcn hch hln hu hof hsm hl' hbig hlen
          go_wp2_with fail
          refine (NC _ _ HR.out).mono ?_
          rintro e w4 ⟨u4, n4, rfl, r4, hb4⟩
          have R4 := Lib.hid r4
          have HB4 := Lib.hid (chain HB.out hb4)
          have hkw4 := (HK.out.below HB4.out).txt hlt0
          rw [HKE.out] at hkw4
          clear r4 hb4
          go_wp2_with fail
          refine (CK _ _ _ R4.out).mono ?_
          rintro e w5 ⟨rfl, hb5⟩
          replace R4 := Lib.hid (R4.out.below hb5)
          have HB5 := Lib.hid (chain HB4.out hb5)
          have hkw5 := (HK.out.below HB5.out).txt hlt0
          rw [HKE.out] at hkw5
          obtain ⟨_, _, he5, hbk5, _⟩ := (HK.out.below HB5.out).2.resolve_left (by omega)
          cases he5
          clear hb5
          go_wp2_with fail
          refine (OC _ _ _ R4.out).mono ?_
          rintro e w6 ⟨rfl, hb6⟩
          replace R4 := Lib.hid (R4.out.below hb6)
          have HB6 := Lib.hid (chain HB5.out hb6)
          clear hb6
          go_wp2_with fail
          go_roundw
          case rel => exact ⟨k + 1, n4, l', M + 1, by omega, by first | rfl | (rw [wrap_1 k (by omega)]; rfl), by first | rfl | (rw [hwM]), by omega, by omega, by (have e1 := HLN.out.2; rw [R4.out.len, HLEN.out] at e1; omega), R4, HC', HSUM', HB6⟩
          case measure => first | (simp [intOf]; done) | (simp [intOf]; omega) | (rw [wrap_1 k (by omega)]; simp [intOf]; omega)
        · have hu : okU ls K Z = false := by
            cases h : okU ls K Z with
            | false => rfl
            | true =>
              unfold okU okV inB at h
              simp only [Bool.and_eq_true, decide_eq_true_eq] at h
              omega
          rw [if_neg (by rw [hu]; simp)] at hni
          rw [hni] at NC hch
          have CK := fun v n W h => tcheck_c v n ls W h
          rw [hch] at CK
          have HLEN := Lib.hid hlen
          obtain ⟨RT, hRT, y3⟩ : ∃ RT, (decide (1 ≤ Z) = RT) ∧ (RT = true → decide (Z ≤ 4096) = false) := ⟨_, rfl, fun h => decide_eq_false (fun h2 => hr ⟨of_decide_eq_true h, h2⟩)⟩
          clear hni hcn hch hln hu hbig hlen hr
          cases RT with
          | true =>
            have y4 := y3 rfl
            clear y3
            go_wp2_with fail
            refine (NC _ _ HR.out).mono ?_
            rintro e w4 ⟨u4, n4, rfl, r4, hb4⟩
            obtain rfl : n4 = nl := by rw [← r4.len, HLEN.out]
            have R4 := Lib.hid r4
            have HR4 := Lib.hid (HR.out.below hb4)
            have HB4 := Lib.hid (chain HB.out hb4)
            clear r4 hb4
            go_wp2_with fail
            refine (sameN_c _ _ n4 ls _ R4.out HR4.out).mono ?_
            rintro e w5 ⟨rfl, hb5⟩
            replace R4 := Lib.hid (R4.out.below hb5)
            have HB5 := Lib.hid (chain HB4.out hb5)
            clear hb5
            go_wp2_with fail
            refine (CK _ _ _ R4.out).mono ?_
            rintro e w6 ⟨rfl, hb6⟩
            replace R4 := Lib.hid (R4.out.below hb6)
            have HB6 := Lib.hid (chain HB5.out hb6)
            clear hb6
            go_wp2_with fail
            go_roundw
            case rel => exact ⟨k + 1, n4, ls, M, by omega, by first | rfl | (rw [wrap_1 k (by omega)]; rfl), rfl, by omega, by omega, by omega, R4, HC, HSUM, HB6⟩
            case measure => first | (simp [intOf]; done) | (simp [intOf]; omega) | (rw [wrap_1 k (by omega)]; simp [intOf]; omega)
          | false =>
            clear y3
            go_wp2_with fail
            refine (NC _ _ HR.out).mono ?_
            rintro e w4 ⟨u4, n4, rfl, r4, hb4⟩
            obtain rfl : n4 = nl := by rw [← r4.len, HLEN.out]
            have R4 := Lib.hid r4
            have HR4 := Lib.hid (HR.out.below hb4)
            have HB4 := Lib.hid (chain HB.out hb4)
            clear r4 hb4
            go_wp2_with fail
            refine (sameN_c _ _ n4 ls _ R4.out HR4.out).mono ?_
            rintro e w5 ⟨rfl, hb5⟩
            replace R4 := Lib.hid (R4.out.below hb5)
            have HB5 := Lib.hid (chain HB4.out hb5)
            clear hb5
            go_wp2_with fail
            refine (CK _ _ _ R4.out).mono ?_
            rintro e w6 ⟨rfl, hb6⟩
            replace R4 := Lib.hid (R4.out.below hb6)
            have HB6 := Lib.hid (chain HB5.out hb6)
            clear hb6
            go_wp2_with fail
            go_roundw
            case rel => exact ⟨k + 1, n4, ls, M, by omega, by first | rfl | (rw [wrap_1 k (by omega)]; rfl), rfl, by omega, by omega, by omega, R4, HC, HSUM, HB6⟩
            case measure => first | (simp [intOf]; done) | (simp [intOf]; omega) | (rw [wrap_1 k (by omega)]; simp [intOf]; omega)
    · have hke : k = N := by omega
      subst hke
      have HLEN := Lib.hid HR.out.len
      have HOK := Lib.hid (fun k hk => mem_nat HC.out (k := k) hk)
      obtain ⟨A, c, rfl, _, _, _, hs⟩ := HR.out
      have HS := Lib.hid hs
      have HBW := Lib.hid (chain HB1.out HB.out)
      clear hs HB
      go_wp2_with fail
      go_loopw [13, 14] (fun s i wr' => ∃ (j : Nat) (S : Int), j ≤ nl ∧ i = .int .i64 (j : Int) ∧ s = .int .i64 S ∧ 0 ≤ S ∧ S ≤ 1000 * (j : Int) ∧ Hid (sumNn (ls.take j) = S) ∧ Hid (Below wr.heap.size wr wr')) (fun _ i _ => nl - (intOf i).toNat)
      case atStart => exact ⟨0, 0, by omega, rfl, rfl, by omega, by omega, Lib.hid rfl, Lib.hid (Below.refl _ _)⟩
      case round =>
        obtain ⟨j, S, hj, rfl, rfl, hS0, hS1, HSJ, HB⟩ := hrel
        by_cases hlt2 : j < nl
        · have hji : (j : Int) < (nl : Int) := by omega
          have hs := HS.out.below HB.out
          obtain ⟨b, off, rfl, hbl⟩ := Rows.some hs (by omega)
          obtain ⟨d0, d1, d2, hbz⟩ := hs.seen hlt2
          obtain ⟨s, X, Y, hp, hX1, hX2, hY1, hY2⟩ := HOK.out j (by rw [HLEN.out]; exact hlt2)
          have hs1 := sum_one (l := ls) (j := j) (by rw [HLEN.out]; exact hlt2)
          rw [hp] at d0 d1 d2 hs1
          dsimp only at d0 d1 d2 hs1
          rw [HSJ.out] at hs1
          have HS1 := Lib.hid hs1
          have hw : wrap64 (S + (Y : Int)) = S + (Y : Int) := by unfold wrap64; omega
          clear hs hp hs1
          go_wp2_with fail
          go_roundw
          case rel => exact ⟨j + 1, S + (Y : Int), by omega, by first | rfl | (rw [wrap_1 j (by omega)]; rfl), by first | rfl | (rw [hw]), by omega, by omega, HS1, HB⟩
          case measure => first | (simp [intOf]; done) | (simp [intOf]; omega) | (rw [wrap_1 j (by omega)]; simp [intOf]; omega)
        · have hje : j = nl := by omega
          subst hje
          have hSM : S = M := by rw [← HSJ.out, ← HSUM.out, ← HLEN.out, List.take_length]
          subst hSM
          go_wp2_with fail
          go_ret
          exact ⟨by first | rfl | (simp; done), chain HBW.out HB.out⟩
theorem walk_TuneNotes (v0 v1 : Value) (w : World) (hT : Pows w) (o0 : ∃ xs, Texts w v0 xs) (o1 : ∃ xs, Row w .u16 v1 xs) :
    Calls Tryd.prog 5 #[v0, v1] w fun e w' => e = .returned (.bool true) ∧ Below w.heap.size w w' := by
  obtain ⟨ks, A0, n0, c0, rfl, _, h0, hK, _⟩ := o0
  obtain ⟨zs, A1, n1, c1, rfl, _, h1, hZ, hw⟩ := o1
  by_cases hl : 60 < min n0 n1
  · exact notes_long A0 A1 n0 c0 n1 c1 h0 h1 hl w hT
  · exact notes_c A0 A1 n0 c0 n1 c1 ks zs _ rfl (by omega) hw w hT hK hZ
end Go.Proofs.Tryd
