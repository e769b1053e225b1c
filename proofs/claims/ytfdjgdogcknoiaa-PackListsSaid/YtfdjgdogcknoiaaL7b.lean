/- The walks of PackCuts, PackSizes. -/
import Derived.Test.YtfdjgdogcknoiaaW7
import Derived.Test.YtfdjgdogcknoiaaRow
import Derived.Test.YtfdjgdogcknoiaaGuard
namespace Go.Proofs.Try
open Go.RowKit
set_option linter.unusedVariables false
set_option linter.unusedSimpArgs false

theorem u64_info : (Try.prog.info? 24).map (fun i => (i.zero, i.size, i.bytes)) = some (some (.int .u64 0), 1, 8) := by kernel_rfl
theorem put_e (A : Option Addr) (k c : Nat) (xs : List Int) (w : World) (h : Sees w 1 A k (xs.map (Value.int .u64))) (hin : ∀ x ∈ xs, 0 ≤ x ∧ x < 18446744073709551616) (hk : k ≤ 10000) :
    Calls Try.prog 18 #[.string ⟨#[]⟩, .slice A k c] w fun r w' => r = .returned (.string (S (putB xs))) ∧ Below w.heap.size w w' := by
  have := pput_c A k c [] xs w h hin hk (by simp)
  rwa [List.nil_append, show S [] = ⟨#[]⟩ from rfl] at this
theorem put_1 (n : Nat) (hn : n < 18446744073709551616) (w : World) :
    Calls Try.prog 18 #[.string ⟨#[]⟩, .slice (some ⟨w.heap.size, 0, none⟩) 1 1] (w.alloc (.cells #[.int .u64 (n : Int)] 24)) fun r w' => r = .returned (.string (S (oneB n))) ∧ Below (w.alloc (.cells #[.int .u64 (n : Int)] 24)).heap.size (w.alloc (.cells #[.int .u64 (n : Int)] 24)) w' := by
  have := put_e (some ⟨w.heap.size, 0, none⟩) 1 1 [(n : Int)] _ (Sees.one w (.int .u64 (n : Int)) 24) (by intro x hx; rw [List.mem_singleton] at hx; subst hx; omega) (by omega)
  rwa [putB_one] at this
theorem texts_e (A : Option Addr) (n c : Nat) (ts : List (List UInt8)) (w : World) (h : Sees w 1 A n (ts.map sv)) (hn : n ≤ 10000) (hts : (listB ts).length ≤ 200000) :
    Calls Try.prog 22 #[.string ⟨#[]⟩, .slice A n c] w fun r w' => r = .returned (.string (S (textsB ts))) ∧ Below w.heap.size w w' := by
  have := ptexts_c A n c [] ts w h hn (by simp) hts
  rwa [List.nil_append, show S [] = ⟨#[]⟩ from rfl] at this
theorem few_len (ts : List (List UInt8)) (h : few ts 100 = true) : (∀ t ∈ ts, t.length < 18446744073709551616) ∧ ts.length ≤ 100 ∧ (listB ts).length ≤ 101000 := by
  obtain ⟨h1, h2⟩ := (few_iff ts 100).1 h
  have h3 := listB_len ts 1000 h1 (by omega)
  have h4 : ts.length ≤ 100 := by omega
  have h5 : (1000 + 10) * ts.length ≤ (1000 + 10) * 100 := Nat.mul_le_mul_left _ h4
  exact ⟨fun t ht => by have := h1 t ht; omega, h4, by omega⟩
theorem S_ne (l : List UInt8) (h : 0 < l.length) : (¬ (S l).toList = []) ∧ (S l).toList.isEmpty = false := by
  rw [ByteArray.toList_eq, S_list]
  cases l with
  | nil => simp at h
  | cons => simp
theorem textsB_pos (ts : List (List UInt8)) : 0 < (textsB ts).length := by
  have h2 : 0 < (oneB ts.length).length := List.length_pos_iff.2 (one_ne _)
  unfold textsB
  rw [List.length_append]
  omega
theorem textsB_len (ts : List (List UInt8)) (h : (listB ts).length ≤ 101000) (hl : ts.length ≤ 100) : (textsB ts).length ≤ 101010 := by
  have := sizeB_10 ts.length (by omega)
  unfold sizeB at this
  unfold textsB
  rw [List.length_append]
  omega
theorem textB_abc : textB [97, 98, 99] = [3, 97, 98, 99] := by
  have e : textB [97, 98, 99] = oneB 3 ++ [97, 98, 99] := rfl
  rw [e, oneB_low 3 (by omega)]; rfl
set_option maxRecDepth 100000 in
set_option maxHeartbeats 3000000 in
theorem walk_PackCuts (a0 : Int) (v1 : Value) (a2 : Int) (w0 : (Lit.int .u64 a0).wf = true) (w2 : (Lit.int .u16 a2).wf = true) (w : World) (h1 : ∃ xs, Texts w v1 xs) :
    Calls Try.prog 6 #[.int .u64 a0, v1, .int .u16 a2] w fun e w' => e = .returned (.bool true) ∧ Below w.heap.size w w' := by
  obtain ⟨ss, h1⟩ := h1
  obtain ⟨ts, A, n, c, rfl, hcap, hmax, hsees⟩ := h1.lists
  obtain ⟨p0, p1⟩ := bounds_u64 w0
  obtain ⟨q0, q1⟩ := bounds_u16 w2
  obtain ⟨m, rfl⟩ := Int.eq_ofNat_of_zero_le p0
  obtain ⟨f, rfl⟩ := Int.eq_ofNat_of_zero_le q0
  have HL := Lib.hid (show ts.length = n by have := hsees.1; simpa using this)
  have HS := Lib.hid hsees
  clear hsees hcap h1 w0 w2
  by_cases hf : few ts 100 = true
  · obtain ⟨f1, f2, f3⟩ := few_len ts hf
    have hn : n ≤ 100 := by have := HL.out; omega
    have C1 := fun w => put_1 m (by omega) w
    have C2 : ∀ w : World, Calls Try.prog 20 #[.string ⟨#[]⟩, .string ⟨#[97, 98, 99]⟩] w fun r w' => r = .returned (.string (S [3, 97, 98, 99])) ∧ Below w.heap.size w w' := fun w => by
      have := ptext_c [] [97, 98, 99] (by simp) (by simp) w
      rw [textB_abc, List.nil_append] at this
      exact this
    have k1 := one_ne m
    have k2 := sizeB_10 m (by omega)
    have k3 := takeL_cut m (f % (oneB m).length) (by omega) (Nat.mod_lt _ (List.length_pos_iff.2 k1))
    have k4 := S_take (oneB m) (f % (oneB m).length)
    have k5 := S_size (oneB m)
    obtain ⟨k6, k6b⟩ := S_ne (oneB m) (List.length_pos_iff.2 k1)
    have k7 := take_c ((oneB m).take (f % (oneB m).length)) (by rw [List.length_take]; unfold sizeB at k2; omega)
    have k8 : 0 < (oneB m).length := List.length_pos_iff.2 k1
    have k9 : f % (oneB m).length < (oneB m).length := Nat.mod_lt _ k8
    have k10 : (f : Int) % ((oneB m).length : Int) = ((f % (oneB m).length : Nat) : Int) := by simp
    rw [k3] at k7
    unfold tkR at k7
    simp only at k7
    have l3 := takeTextL_cut [97, 98, 99] (f % 4) (by decide) (by rw [textB_abc]; exact Nat.mod_lt _ (by decide))
    have l4 := S_take [3, 97, 98, 99] (f % 4)
    have l7 := taketext_c ((textB [97, 98, 99]).take (f % 4)) (by rw [List.length_take, textB_abc]; simp; omega)
    rw [l3] at l7
    rw [textB_abc] at l7
    unfold ttR at l7
    simp only at l7
    have l5 := S_size [3, 97, 98, 99]
    obtain ⟨l6, l6b⟩ := S_ne [3, 97, 98, 99] (by decide)
    have l10 : (f : Int) % 4 = ((f % 4 : Nat) : Int) := by simp
    have l9 : f % 4 < 4 := Nat.mod_lt _ (by decide)
    have o8 := textsB_pos ts
    have o2 := textsB_len ts f3 f2
    have o3 := takeTextsL_cut ts (f % (textsB ts).length) f1 (by omega) (Nat.mod_lt _ o8)
    have o4 := S_take (textsB ts) (f % (textsB ts).length)
    have o5 := S_size (textsB ts)
    obtain ⟨o6, o6b⟩ := S_ne (textsB ts) o8
    have o7 := taketexts_c ((textsB ts).take (f % (textsB ts).length)) (by rw [List.length_take]; exact Nat.le_trans (Nat.min_le_right _ _) (by omega))
    have o9 : f % (textsB ts).length < (textsB ts).length := Nat.mod_lt _ o8
    have o10 : (f : Int) % ((textsB ts).length : Int) = ((f % (textsB ts).length : Nat) : Int) := by simp
    rw [o3] at o7
    have C3 := fun w h => texts_e A n c ts w h (by omega) (by omega)
    have HC3 := Lib.hid C3
    unfold sizeB at k2
    clear k3 l3 o3 f1 f3 k1 C3
    have l5' : (S [3, 97, 98, 99]).size = 4 := l5
    clear l5
    generalize (oneB m).length = L1 at *
    generalize f % L1 = F1 at *
    generalize f % 4 = F2 at *
    generalize (textsB ts).length = L3 at *
    generalize f % L3 = F3 at *
    generalize (oneB m).take F1 = X1 at *
    generalize [3, 97, 98, 99].take F2 = X2 at *
    generalize (textsB ts).take F3 = X3 at *
    go_enter Try.func6, Try.ntmps6
    go_wp2_with fail
    with_reducible refine (awake7 _).mono ?_
    rintro e w1 ⟨rfl, hb1⟩
    have hz1 := hb1.size
    go_wp2_with fail
    with_reducible refine (few_c A n c ts 100 _ (HS.out.below hb1) hmax).mono ?_
    rintro e w' ⟨rfl, rfl⟩
    have HS1 := Lib.hid (HS.out.below hb1)
    go_wp2_with fail
    with_reducible refine (C1 _).mono ?_
    rintro e w2 ⟨rfl, hb2⟩
    have hz2 := hb2.size
    simp only [World.size_alloc] at hz2
    have HS2 := Lib.hid ((HS1.out.below ((Below.refl _ _).alloc (Nat.le_refl _) _)).below hb2)
    have HB2 := Lib.hid (show Below w.heap.size w w2 from hb1.trans (((Below.refl _ _).alloc (by omega) _).trans (hb2.mono (by simp; omega))))
    clear hb1 hb2
    go_wp2_with fail
    with_reducible refine (C2 _).mono ?_
    rintro e w3 ⟨rfl, hb3⟩
    have hz3 := hb3.size
    have HS3 := Lib.hid (HS2.out.below hb3)
    have HB3 := Lib.hid (HB2.out.trans (hb3.mono (by omega)))
    clear hb3
    go_wp2_with fail
    with_reducible refine (HC3.out _ HS3.out).mono ?_
    rintro e w4 ⟨rfl, hb4⟩
    have hz4 := hb4.size
    have HB4 := Lib.hid (HB3.out.trans (hb4.mono (by omega)))
    clear hb4
    go_wp2_with fail
    with_reducible refine (k7 _).mono ?_
    rintro e w5 ⟨rfl, hb5⟩
    have hz5 := hb5.size
    have HB5 := Lib.hid (HB4.out.trans (hb5.mono (by omega)))
    clear hb5
    go_wp2_with fail
    with_reducible refine (l7 _).mono ?_
    rintro e w6 ⟨rfl, hb6⟩
    have hz6 := hb6.size
    have HB6 := Lib.hid (HB5.out.trans (hb6.mono (by omega)))
    clear hb6
    go_wp2_with fail
    with_reducible refine (o7 _).mono ?_
    intro e w7 ht7
    obtain ⟨hb7, h7, _⟩ := ht7
    obtain rfl := h7 rfl
    have HB7 := Lib.hid (HB6.out.trans (hb7.mono (by omega)))
    clear hb7 h7
    go_wp2_with fail
    go_ret
    exact ⟨rfl, HB7.out⟩
  · have hf' : few ts 100 = false := by simpa using hf
    clear hf
    go_enter Try.func6, Try.ntmps6
    go_wp2_with fail
    with_reducible refine (awake7 _).mono ?_
    rintro e w1 ⟨rfl, hb1⟩
    go_wp2_with fail
    with_reducible refine (few_c A n c ts 100 _ (HS.out.below hb1) hmax).mono ?_
    rintro e w' ⟨rfl, rfl⟩
    rw [hf']
    go_wp2_with fail
    go_ret
    exact ⟨rfl, by (repeat' (first | (with_reducible exact Below.refl _ _) | (with_reducible assumption) | (with_reducible refine Below.alloc ?_ ?_ _) | (with_reducible refine Below.drew ?_) | (with_reducible refine Below_drewN ?_ _) | (with_reducible refine Below.setCell ?_ ?_ _) | (refine Below.step (B' := ?_) (b := ?_) ?_ ?_ ?_; rotate_left 2; (with_reducible assumption)) | go_size))⟩
theorem put_len (xs : List Int) (n : Nat) (hl : xs.length = n) (h : ∀ x ∈ xs, 0 ≤ x ∧ x < 18446744073709551616) (hn : n ≤ 100) : (putB xs).length ≤ 1000 := by
  have := putB_len xs h
  omega
theorem row_in {xs : List Int} (h : ∀ x ∈ xs, (Lit.int .u64 x).wf = true) : ∀ x ∈ xs, 0 ≤ x ∧ x < 18446744073709551616 := fun x hx => by
  have := bounds_u64 (h x hx)
  omega
set_option maxRecDepth 100000 in
set_option maxHeartbeats 4000000 in
theorem walk_PackSizes (a0 a1 : Int) (v2 v3 : Value) (w0 : (Lit.int .u64 a0).wf = true) (w1 : (Lit.int .u64 a1).wf = true) (w : World) (h2 : ∃ xs, Row w .u64 v2 xs) (h3 : ∃ xs, Row w .u64 v3 xs) :
    Calls Try.prog 7 #[.int .u64 a0, .int .u64 a1, v2, v3] w fun e w' => e = .returned (.bool true) ∧ Below w.heap.size w w' := by
  obtain ⟨xs, A, n, c, rfl, hcA, hmA, hsA, hwA⟩ := h2
  obtain ⟨ys, B, m, d, rfl, hcB, hmB, hsB, hwB⟩ := h3
  obtain ⟨i0, hi, y0, y1, y2⟩ := info_parts u64_info
  have hxs := row_in hwA
  have hys := row_in hwB
  have HLA := Lib.hid hsA.len
  have HLB := Lib.hid hsB.len
  have HA := Lib.hid hsA
  have HB := Lib.hid hsB
  have HcA := Lib.hid hcA
  have HcB := Lib.hid hcB
  obtain ⟨p0, p1⟩ := bounds_u64 w0
  obtain ⟨q0, q1⟩ := bounds_u64 w1
  clear w0 w1 hwA hwB hsA hsB hcA hcB
  unfold maxLen at hmA hmB
  obtain ⟨a, rfl⟩ := Int.eq_ofNat_of_zero_le p0
  obtain ⟨b, rfl⟩ := Int.eq_ofNat_of_zero_le q0
  by_cases c1 : n ≤ 100
  · by_cases c2 : m ≤ 100
    · have d1 : decide (100 < (n : Int)) = false := by simp; omega
      have d2 : decide (100 < (m : Int)) = false := by simp; omega
      have P1 := put_len xs n HLA.out hxs c1
      have HXX := Lib.hid hxs
      have HYY := Lib.hid hys
      have HXY : Hid (∀ x ∈ xs ++ ys, 0 ≤ x ∧ x < 18446744073709551616) := Lib.hid fun x hx => (List.mem_append.1 hx).elim (HXX.out x) (HYY.out x)
      have hlo : min (a : Int) (b : Int) = ((min a b : Nat) : Int) := by omega
      have hhi : max (a : Int) (b : Int) = ((max a b : Nat) : Int) := by omega
      have S1 := psize_c (min a b) (by omega)
      have S2 := psize_c (max a b) (by omega)
      have S3 := psize_c a (by omega)
      have s1 := sizeB_mono (min a b) (max a b) (by omega)
      have s2 := sizeB_pos (min a b)
      have s3 := sizeB_10 (max a b) (by omega)
      have s4 := sizeB_10 a (by omega)
      have s5 := fun h => sizeB_more a h
      have s6 := fun h => psize_c (128 * a) h
      clear hxs hys
      generalize sizeB (min a b) = z1 at *
      generalize sizeB (max a b) = z2 at *
      have s1' : (z1 : Int) ≤ (z2 : Int) := by omega
      have s2' : (1 : Int) ≤ (z1 : Int) := by omega
      have s3' : (z2 : Int) ≤ 10 := by omega
      have hlo' : min a b < 18446744073709551616 := by omega
      have hhi' : max a b < 18446744073709551616 := by omega
      generalize min a b = lo at *
      generalize max a b = hi2 at *
      by_cases t0 : a = 0
      · have e0 : ((a : Int) == 0) = true := by rw [beq_iff_eq]; omega
        clear t0
        go_enter Try.func7, Try.ntmps7
        go_wp2_with fail
        with_reducible refine (awake7 _).mono ?_
        rintro e w1 ⟨rfl, hb1⟩
        have hz1 := hb1.size
        have HA1 := HA.out.below hb1
        have HB1 := HB.out.below hb1
        go_wp2_with fail
        with_reducible refine (S1 _).mono ?_
        rintro e w' ⟨rfl, rfl⟩
        go_wp2_with fail
        with_reducible refine (S2 _).mono ?_
        rintro e w' ⟨rfl, rfl⟩
        go_wp2_with fail
        with_reducible refine (S1 _).mono ?_
        rintro e w' ⟨rfl, rfl⟩
        go_wp2_with fail
        with_reducible refine (S2 _).mono ?_
        rintro e w' ⟨rfl, rfl⟩
        go_wp2_with fail
        with_reducible refine (put_e A n c xs _ HA1 HXX.out (by omega)).mono ?_
        rintro e w2 ⟨rfl, hb2⟩
        have hz2 := hb2.size
        have HA2 := HA1.below hb2
        have HB2 := HB1.below hb2
        go_wp2_with fail
        with_reducible refine (pput_c B m d (putB xs) ys _ HB2 HYY.out (by omega) (by omega)).mono ?_
        rintro e w3 ⟨rfl, hb3⟩
        have hz3 := hb3.size
        have HA3 := HA2.below hb3
        have HB3 := HB2.below hb3
        have HPA := Lib.hid (putB_app xs ys)
        have HB3' := Lib.hid (show Below w.heap.size w w3 from (hb1.trans (hb2.mono (by omega))).trans (hb3.mono (by omega)))
        clear hb1 hb2 hb3
        rw [← putB_app]
        go_wp2_with (first
          | (at_builtin
             refine wpList_unguard (by rfl) ?_
             refine wpList_app rfl (.tmp 70) (.tmp 71) _ rfl w3.heap.size 24 i0 _ 1 8 Try.underlying22 hi y0 y1 y2 rfl (by omega) _ 0 [] rfl (World.ownsRow_made w3 #[] 0 (Nat.le_refl _) (Nat.zero_le _) rfl) A n c (xs.map (Value.int .u64)) rfl HcA.out (HA3.alloc _) (ints_one _ _) (by unfold maxLen; omega) (by omega) (by simp) ?_
             intro v4 w4 hown4 hb4
             have hb34 := Below.step1 (Below.refl w3.heap.size w3) hb4 (Nat.le_refl _)
             have hz4 := hb34.size
             have HB4 := HB3.below hb34)
          | (at_builtin
             refine wpList_unguard (by rfl) ?_
             refine wpList_app rfl (.tmp 72) (.tmp 73) _ rfl w3.heap.size 24 i0 _ 1 8 Try.underlying22 hi y0 y1 y2 rfl (by omega) v4 (0 + n) ([] ++ xs.map (Value.int .u64)) rfl hown4 B m d (ys.map (Value.int .u64)) rfl HcB.out HB4 (ints_one _ _) (by unfold maxLen; omega) (by omega) (by omega) ?_
             intro v5 w5 hown5 hb5
             obtain ⟨C, q, rfl, hcC, hC⟩ := Sees.of_own hown5
             have hb35 := hb34.trans hb5
             have hz5 := hb35.size
             rw [List.nil_append, ← List.map_append, Nat.zero_add] at hC
             clear hown4 hown5 hcC))
        with_reducible refine (put_e C (n + m) q (xs ++ ys) _ hC HXY.out (by omega)).mono ?_
        rintro e w6 ⟨rfl, hb6⟩
        go_wp2_with fail
        go_ret
        exact ⟨by first | rfl | (simp; done) | (simp; omega), HB3'.out.trans ((hb35.mono (by omega)).trans (hb6.mono (by omega)))⟩
      · have e0 : ((a : Int) == 0) = false := by rw [beq_eq_false_iff_ne]; omega
        by_cases t1 : 144115188075855872 ≤ a
        · have e1 : (144115188075855872 : Int) ≤ (a : Int) := by omega
          go_enter Try.func7, Try.ntmps7
          go_wp2_with fail
          with_reducible refine (awake7 _).mono ?_
          rintro e w1 ⟨rfl, hb1⟩
          have hz1 := hb1.size
          have HA1 := HA.out.below hb1
          have HB1 := HB.out.below hb1
          go_wp2_with fail
          with_reducible refine (S1 _).mono ?_
          rintro e w' ⟨rfl, rfl⟩
          go_wp2_with fail
          with_reducible refine (S2 _).mono ?_
          rintro e w' ⟨rfl, rfl⟩
          go_wp2_with fail
          with_reducible refine (S1 _).mono ?_
          rintro e w' ⟨rfl, rfl⟩
          go_wp2_with fail
          with_reducible refine (S2 _).mono ?_
          rintro e w' ⟨rfl, rfl⟩
          go_wp2_with fail
          with_reducible refine (put_e A n c xs _ HA1 HXX.out (by omega)).mono ?_
          rintro e w2 ⟨rfl, hb2⟩
          have hz2 := hb2.size
          have HA2 := HA1.below hb2
          have HB2 := HB1.below hb2
          go_wp2_with fail
          with_reducible refine (pput_c B m d (putB xs) ys _ HB2 HYY.out (by omega) (by omega)).mono ?_
          rintro e w3 ⟨rfl, hb3⟩
          have hz3 := hb3.size
          have HA3 := HA2.below hb3
          have HB3 := HB2.below hb3
          have HPA := Lib.hid (putB_app xs ys)
          have HB3' := Lib.hid (show Below w.heap.size w w3 from (hb1.trans (hb2.mono (by omega))).trans (hb3.mono (by omega)))
          clear hb1 hb2 hb3
          rw [← putB_app]
          go_wp2_with (first
            | (at_builtin
               refine wpList_unguard (by rfl) ?_
               refine wpList_app rfl (.tmp 70) (.tmp 71) _ rfl w3.heap.size 24 i0 _ 1 8 Try.underlying22 hi y0 y1 y2 rfl (by omega) _ 0 [] rfl (World.ownsRow_made w3 #[] 0 (Nat.le_refl _) (Nat.zero_le _) rfl) A n c (xs.map (Value.int .u64)) rfl HcA.out (HA3.alloc _) (ints_one _ _) (by unfold maxLen; omega) (by omega) (by simp) ?_
               intro v4 w4 hown4 hb4
               have hb34 := Below.step1 (Below.refl w3.heap.size w3) hb4 (Nat.le_refl _)
               have hz4 := hb34.size
               have HB4 := HB3.below hb34)
            | (at_builtin
               refine wpList_unguard (by rfl) ?_
               refine wpList_app rfl (.tmp 72) (.tmp 73) _ rfl w3.heap.size 24 i0 _ 1 8 Try.underlying22 hi y0 y1 y2 rfl (by omega) v4 (0 + n) ([] ++ xs.map (Value.int .u64)) rfl hown4 B m d (ys.map (Value.int .u64)) rfl HcB.out HB4 (ints_one _ _) (by unfold maxLen; omega) (by omega) (by omega) ?_
               intro v5 w5 hown5 hb5
               obtain ⟨C, q, rfl, hcC, hC⟩ := Sees.of_own hown5
               have hb35 := hb34.trans hb5
               have hz5 := hb35.size
               rw [List.nil_append, ← List.map_append, Nat.zero_add] at hC
               clear hown4 hown5 hcC))
          with_reducible refine (put_e C (n + m) q (xs ++ ys) _ hC HXY.out (by omega)).mono ?_
          rintro e w6 ⟨rfl, hb6⟩
          go_wp2_with fail
          go_ret
          exact ⟨by first | rfl | (simp; done) | (simp; omega), HB3'.out.trans ((hb35.mono (by omega)).trans (hb6.mono (by omega)))⟩
        · have e1 : decide ((144115188075855872 : Int) ≤ (a : Int)) = false := by simp; omega
          have s6' := s6 (by omega)
          rw [s5 (by omega)] at s6'
          have hw : IntKind.u64.wrap (128 * (a : Int)) = 128 * (a : Int) := by rw [IntKind.wrap_u64]; omega
          have s6' : ∀ w : World, Calls Try.prog 24 #[.int .u64 (128 * (a : Int))] w fun r w' => r = .returned (.int .i64 ((sizeB a + 1 : Nat) : Int)) ∧ w = w' := s6'
          generalize sizeB a = z3 at *
          have hbig : 128 * a < 18446744073709551616 := by omega
          go_enter Try.func7, Try.ntmps7
          go_wp2_with fail
          with_reducible refine (awake7 _).mono ?_
          rintro e w1 ⟨rfl, hb1⟩
          have hz1 := hb1.size
          have HA1 := HA.out.below hb1
          have HB1 := HB.out.below hb1
          go_wp2_with fail
          with_reducible refine (s6' _).mono ?_
          rintro e w' ⟨rfl, rfl⟩
          go_wp2_with fail
          with_reducible refine (S3 _).mono ?_
          rintro e w' ⟨rfl, rfl⟩
          go_wp2_with fail
          with_reducible refine (S1 _).mono ?_
          rintro e w' ⟨rfl, rfl⟩
          go_wp2_with fail
          with_reducible refine (S2 _).mono ?_
          rintro e w' ⟨rfl, rfl⟩
          go_wp2_with fail
          with_reducible refine (S1 _).mono ?_
          rintro e w' ⟨rfl, rfl⟩
          go_wp2_with fail
          with_reducible refine (S2 _).mono ?_
          rintro e w' ⟨rfl, rfl⟩
          go_wp2_with fail
          with_reducible refine (put_e A n c xs _ HA1 HXX.out (by omega)).mono ?_
          rintro e w2 ⟨rfl, hb2⟩
          have hz2 := hb2.size
          have HA2 := HA1.below hb2
          have HB2 := HB1.below hb2
          go_wp2_with fail
          with_reducible refine (pput_c B m d (putB xs) ys _ HB2 HYY.out (by omega) (by omega)).mono ?_
          rintro e w3 ⟨rfl, hb3⟩
          have hz3 := hb3.size
          have HA3 := HA2.below hb3
          have HB3 := HB2.below hb3
          have HPA := Lib.hid (putB_app xs ys)
          have HB3' := Lib.hid (show Below w.heap.size w w3 from (hb1.trans (hb2.mono (by omega))).trans (hb3.mono (by omega)))
          clear hb1 hb2 hb3
          rw [← putB_app]
          go_wp2_with (first
            | (at_builtin
               refine wpList_unguard (by rfl) ?_
               refine wpList_app rfl (.tmp 70) (.tmp 71) _ rfl w3.heap.size 24 i0 _ 1 8 Try.underlying22 hi y0 y1 y2 rfl (by omega) _ 0 [] rfl (World.ownsRow_made w3 #[] 0 (Nat.le_refl _) (Nat.zero_le _) rfl) A n c (xs.map (Value.int .u64)) rfl HcA.out (HA3.alloc _) (ints_one _ _) (by unfold maxLen; omega) (by omega) (by simp) ?_
               intro v4 w4 hown4 hb4
               have hb34 := Below.step1 (Below.refl w3.heap.size w3) hb4 (Nat.le_refl _)
               have hz4 := hb34.size
               have HB4 := HB3.below hb34)
            | (at_builtin
               refine wpList_unguard (by rfl) ?_
               refine wpList_app rfl (.tmp 72) (.tmp 73) _ rfl w3.heap.size 24 i0 _ 1 8 Try.underlying22 hi y0 y1 y2 rfl (by omega) v4 (0 + n) ([] ++ xs.map (Value.int .u64)) rfl hown4 B m d (ys.map (Value.int .u64)) rfl HcB.out HB4 (ints_one _ _) (by unfold maxLen; omega) (by omega) (by omega) ?_
               intro v5 w5 hown5 hb5
               obtain ⟨C, q, rfl, hcC, hC⟩ := Sees.of_own hown5
               have hb35 := hb34.trans hb5
               have hz5 := hb35.size
               rw [List.nil_append, ← List.map_append, Nat.zero_add] at hC
               clear hown4 hown5 hcC))
          with_reducible refine (put_e C (n + m) q (xs ++ ys) _ hC HXY.out (by omega)).mono ?_
          rintro e w6 ⟨rfl, hb6⟩
          go_wp2_with fail
          go_ret
          exact ⟨by first | rfl | (simp; done) | (simp; omega), HB3'.out.trans ((hb35.mono (by omega)).trans (hb6.mono (by omega)))⟩
    · have d1 : decide (100 < (n : Int)) = false := by simp; omega
      have d2 : 100 < (m : Int) := by omega
      go_enter Try.func7, Try.ntmps7
      go_wp2_with fail
      with_reducible refine (awake7 _).mono ?_
      rintro e w1 ⟨rfl, hb1⟩
      go_wp2_with fail
      go_ret
      exact ⟨rfl, by (repeat' (first | (with_reducible exact Below.refl _ _) | (with_reducible assumption) | (with_reducible refine Below.alloc ?_ ?_ _) | (with_reducible refine Below.drew ?_) | (with_reducible refine Below_drewN ?_ _) | (with_reducible refine Below.setCell ?_ ?_ _) | (refine Below.step (B' := ?_) (b := ?_) ?_ ?_ ?_; rotate_left 2; (with_reducible assumption)) | go_size))⟩
  · have d1 : 100 < (n : Int) := by omega
    go_enter Try.func7, Try.ntmps7
    go_wp2_with fail
    with_reducible refine (awake7 _).mono ?_
    rintro e w1 ⟨rfl, hb1⟩
    go_wp2_with fail
    go_ret
    exact ⟨rfl, by (repeat' (first | (with_reducible exact Below.refl _ _) | (with_reducible assumption) | (with_reducible refine Below.alloc ?_ ?_ _) | (with_reducible refine Below.drew ?_) | (with_reducible refine Below_drewN ?_ _) | (with_reducible refine Below.setCell ?_ ?_ _) | (refine Below.step (B' := ?_) (b := ?_) ?_ ?_ ?_; rotate_left 2; (with_reducible assumption)) | go_size))⟩
end Go.Proofs.Try
