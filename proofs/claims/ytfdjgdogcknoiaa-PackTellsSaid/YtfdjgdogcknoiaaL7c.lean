/- The walk of PackTells. -/
import Derived.Test.YtfdjgdogcknoiaaL7b
namespace Go.Proofs.Try
open Go.RowKit
set_option linter.unusedVariables false
set_option linter.unusedSimpArgs false

theorem tk_all (bs : List UInt8) : ∃ (n : Int) (s : ByteArray) (e : Int), tkR (takeL bs) = .tuple #[.int .u64 n, .string s, .int .i64 e] := by
  cases takeL bs with
  | none => exact ⟨_, _, _, rfl⟩
  | some p => exact ⟨_, _, _, rfl⟩
theorem tt_all (bs : List UInt8) : ∃ (t s : ByteArray) (e : Int), ttR (takeTextL bs) = .tuple #[.string t, .string s, .int .i64 e] := by
  cases takeTextL bs with
  | none => exact ⟨_, _, _, rfl⟩
  | some p => exact ⟨_, _, _, rfl⟩
theorem ts_all (bs : List UInt8) : ∃ (L : List (List UInt8)) (s : ByteArray) (ev : Int), (takeTextsL bs = none → L = []) ∧ (∀ ts r, takeTextsL bs = some (ts, r) → L = ts) ∧ ∀ w e w', TsR (takeTextsL bs) w e w' → Below w.heap.size w w' ∧ ∃ A c, e = .returned (.tuple #[.slice A L.length c, .string s, .int .i64 ev]) ∧ Sees w' 1 A L.length (L.map sv) := by
  cases h : takeTextsL bs with
  | none =>
    refine ⟨[], ⟨#[]⟩, 70, fun _ => rfl, fun _ _ h => (by cases h), fun w e w' ht => ⟨ht.1, none, 0, ht.2.1 rfl, Sees.empty _ _ _⟩⟩
  | some p =>
    obtain ⟨ts, r⟩ := p
    refine ⟨ts, S r, 0, fun h => (by cases h), fun ts' r' h => ?_, fun w e w' ht => ⟨ht.1, ?_⟩⟩
    · injection h with h; injection h with h _
    · obtain ⟨A, c, h1, _, h2⟩ := ht.2.2 ts r rfl
      exact ⟨A, c, h1, h2⟩
theorem listB_ge' : ∀ ts : List (List UInt8), ts.length ≤ (listB ts).length
  | [] => by simp
  | t :: ts => by
    have := listB_ge' ts
    have h2 : 0 < (oneB t.length).length := List.length_pos_iff.2 (one_ne _)
    rw [listB_cons, List.length_cons, List.length_append]
    unfold textB
    rw [List.length_append]
    omega
theorem own3' (bs : List UInt8) (ts : List (List UInt8)) (r : List UInt8) (h : takeTextsL bs = some (ts, r)) (hs : bs.length ≤ 1000) : ts.length ≤ 1000 := by
  obtain ⟨e, hn, _⟩ := takeTextsL_own bs ts r h
  have hl := congrArg List.length e
  have hg := listB_ge' ts
  rw [List.length_append] at hl
  unfold textsB at hl
  rw [List.length_append] at hl
  omega
set_option maxRecDepth 100000 in
set_option maxHeartbeats 4000000 in
theorem walk_PackTells (a0 : ByteArray) (v1 v2 : Value) (a3 : Int) (w0 : a0.size ≤ maxLen) (w3 : (Lit.int .u64 a3).wf = true) (w : World) (h1 : ∃ xs, Row w .u64 v1 xs) (h2 : ∃ xs, Texts w v2 xs) :
    Calls Try.prog 3 #[.string a0, v1, v2, .int .u64 a3] w fun e w' => e = .returned (.bool true) ∧ Below w.heap.size w w' := by
  obtain ⟨bs, rfl⟩ : ∃ bs, a0 = S bs := ⟨a0.data.toList, (S_of a0).symm⟩
  have hsz := S_size bs
  rw [hsz] at w0
  have w0' : bs.length ≤ 9223372036854775807 := by unfold maxLen at w0; omega
  clear w0
  obtain ⟨xs, A, n, c, rfl, hcA, hmA, hsA, hwA⟩ := h1
  obtain ⟨ss, h2⟩ := h2
  obtain ⟨ts, B, m, d, rfl, hcB, hmB, hsB⟩ := h2.lists
  have hxs := row_in hwA
  have HLA := Lib.hid hsA.len
  have HLB := Lib.hid (show ts.length = m by have := hsB.1; simpa using this)
  have HA := Lib.hid hsA
  have HB := Lib.hid hsB
  obtain ⟨p0, p1⟩ := bounds_u64 w3
  have hmA' : n ≤ 9223372036854775807 := by unfold maxLen at hmA; omega
  clear w3 hwA hsA hsB hcA hcB h2 hmA
  obtain ⟨z, rfl⟩ := Int.eq_ofNat_of_zero_le p0
  by_cases c0 : bs.length ≤ 1000
  · have d0 : decide (1000 < (bs.length : Int)) = false := by simp; omega
    by_cases c1 : n ≤ 1000
    · have d1 : decide (1000 < (n : Int)) = false := by simp; omega
      by_cases hf : few ts 100 = true
      · obtain ⟨f1, f2, f3⟩ := few_len ts hf
        have hm : m ≤ 100 := by have := HLB.out; omega
        clear f1
        have HXX := Lib.hid hxs
        clear hxs
        have T1 := take_c bs (by omega)
        have T2 := rtake_c bs (by omega)
        have T3 := taketext_c bs (by omega)
        have T4 := rtaketext_c bs (by omega)
        have T5 := taketexts_c bs (by omega)
        have T6 := rtaketexts_c bs (by omega)
        obtain ⟨x1, x2, x3, hx⟩ := tk_all bs
        obtain ⟨y1, y2, y3, hy⟩ := tt_all bs
        obtain ⟨L, s, ev, hL0, hL1, hTS⟩ := ts_all bs
        have hLl : L.length ≤ 1000 := by
          cases h : takeTextsL bs with
          | none => rw [hL0 h]; simp
          | some p =>
            obtain ⟨us, r⟩ := p
            rw [hL1 us r h]
            exact (own3' bs us r h c0)
        rw [hx] at T1 T2
        rw [hy] at T3 T4
        have HTS := Lib.hid hTS
        have P3 := ptext_c bs bs (by omega) (by omega)
        have P4 := rtext_c bs bs (by omega) (by omega)
        have Z1 := psize_c z (by omega)
        have Z2 := rsize_c z (by omega)
        generalize sizeB z = zz at *
        clear hx hy hL0 hL1 hTS
        go_enter Try.func3, Try.ntmps3
        go_wp2_with fail
        with_reducible refine (awake7 _).mono ?_
        rintro e w1 ⟨rfl, hb1⟩
        have hz1 := hb1.size
        go_wp2_with fail
        with_reducible refine (few_c B m d ts 100 _ (HB.out.below hb1) hmB).mono ?_
        rintro e w' ⟨rfl, rfl⟩
        go_wp2_with fail
        with_reducible refine (T1 _).mono ?_
        rintro e w2 ⟨rfl, hb2⟩
        have hz2 := hb2.size
        go_wp2_with fail
        with_reducible refine (T2 _).mono ?_
        rintro e w3 ⟨rfl, hb3⟩
        have hz3 := hb3.size
        go_wp2_with fail
        with_reducible refine (T3 _).mono ?_
        rintro e w4 ⟨rfl, hb4⟩
        have hz4 := hb4.size
        go_wp2_with fail
        with_reducible refine (T4 _).mono ?_
        rintro e w5 ⟨rfl, hb5⟩
        have hz5 := hb5.size
        have HB5 := Lib.hid (show Below w.heap.size w w5 by (repeat' (first | (with_reducible exact Below.refl _ _) | (with_reducible assumption) | (with_reducible refine Below.alloc ?_ ?_ _) | (with_reducible refine Below.drew ?_) | (with_reducible refine Below_drewN ?_ _) | (with_reducible refine Below.setCell ?_ ?_ _) | (refine Below.step (B' := ?_) (b := ?_) ?_ ?_ ?_; rotate_left 2; (with_reducible assumption)) | go_size)))
        clear hb1 hb2 hb3 hb4 hb5
        go_wp2_with fail
        with_reducible refine (T5 _).mono ?_
        intro e w6 ht6
        obtain ⟨hb6, A6, c6, rfl, hs6⟩ := HTS.out _ _ _ ht6
        have hz6 := hb6.size
        have HB6 := Lib.hid (HB5.out.trans (hb6.mono (by omega)))
        clear ht6 hb6
        go_wp2_with fail
        with_reducible refine (T6 _).mono ?_
        intro e w7 ht7
        obtain ⟨hb7, A7, c7, rfl, hs7⟩ := HTS.out _ _ _ ht7
        have hz7 := hb7.size
        have HB7 := Lib.hid (HB6.out.trans (hb7.mono (by omega)))
        have HS6 := Lib.hid (hs6.below hb7)
        have HS7 := Lib.hid hs7
        clear ht7 hb7 hs6 hs7
        go_wp2_with fail
        with_reducible refine (same_t A6 A7 _ c6 c7 L _ HS6.out HS7.out (by omega)).mono ?_
        rintro e w8 ⟨rfl, hb8⟩
        have hz8 := hb8.size
        have HB8 := Lib.hid (HB7.out.trans (hb8.mono (by omega)))
        clear hb8
        have HA8 := Lib.hid (HA.out.below HB8.out)
        have HBB8 := Lib.hid (HB.out.below HB8.out)
        go_wp2_with fail
        with_reducible refine (pput_c A n c bs xs _ HA8.out HXX.out (by omega) (by omega)).mono ?_
        rintro e w9 ⟨rfl, hb9⟩
        have hz9 := hb9.size
        have HB9 := Lib.hid (HB8.out.trans (hb9.mono (by omega)))
        have HA9 := Lib.hid (HA8.out.below hb9)
        have HBB9 := Lib.hid (HBB8.out.below hb9)
        clear hb9
        go_wp2_with fail
        with_reducible refine (rput_c A n c bs xs _ HA9.out HXX.out (by omega) (by omega)).mono ?_
        rintro e w10 ⟨rfl, hb10⟩
        have hz10 := hb10.size
        have HB10 := Lib.hid (HB9.out.trans (hb10.mono (by omega)))
        have HBB10 := Lib.hid (HBB9.out.below hb10)
        clear hb10
        go_wp2_with fail
        with_reducible refine (P3 _).mono ?_
        rintro e w11 ⟨rfl, hb11⟩
        have hz11 := hb11.size
        have HB11 := Lib.hid (HB10.out.trans (hb11.mono (by omega)))
        have HBB11 := Lib.hid (HBB10.out.below hb11)
        clear hb11
        go_wp2_with fail
        with_reducible refine (P4 _).mono ?_
        rintro e w12 ⟨rfl, hb12⟩
        have hz12 := hb12.size
        have HB12 := Lib.hid (HB11.out.trans (hb12.mono (by omega)))
        have HBB12 := Lib.hid (HBB11.out.below hb12)
        clear hb12
        go_wp2_with fail
        with_reducible refine (ptexts_c B m d bs ts _ HBB12.out (by omega) (by omega) (by omega)).mono ?_
        rintro e w13 ⟨rfl, hb13⟩
        have hz13 := hb13.size
        have HB13 := Lib.hid (HB12.out.trans (hb13.mono (by omega)))
        have HBB13 := Lib.hid (HBB12.out.below hb13)
        clear hb13
        go_wp2_with fail
        with_reducible refine (rtexts_c B m d bs ts _ HBB13.out (by omega) (by omega) (by omega)).mono ?_
        rintro e w14 ⟨rfl, hb14⟩
        have hz14 := hb14.size
        have HB14 := Lib.hid (HB13.out.trans (hb14.mono (by omega)))
        clear hb14
        go_wp2_with fail
        with_reducible refine (Z1 _).mono ?_
        rintro e w' ⟨rfl, rfl⟩
        go_wp2_with fail
        with_reducible refine (Z2 _).mono ?_
        rintro e w15 ⟨rfl, hb15⟩
        have HB15 := Lib.hid (HB14.out.trans (hb15.mono (by omega)))
        clear hb15
        go_wp2_with fail
        go_ret
        exact ⟨by first | rfl | (simp; done), HB15.out⟩
      · have hf' : few ts 100 = false := by simpa using hf
        clear hf
        go_enter Try.func3, Try.ntmps3
        go_wp2_with fail
        with_reducible refine (awake7 _).mono ?_
        rintro e w1 ⟨rfl, hb1⟩
        go_wp2_with fail
        with_reducible refine (few_c B m d ts 100 _ (HB.out.below hb1) hmB).mono ?_
        rintro e w' ⟨rfl, rfl⟩
        rw [hf']
        go_wp2_with fail
        go_ret
        exact ⟨rfl, by (repeat' (first | (with_reducible exact Below.refl _ _) | (with_reducible assumption) | (with_reducible refine Below.alloc ?_ ?_ _) | (with_reducible refine Below.drew ?_) | (with_reducible refine Below_drewN ?_ _) | (with_reducible refine Below.setCell ?_ ?_ _) | (refine Below.step (B' := ?_) (b := ?_) ?_ ?_ ?_; rotate_left 2; (with_reducible assumption)) | go_size))⟩
    · have d1 : 1000 < (n : Int) := by omega
      go_enter Try.func3, Try.ntmps3
      go_wp2_with fail
      with_reducible refine (awake7 _).mono ?_
      rintro e w1 ⟨rfl, hb1⟩
      go_wp2_with fail
      go_ret
      exact ⟨rfl, by (repeat' (first | (with_reducible exact Below.refl _ _) | (with_reducible assumption) | (with_reducible refine Below.alloc ?_ ?_ _) | (with_reducible refine Below.drew ?_) | (with_reducible refine Below_drewN ?_ _) | (with_reducible refine Below.setCell ?_ ?_ _) | (refine Below.step (B' := ?_) (b := ?_) ?_ ?_ ?_; rotate_left 2; (with_reducible assumption)) | go_size))⟩
  · have d0 : 1000 < (bs.length : Int) := by omega
    go_enter Try.func3, Try.ntmps3
    go_wp2_with fail
    with_reducible refine (awake7 _).mono ?_
    rintro e w1 ⟨rfl, hb1⟩
    go_wp2_with fail
    go_ret
    exact ⟨rfl, by (repeat' (first | (with_reducible exact Below.refl _ _) | (with_reducible assumption) | (with_reducible refine Below.alloc ?_ ?_ _) | (with_reducible refine Below.drew ?_) | (with_reducible refine Below_drewN ?_ _) | (with_reducible refine Below.setCell ?_ ?_ _) | (refine Below.step (B' := ?_) (b := ?_) ?_ ?_ ?_; rotate_left 2; (with_reducible assumption)) | go_size))⟩
end Go.Proofs.Try
