/- The walk of PackOwn. -/
import Derived.Test.YtfdjgdogcknoiaaW7
namespace Go.Proofs.Try
open Go.RowKit
set_option linter.unusedVariables false
set_option linter.unusedSimpArgs false

theorem own1 (bs : List UInt8) (n : Nat) (r : List UInt8) (h : takeL bs = some (n, r)) (hs : bs.length ≤ 1000) : ∀ W, (Op.stringOp .add (S (oneB n)) (S r)).run Try.prog W = .ok (.string (S bs)) W := by
  intro W
  obtain ⟨e, hn⟩ := takeL_own bs n r h
  have h1 := add_S (oneB n) r (by have := congrArg List.length e; rw [List.length_append] at this; unfold maxLen; omega) W
  rwa [← e] at h1
theorem own2 (bs t r : List UInt8) (h : takeTextL bs = some (t, r)) (hs : bs.length ≤ 1000) : (∀ W, (Op.stringOp .add (S (textB t)) (S r)).run Try.prog W = .ok (.string (S bs)) W) ∧ t.length ≤ 1000 := by
  obtain ⟨e, hn⟩ := takeTextL_own bs t r h
  have hl := congrArg List.length e
  rw [List.length_append] at hl
  refine ⟨fun W => ?_, ?_⟩
  · have h1 := add_S (textB t) r (by unfold maxLen; omega) W
    rwa [← e] at h1
  · unfold textB at hl
    rw [List.length_append] at hl
    omega
theorem listB_ge : ∀ ts : List (List UInt8), ts.length ≤ (listB ts).length
  | [] => by simp
  | t :: ts => by
    have := listB_ge ts
    have h2 : 0 < (oneB t.length).length := List.length_pos_iff.2 (one_ne _)
    rw [listB_cons, List.length_cons, List.length_append]
    unfold textB
    rw [List.length_append]
    omega
theorem own3 (bs : List UInt8) (ts : List (List UInt8)) (r : List UInt8) (h : takeTextsL bs = some (ts, r)) (hs : bs.length ≤ 1000) : (∀ W, (Op.stringOp .add (S (textsB ts)) (S r)).run Try.prog W = .ok (.string (S bs)) W) ∧ (listB ts).length ≤ 1000 ∧ ts.length ≤ 1000 := by
  obtain ⟨e, hn, _⟩ := takeTextsL_own bs ts r h
  have hl := congrArg List.length e
  have hg := listB_ge ts
  rw [List.length_append] at hl
  refine ⟨fun W => ?_, ?_, ?_⟩
  · have h1 := add_S (textsB ts) r (by unfold maxLen; omega) W
    rwa [← e] at h1
  · unfold textsB at hl
    rw [List.length_append] at hl
    omega
  · unfold textsB at hl
    rw [List.length_append] at hl
    omega
set_option maxRecDepth 100000 in
set_option maxHeartbeats 3000000 in
theorem walk_PackOwn (a0 : ByteArray) (w0 : a0.size ≤ maxLen) (w : World) :
    Calls Try.prog 5 #[.string a0] w fun e w' => e = .returned (.bool true) ∧ Below w.heap.size w w' := by
  obtain ⟨bs, rfl⟩ : ∃ bs, a0 = S bs := ⟨a0.data.toList, (S_of a0).symm⟩
  have hsz := S_size bs
  rw [hsz] at w0
  have hnil : S [] = ⟨#[]⟩ := rfl
  have w0' : bs.length ≤ 9223372036854775807 := by unfold maxLen at w0; omega
  clear w0
  by_cases c0 : bs.length ≤ 1000
  · have d0 : decide (1000 < (bs.length : Int)) = false := by simp; omega
    have HT := take_c bs (by omega)
    have HTT := taketext_c bs (by omega)
    have HTS := taketexts_c bs (by omega)
    cases h1 : takeL bs with
    | none =>
      rw [h1] at HT
      unfold tkR at HT
      simp only at HT
      clear h1
      cases h2 : takeTextL bs with
      | none =>
        rw [h2] at HTT
        unfold ttR at HTT
        simp only at HTT
        clear h2
        cases h3 : takeTextsL bs with
        | none =>
          rw [h3] at HTS
          clear h3
          go_enter Try.func5, Try.ntmps5
          go_wp2_with fail
          with_reducible refine (awake7 _).mono ?_
          rintro e w1 ⟨rfl, hb1⟩
          have hz1 := hb1.size
          go_wp2_with fail
          with_reducible refine (HT _).mono ?_
          rintro e w2 ⟨rfl, hb2⟩
          have hz2 := hb2.size
          go_wp2_with fail
          with_reducible refine (HTT _).mono ?_
          rintro e w3 ⟨rfl, hb3⟩
          have hz3 := hb3.size
          go_wp2_with fail
          with_reducible refine (HTS _).mono ?_
          intro e w4 ht4
          obtain ⟨hb4, hN, hS⟩ := ht4
          have hz4 := hb4.size
          obtain rfl := hN rfl
          clear hN hS
          go_wp2_with fail
          have hB4 : Below w.heap.size w w4 := by (repeat' (first | (with_reducible exact Below.refl _ _) | (with_reducible assumption) | (with_reducible refine Below.alloc ?_ ?_ _) | (with_reducible refine Below.drew ?_) | (with_reducible refine Below_drewN ?_ _) | (with_reducible refine Below.setCell ?_ ?_ _) | (refine Below.step (B' := ?_) (b := ?_) ?_ ?_ ?_; rotate_left 2; (with_reducible assumption)) | go_size))
          have HB := Lib.hid hB4
          have hz0 := hB4.size
          clear hb1 hb2 hb3 hb4 hB4
          go_ret
          exact ⟨by first | rfl | (simp; done), HB.out⟩
        | some p =>
          obtain ⟨ts, r3⟩ := p
          obtain ⟨o3, o3l, o3n⟩ := own3 bs ts r3 h3 c0
          rw [h3] at HTS
          clear h3
          go_enter Try.func5, Try.ntmps5
          go_wp2_with fail
          with_reducible refine (awake7 _).mono ?_
          rintro e w1 ⟨rfl, hb1⟩
          have hz1 := hb1.size
          go_wp2_with fail
          with_reducible refine (HT _).mono ?_
          rintro e w2 ⟨rfl, hb2⟩
          have hz2 := hb2.size
          go_wp2_with fail
          with_reducible refine (HTT _).mono ?_
          rintro e w3 ⟨rfl, hb3⟩
          have hz3 := hb3.size
          go_wp2_with fail
          with_reducible refine (HTS _).mono ?_
          intro e w4 ht4
          obtain ⟨hb4, hN, hS⟩ := ht4
          have hz4 := hb4.size
          obtain ⟨A, c, rfl, hcap, hs4⟩ := hS _ _ rfl
          have HS4 := Lib.hid hs4
          clear hs4 hN hS
          go_wp2_with fail
          have hB4 : Below w.heap.size w w4 := by (repeat' (first | (with_reducible exact Below.refl _ _) | (with_reducible assumption) | (with_reducible refine Below.alloc ?_ ?_ _) | (with_reducible refine Below.drew ?_) | (with_reducible refine Below_drewN ?_ _) | (with_reducible refine Below.setCell ?_ ?_ _) | (refine Below.step (B' := ?_) (b := ?_) ?_ ?_ ?_; rotate_left 2; (with_reducible assumption)) | go_size))
          have HB := Lib.hid hB4
          have hz0 := hB4.size
          clear hb1 hb2 hb3 hb4 hB4
          have HY := ptexts_c A _ c [] ts _ HS4.out (by omega) (by simp) (by omega)
          rw [List.nil_append, hnil] at HY
          with_reducible refine HY.mono ?_
          rintro e w7 ⟨rfl, hb7⟩
          have HB := Lib.hid (HB.out.trans (hb7.mono (by omega)))
          clear hb7 HY
          go_wp2_with fail
          go_ret
          exact ⟨by first | rfl | (simp; done), HB.out⟩
      | some p =>
        obtain ⟨t, r2⟩ := p
        obtain ⟨o2, o2l⟩ := own2 bs t r2 h2 c0
        rw [h2] at HTT
        have HX := ptext_c [] t (by simp) (by omega)
        rw [List.nil_append, hnil] at HX
        unfold ttR at HTT
        simp only at HTT
        clear h2
        cases h3 : takeTextsL bs with
        | none =>
          rw [h3] at HTS
          clear h3
          go_enter Try.func5, Try.ntmps5
          go_wp2_with fail
          with_reducible refine (awake7 _).mono ?_
          rintro e w1 ⟨rfl, hb1⟩
          have hz1 := hb1.size
          go_wp2_with fail
          with_reducible refine (HT _).mono ?_
          rintro e w2 ⟨rfl, hb2⟩
          have hz2 := hb2.size
          go_wp2_with fail
          with_reducible refine (HTT _).mono ?_
          rintro e w3 ⟨rfl, hb3⟩
          have hz3 := hb3.size
          go_wp2_with fail
          with_reducible refine (HTS _).mono ?_
          intro e w4 ht4
          obtain ⟨hb4, hN, hS⟩ := ht4
          have hz4 := hb4.size
          obtain rfl := hN rfl
          clear hN hS
          go_wp2_with fail
          have hB4 : Below w.heap.size w w4 := by (repeat' (first | (with_reducible exact Below.refl _ _) | (with_reducible assumption) | (with_reducible refine Below.alloc ?_ ?_ _) | (with_reducible refine Below.drew ?_) | (with_reducible refine Below_drewN ?_ _) | (with_reducible refine Below.setCell ?_ ?_ _) | (refine Below.step (B' := ?_) (b := ?_) ?_ ?_ ?_; rotate_left 2; (with_reducible assumption)) | go_size))
          have HB := Lib.hid hB4
          have hz0 := hB4.size
          clear hb1 hb2 hb3 hb4 hB4
          with_reducible refine (HX _).mono ?_
          rintro e w6 ⟨rfl, hb6⟩
          have hz6 := hb6.size
          have HB := Lib.hid (HB.out.trans (hb6.mono (by omega)))
          clear hb6
          go_wp2_with fail
          go_ret
          exact ⟨by first | rfl | (simp; done), HB.out⟩
        | some p =>
          obtain ⟨ts, r3⟩ := p
          obtain ⟨o3, o3l, o3n⟩ := own3 bs ts r3 h3 c0
          rw [h3] at HTS
          clear h3
          go_enter Try.func5, Try.ntmps5
          go_wp2_with fail
          with_reducible refine (awake7 _).mono ?_
          rintro e w1 ⟨rfl, hb1⟩
          have hz1 := hb1.size
          go_wp2_with fail
          with_reducible refine (HT _).mono ?_
          rintro e w2 ⟨rfl, hb2⟩
          have hz2 := hb2.size
          go_wp2_with fail
          with_reducible refine (HTT _).mono ?_
          rintro e w3 ⟨rfl, hb3⟩
          have hz3 := hb3.size
          go_wp2_with fail
          with_reducible refine (HTS _).mono ?_
          intro e w4 ht4
          obtain ⟨hb4, hN, hS⟩ := ht4
          have hz4 := hb4.size
          obtain ⟨A, c, rfl, hcap, hs4⟩ := hS _ _ rfl
          have HS4 := Lib.hid hs4
          clear hs4 hN hS
          go_wp2_with fail
          have hB4 : Below w.heap.size w w4 := by (repeat' (first | (with_reducible exact Below.refl _ _) | (with_reducible assumption) | (with_reducible refine Below.alloc ?_ ?_ _) | (with_reducible refine Below.drew ?_) | (with_reducible refine Below_drewN ?_ _) | (with_reducible refine Below.setCell ?_ ?_ _) | (refine Below.step (B' := ?_) (b := ?_) ?_ ?_ ?_; rotate_left 2; (with_reducible assumption)) | go_size))
          have HB := Lib.hid hB4
          have hz0 := hB4.size
          clear hb1 hb2 hb3 hb4 hB4
          with_reducible refine (HX _).mono ?_
          rintro e w6 ⟨rfl, hb6⟩
          have hz6 := hb6.size
          have HS4 := Lib.hid (HS4.out.below hb6)
          have HB := Lib.hid (HB.out.trans (hb6.mono (by omega)))
          clear hb6
          go_wp2_with fail
          have HY := ptexts_c A _ c [] ts _ HS4.out (by omega) (by simp) (by omega)
          rw [List.nil_append, hnil] at HY
          with_reducible refine HY.mono ?_
          rintro e w7 ⟨rfl, hb7⟩
          have HB := Lib.hid (HB.out.trans (hb7.mono (by omega)))
          clear hb7 HY
          go_wp2_with fail
          go_ret
          exact ⟨by first | rfl | (simp; done), HB.out⟩
    | some p =>
      obtain ⟨n, r⟩ := p
      have o1 := own1 bs n r h1 c0
      have on := (takeL_own bs n r h1).2
      rw [h1] at HT
      have HP : ∀ w : World, Calls Try.prog 18 #[.string ⟨#[]⟩, .slice (some ⟨w.heap.size, 0, none⟩) 1 1] (w.alloc (.cells #[.int .u64 (n : Int)] 24)) fun r w' => r = .returned (.string (S (oneB n))) ∧ Below (w.alloc (.cells #[.int .u64 (n : Int)] 24)).heap.size (w.alloc (.cells #[.int .u64 (n : Int)] 24)) w' := fun w => by
        have := pput_c (some ⟨w.heap.size, 0, none⟩) 1 1 [] [(n : Int)] _ (Sees.one w (.int .u64 (n : Int)) 24) (by intro x hx; rw [List.mem_singleton] at hx; subst hx; omega) (by omega) (by simp)
        rw [putB_one, List.nil_append, hnil] at this
        exact this
      unfold tkR at HT
      simp only at HT
      clear h1
      cases h2 : takeTextL bs with
      | none =>
        rw [h2] at HTT
        unfold ttR at HTT
        simp only at HTT
        clear h2
        cases h3 : takeTextsL bs with
        | none =>
          rw [h3] at HTS
          clear h3
          go_enter Try.func5, Try.ntmps5
          go_wp2_with fail
          with_reducible refine (awake7 _).mono ?_
          rintro e w1 ⟨rfl, hb1⟩
          have hz1 := hb1.size
          go_wp2_with fail
          with_reducible refine (HT _).mono ?_
          rintro e w2 ⟨rfl, hb2⟩
          have hz2 := hb2.size
          go_wp2_with fail
          with_reducible refine (HTT _).mono ?_
          rintro e w3 ⟨rfl, hb3⟩
          have hz3 := hb3.size
          go_wp2_with fail
          with_reducible refine (HTS _).mono ?_
          intro e w4 ht4
          obtain ⟨hb4, hN, hS⟩ := ht4
          have hz4 := hb4.size
          obtain rfl := hN rfl
          clear hN hS
          go_wp2_with fail
          have hB4 : Below w.heap.size w w4 := by (repeat' (first | (with_reducible exact Below.refl _ _) | (with_reducible assumption) | (with_reducible refine Below.alloc ?_ ?_ _) | (with_reducible refine Below.drew ?_) | (with_reducible refine Below_drewN ?_ _) | (with_reducible refine Below.setCell ?_ ?_ _) | (refine Below.step (B' := ?_) (b := ?_) ?_ ?_ ?_; rotate_left 2; (with_reducible assumption)) | go_size))
          have HB := Lib.hid hB4
          have hz0 := hB4.size
          clear hb1 hb2 hb3 hb4 hB4
          with_reducible refine (HP _).mono ?_
          rintro e w5 ⟨rfl, hb5⟩
          have hz5 := hb5.size
          simp only [World.size_alloc] at hz5
          have HB := Lib.hid (HB.out.trans (((Below.refl _ _).alloc (by omega) _).trans (hb5.mono (by simp; omega))))
          clear hb5
          go_wp2_with fail
          go_ret
          exact ⟨by first | rfl | (simp; done), HB.out⟩
        | some p =>
          obtain ⟨ts, r3⟩ := p
          obtain ⟨o3, o3l, o3n⟩ := own3 bs ts r3 h3 c0
          rw [h3] at HTS
          clear h3
          go_enter Try.func5, Try.ntmps5
          go_wp2_with fail
          with_reducible refine (awake7 _).mono ?_
          rintro e w1 ⟨rfl, hb1⟩
          have hz1 := hb1.size
          go_wp2_with fail
          with_reducible refine (HT _).mono ?_
          rintro e w2 ⟨rfl, hb2⟩
          have hz2 := hb2.size
          go_wp2_with fail
          with_reducible refine (HTT _).mono ?_
          rintro e w3 ⟨rfl, hb3⟩
          have hz3 := hb3.size
          go_wp2_with fail
          with_reducible refine (HTS _).mono ?_
          intro e w4 ht4
          obtain ⟨hb4, hN, hS⟩ := ht4
          have hz4 := hb4.size
          obtain ⟨A, c, rfl, hcap, hs4⟩ := hS _ _ rfl
          have HS4 := Lib.hid hs4
          clear hs4 hN hS
          go_wp2_with fail
          have hB4 : Below w.heap.size w w4 := by (repeat' (first | (with_reducible exact Below.refl _ _) | (with_reducible assumption) | (with_reducible refine Below.alloc ?_ ?_ _) | (with_reducible refine Below.drew ?_) | (with_reducible refine Below_drewN ?_ _) | (with_reducible refine Below.setCell ?_ ?_ _) | (refine Below.step (B' := ?_) (b := ?_) ?_ ?_ ?_; rotate_left 2; (with_reducible assumption)) | go_size))
          have HB := Lib.hid hB4
          have hz0 := hB4.size
          clear hb1 hb2 hb3 hb4 hB4
          with_reducible refine (HP _).mono ?_
          rintro e w5 ⟨rfl, hb5⟩
          have hz5 := hb5.size
          simp only [World.size_alloc] at hz5
          have HS4 := Lib.hid ((HS4.out.below ((Below.refl _ _).alloc (Nat.le_refl _) _)).below (hb5.mono (by simp)))
          have HB := Lib.hid (HB.out.trans (((Below.refl _ _).alloc (by omega) _).trans (hb5.mono (by simp; omega))))
          clear hb5
          go_wp2_with fail
          have HY := ptexts_c A _ c [] ts _ HS4.out (by omega) (by simp) (by omega)
          rw [List.nil_append, hnil] at HY
          with_reducible refine HY.mono ?_
          rintro e w7 ⟨rfl, hb7⟩
          have HB := Lib.hid (HB.out.trans (hb7.mono (by omega)))
          clear hb7 HY
          go_wp2_with fail
          go_ret
          exact ⟨by first | rfl | (simp; done), HB.out⟩
      | some p =>
        obtain ⟨t, r2⟩ := p
        obtain ⟨o2, o2l⟩ := own2 bs t r2 h2 c0
        rw [h2] at HTT
        have HX := ptext_c [] t (by simp) (by omega)
        rw [List.nil_append, hnil] at HX
        unfold ttR at HTT
        simp only at HTT
        clear h2
        cases h3 : takeTextsL bs with
        | none =>
          rw [h3] at HTS
          clear h3
          go_enter Try.func5, Try.ntmps5
          go_wp2_with fail
          with_reducible refine (awake7 _).mono ?_
          rintro e w1 ⟨rfl, hb1⟩
          have hz1 := hb1.size
          go_wp2_with fail
          with_reducible refine (HT _).mono ?_
          rintro e w2 ⟨rfl, hb2⟩
          have hz2 := hb2.size
          go_wp2_with fail
          with_reducible refine (HTT _).mono ?_
          rintro e w3 ⟨rfl, hb3⟩
          have hz3 := hb3.size
          go_wp2_with fail
          with_reducible refine (HTS _).mono ?_
          intro e w4 ht4
          obtain ⟨hb4, hN, hS⟩ := ht4
          have hz4 := hb4.size
          obtain rfl := hN rfl
          clear hN hS
          go_wp2_with fail
          have hB4 : Below w.heap.size w w4 := by (repeat' (first | (with_reducible exact Below.refl _ _) | (with_reducible assumption) | (with_reducible refine Below.alloc ?_ ?_ _) | (with_reducible refine Below.drew ?_) | (with_reducible refine Below_drewN ?_ _) | (with_reducible refine Below.setCell ?_ ?_ _) | (refine Below.step (B' := ?_) (b := ?_) ?_ ?_ ?_; rotate_left 2; (with_reducible assumption)) | go_size))
          have HB := Lib.hid hB4
          have hz0 := hB4.size
          clear hb1 hb2 hb3 hb4 hB4
          with_reducible refine (HP _).mono ?_
          rintro e w5 ⟨rfl, hb5⟩
          have hz5 := hb5.size
          simp only [World.size_alloc] at hz5
          have HB := Lib.hid (HB.out.trans (((Below.refl _ _).alloc (by omega) _).trans (hb5.mono (by simp; omega))))
          clear hb5
          go_wp2_with fail
          with_reducible refine (HX _).mono ?_
          rintro e w6 ⟨rfl, hb6⟩
          have hz6 := hb6.size
          have HB := Lib.hid (HB.out.trans (hb6.mono (by omega)))
          clear hb6
          go_wp2_with fail
          go_ret
          exact ⟨by first | rfl | (simp; done), HB.out⟩
        | some p =>
          obtain ⟨ts, r3⟩ := p
          obtain ⟨o3, o3l, o3n⟩ := own3 bs ts r3 h3 c0
          rw [h3] at HTS
          clear h3
          go_enter Try.func5, Try.ntmps5
          go_wp2_with fail
          with_reducible refine (awake7 _).mono ?_
          rintro e w1 ⟨rfl, hb1⟩
          have hz1 := hb1.size
          go_wp2_with fail
          with_reducible refine (HT _).mono ?_
          rintro e w2 ⟨rfl, hb2⟩
          have hz2 := hb2.size
          go_wp2_with fail
          with_reducible refine (HTT _).mono ?_
          rintro e w3 ⟨rfl, hb3⟩
          have hz3 := hb3.size
          go_wp2_with fail
          with_reducible refine (HTS _).mono ?_
          intro e w4 ht4
          obtain ⟨hb4, hN, hS⟩ := ht4
          have hz4 := hb4.size
          obtain ⟨A, c, rfl, hcap, hs4⟩ := hS _ _ rfl
          have HS4 := Lib.hid hs4
          clear hs4 hN hS
          go_wp2_with fail
          have hB4 : Below w.heap.size w w4 := by (repeat' (first | (with_reducible exact Below.refl _ _) | (with_reducible assumption) | (with_reducible refine Below.alloc ?_ ?_ _) | (with_reducible refine Below.drew ?_) | (with_reducible refine Below_drewN ?_ _) | (with_reducible refine Below.setCell ?_ ?_ _) | (refine Below.step (B' := ?_) (b := ?_) ?_ ?_ ?_; rotate_left 2; (with_reducible assumption)) | go_size))
          have HB := Lib.hid hB4
          have hz0 := hB4.size
          clear hb1 hb2 hb3 hb4 hB4
          with_reducible refine (HP _).mono ?_
          rintro e w5 ⟨rfl, hb5⟩
          have hz5 := hb5.size
          simp only [World.size_alloc] at hz5
          have HS4 := Lib.hid ((HS4.out.below ((Below.refl _ _).alloc (Nat.le_refl _) _)).below (hb5.mono (by simp)))
          have HB := Lib.hid (HB.out.trans (((Below.refl _ _).alloc (by omega) _).trans (hb5.mono (by simp; omega))))
          clear hb5
          go_wp2_with fail
          with_reducible refine (HX _).mono ?_
          rintro e w6 ⟨rfl, hb6⟩
          have hz6 := hb6.size
          have HS4 := Lib.hid (HS4.out.below hb6)
          have HB := Lib.hid (HB.out.trans (hb6.mono (by omega)))
          clear hb6
          go_wp2_with fail
          have HY := ptexts_c A _ c [] ts _ HS4.out (by omega) (by simp) (by omega)
          rw [List.nil_append, hnil] at HY
          with_reducible refine HY.mono ?_
          rintro e w7 ⟨rfl, hb7⟩
          have HB := Lib.hid (HB.out.trans (hb7.mono (by omega)))
          clear hb7 HY
          go_wp2_with fail
          go_ret
          exact ⟨by first | rfl | (simp; done), HB.out⟩
  · have d0 : 1000 < (bs.length : Int) := by omega
    go_enter Try.func5, Try.ntmps5
    go_wp2_with fail
    with_reducible refine (awake7 _).mono ?_
    rintro e w1 ⟨rfl, hb1⟩
    go_wp2_with fail
    go_ret
    exact ⟨rfl, by (repeat' (first | (with_reducible exact Below.refl _ _) | (with_reducible assumption) | (with_reducible refine Below.alloc ?_ ?_ _) | (with_reducible refine Below.drew ?_) | (with_reducible refine Below_drewN ?_ _) | (with_reducible refine Below.setCell ?_ ?_ _) | (refine Below.step (B' := ?_) (b := ?_) ?_ ?_ ?_; rotate_left 2; (with_reducible assumption)) | go_size))⟩
end Go.Proofs.Try
