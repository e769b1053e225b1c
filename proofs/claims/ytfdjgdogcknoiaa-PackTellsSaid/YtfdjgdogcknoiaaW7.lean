/- The laws of layer 7: awake. -/
import Derived.Test.YtfdjgdogcknoiaaPackC
namespace Go.Proofs.Try
open Go.RowKit
set_option linter.unusedVariables false
set_option linter.unusedSimpArgs false

theorem o300 : oneB 300 = [172, 2] := by
  rw [oneB_high 300 (by omega), show 300 / 128 = 2 from rfl, oneB_low 2 (by omega)]; rfl
theorem put_aw : [120] ++ putB [5, 300, 0] = [120, 5, 172, 2, 0] := by
  have e : putB [5, 300, 0] = oneB 5 ++ (oneB 300 ++ (oneB 0 ++ [])) := rfl
  rw [e, o300, oneB_low 5 (by omega), oneB_low 0 (by omega)]; rfl
theorem t300 : takeL [172, 2, 121] = some (300, [121]) := by
  have := takeL_one 300 (by omega) [121]
  rw [o300] at this
  exact this
theorem tbad : takeL [128, 0] = none := by
  refine takeL_zero [128, 0] 1 (fun j hj => ?_) (by decide) (by decide) (by omega)
  have : j = 0 := by omega
  subst this
  decide
theorem textB_ab : textB [97, 98] = [2, 97, 98] := by
  have e : textB [97, 98] = oneB 2 ++ [97, 98] := rfl
  rw [e, oneB_low 2 (by omega)]; rfl
theorem ttab : takeTextL [2, 97, 98] = some ([97, 98], []) := by
  have := takeTextL_text [97, 98] [] (by decide)
  rw [textB_ab] at this
  exact this
theorem textsB_a : textsB [[97], []] = [2, 1, 97, 0] := by
  have e : textsB [[97], []] = oneB 2 ++ ((oneB 1 ++ [97]) ++ ((oneB 0 ++ []) ++ [])) := rfl
  rw [e, oneB_low 2 (by omega), oneB_low 1 (by omega), oneB_low 0 (by omega)]; rfl
theorem tsa : takeTextsL [2, 1, 97, 0] = some ([[97], []], []) := by
  have := takeTextsL_texts [[97], []] [] (by intro t ht; rcases List.mem_cons.1 ht with rfl | ht
                                             · decide
                                             · rw [List.mem_singleton] at ht; subst ht; decide) (by decide)
  rw [textsB_a] at this
  exact this
theorem tsbad : takeTextsL [2, 0] = none := by
  have h1 : takeL [2, 0] = some (2, [0]) := by
    have := takeL_one 2 (by omega) [0]
    rw [oneB_low 2 (by omega)] at this
    exact this
  have h2 : takeTextL [0] = some ([], []) := by
    have := takeTextL_text [] [] (by decide)
    have e : textB [] = oneB 0 ++ [] := rfl
    rw [e, oneB_low 0 (by omega)] at this
    exact this
  have h3 : takeTextL [] = none := tt_none1 [] (takeL_end [] (fun j hj => by simp at hj))
  rw [ts_some _ _ _ h1, takeNL_some 1 _ _ _ h2, takeNL_none 0 _ h3]; rfl
theorem s127 : sizeB 127 = 1 := sizeB_low 127 (by omega)
theorem s128 : sizeB 128 = 2 := by rw [sizeB_high 128 (by omega), show 128 / 128 = 1 from rfl, sizeB_low 1 (by omega)]
theorem smax : sizeB 18446744073709551615 = 10 := by
  have h1 := sizeB_10 18446744073709551615 (by omega)
  have h2 := val_lt (oneB 18446744073709551615)
  rw [val_one] at h2
  have h3 : ¬ (oneB 18446744073709551615).length ≤ 9 := fun h => by
    have h4 : 128 ^ (oneB 18446744073709551615).length ≤ 128 ^ 9 := Nat.pow_le_pow_right (by omega) h
    have h5 : (128 : Nat) ^ 9 < 18446744073709551615 := by decide
    omega
  unfold sizeB at *
  omega
set_option maxRecDepth 100000 in
set_option maxHeartbeats 2000000 in
theorem awake7 (w : World) :
    Calls Try.prog 9 #[] w fun r w' => r = .returned (.bool true) ∧ Below w.heap.size w w' := by
  have C1 : ∀ w : World, Calls Try.prog 18 #[.string ⟨#[120]⟩, .slice (some ⟨w.heap.size, 0, none⟩) 3 3] (w.alloc (.cells #[.int .u64 5, .int .u64 300, .int .u64 0] 24)) fun r w' => r = .returned (.string ⟨#[120, 5, 172, 2, 0]⟩) ∧ Below (w.heap.size + 1) (w.alloc (.cells #[.int .u64 5, .int .u64 300, .int .u64 0] 24)) w' := fun w => by
    have := pput_c (some ⟨w.heap.size, 0, none⟩) 3 3 [120] [5, 300, 0] _ (Sees.new w #[.int .u64 5, .int .u64 300, .int .u64 0] 24) (by simp) (by omega) (by simp)
    rw [put_aw] at this
    simpa [S] using this
  have C2 := take_c [172, 2, 121] (by simp)
  rw [t300] at C2
  have C3 := take_c [128, 0] (by simp)
  rw [tbad] at C3
  have C4 := ptext_c [] [97, 98] (by simp) (by simp)
  rw [textB_ab] at C4
  have C5 := taketext_c [2, 97, 98] (by simp)
  rw [ttab] at C5
  have C6 : ∀ w : World, Calls Try.prog 22 #[.string ⟨#[]⟩, .slice (some ⟨w.heap.size, 0, none⟩) 2 2] (w.alloc (.cells #[.string ⟨#[97]⟩, .string ⟨#[]⟩] 9)) fun r w' => r = .returned (.string ⟨#[2, 1, 97, 0]⟩) ∧ Below (w.heap.size + 1) (w.alloc (.cells #[.string ⟨#[97]⟩, .string ⟨#[]⟩] 9)) w' := fun w => by
    have := ptexts_c (some ⟨w.heap.size, 0, none⟩) 2 2 [] [[97], []] _ (Sees.new w #[.string ⟨#[97]⟩, .string ⟨#[]⟩] 9) (by omega) (by simp) (by rw [listB_cons, listB_cons]; unfold textB; rw [oneB_low _ (by simp), oneB_low _ (by simp)]; decide)
    rw [List.nil_append, textsB_a] at this
    simpa [S] using this
  have C7 := taketexts_c [2, 1, 97, 0] (by simp)
  rw [tsa] at C7
  have C8 := taketexts_c [2, 0] (by simp)
  rw [tsbad] at C8
  have C9 : ∀ w : World, Calls Try.prog 24 #[.int .u64 127] w fun r w' => r = .returned (.int .i64 1) ∧ w = w' := fun w => by
    have := psize_c 127 (by omega) w
    rw [s127] at this
    exact this
  have C10 : ∀ w : World, Calls Try.prog 24 #[.int .u64 128] w fun r w' => r = .returned (.int .i64 2) ∧ w = w' := fun w => by
    have := psize_c 128 (by omega) w
    rw [s128] at this
    exact this
  have C11 : ∀ w : World, Calls Try.prog 24 #[.int .u64 18446744073709551615] w fun r w' => r = .returned (.int .i64 10) ∧ w = w' := fun w => by
    have := psize_c 18446744073709551615 (by omega) w
    rw [smax] at this
    exact this
  unfold tkR at C2 C3
  unfold ttR at C5
  simp only [S] at C2 C3 C4 C5 C7 C8
  go_enter Try.func9, Try.ntmps9
  go_wp2_with fail
  refine (C1 _).mono ?_
  rintro e w1 ⟨rfl, hb1⟩
  have hz1 := hb1.size
  simp only [World.size_alloc] at hz1
  have HB1 := Lib.hid (show Below w.heap.size w w1 from ((Below.refl _ _).alloc (Nat.le_refl _) _).trans (hb1.mono (by omega)))
  clear hb1
  go_wp2_with fail
  refine (C2 _).mono ?_
  rintro e w2 ⟨rfl, hb2⟩
  have hz2 := hb2.size
  go_wp2_with fail
  refine (C3 _).mono ?_
  rintro e w3 ⟨rfl, hb3⟩
  have hz3 := hb3.size
  go_wp2_with fail
  refine (C4 _).mono ?_
  rintro e w4 ⟨rfl, hb4⟩
  have hz4 := hb4.size
  go_wp2_with fail
  refine (C5 _).mono ?_
  rintro e w5 ⟨rfl, hb5⟩
  have hz5 := hb5.size
  have HB5 := Lib.hid (show Below w.heap.size w w5 from HB1.out.trans ((hb2.mono (by omega)).trans ((hb3.mono (by omega)).trans ((hb4.mono (by omega)).trans (hb5.mono (by omega))))))
  clear hb2 hb3 hb4 hb5
  go_wp2_with fail
  refine (C6 _).mono ?_
  rintro e w6 ⟨rfl, hb6⟩
  have hz6 := hb6.size
  simp only [World.size_alloc] at hz6
  have HB6 := Lib.hid (show Below w.heap.size w w6 from HB5.out.trans (((Below.refl _ _).alloc (by omega) _).trans (hb6.mono (by omega))))
  clear hb6
  go_wp2_with fail
  refine (C7 _).mono ?_
  intro e w7 ht7
  obtain ⟨hb7, _, h7⟩ := ht7
  obtain ⟨A, c, rfl, hcap, hs7⟩ := h7 _ _ rfl
  have hz7 := hb7.size
  have HB7 := Lib.hid (show Below w.heap.size w w7 from HB6.out.trans (hb7.mono (by omega)))
  clear hb7 h7
  go_wp2_with fail
  refine (C8 _).mono ?_
  intro e w8 ht8
  obtain ⟨hb8, h8, _⟩ := ht8
  obtain rfl := h8 rfl
  have hz8 := hb8.size
  have HS8 := Lib.hid (hs7.below hb8)
  have HB8 := Lib.hid (show Below w.heap.size w w8 from HB7.out.trans (hb8.mono (by omega)))
  clear hb8 h8 hs7
  go_wp2_with fail
  with_reducible refine (same_t _ _ 2 _ _ [[97], []] _ (HS8.out.below ((Below.refl _ _).alloc (Nat.le_refl _) _)) (Sees.new _ _ _) (by omega)).mono ?_
  rintro e w9 ⟨rfl, hb9⟩
  go_wp2_with fail
  with_reducible refine (C9 _).mono ?_
  rintro e w' ⟨rfl, rfl⟩
  go_wp2_with fail
  with_reducible refine (C10 _).mono ?_
  rintro e w' ⟨rfl, rfl⟩
  go_wp2_with fail
  with_reducible refine (C11 _).mono ?_
  rintro e w' ⟨rfl, rfl⟩
  go_wp2_with fail
  go_ret
  have hz9 := hb9.size
  simp only [World.size_alloc] at hz9
  exact ⟨rfl, HB8.out.trans (((Below.refl _ _).alloc (by omega) _).trans (hb9.mono (by simp; omega)))⟩
end Go.Proofs.Try
