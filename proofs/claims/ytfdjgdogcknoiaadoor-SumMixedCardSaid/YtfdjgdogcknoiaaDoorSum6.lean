/- linhayref06.Open; awake of layer 6. -/
import Derived.Test.YtfdjgdogcknoiaaDoorSum5
namespace Go.Proofs.Tryd
open Go.RowKit Go.Deep
set_option linter.unusedVariables false
set_option linter.unusedSimpArgs false

set_option maxRecDepth 100000 in
set_option maxHeartbeats 1000000 in
theorem ropen_c (s : List UInt8) (h : s.length ≤ 500000) (w : World) :
    Calls Tryd.prog 11 #[.string (S s)] w fun r w' => r = .returned (opR (openL s)) ∧ Below w.heap.size w w' := by
  have hsz := S_size s
  by_cases h8 : s.length < 8
  · have HO := Lib.hid (open_short s h8)
    have e0 : (s.length : Int) < 8 := by omega
    go_enter Tryd.func11, Tryd.ntmps11
    go_wp2_with fail
    refine bodyPost_ret (by simp [results, Tryd.results11, go_sem]; try rfl) rfl ?_
    exact ⟨by rw [HO.out]; rfl, Below.refl _ _⟩
  · have e0 : decide ((s.length : Int) < 8) = false := by simp; omega
    have hm := S_mid s s.length rfl
    have hml : (mid s).length ≤ 500000 := by unfold mid; rw [List.length_drop, List.length_take]; omega
    have hw : IntKind.i64.wrap ((s.length : Int) - 4) = (s.length : Int) - 4 := by rw [IntKind.wrap_i64]; omega
    have hw2 : ((s.length : Int) - 4).toNat = s.length - 4 := by omega
    have i1 : (4 : Int) ≤ (s.length : Int) - 4 := by omega
    have i2 : (s.length : Int) - 4 ≤ (s.length : Int) := by omega
    have i3 : (0 : Int) ≤ (s.length : Int) - 4 := by omega
    have HS := rseal_c (mid s) hml
    have hq := S_same (sealL (mid s)) s
    by_cases hc : sealL (mid s) = s
    · have HO := Lib.hid (open_yes s (by omega) hc)
      rw [decide_eq_true hc] at hq
      clear hc
      go_enter Tryd.func11, Tryd.ntmps11
      go_wp2_with fail
      with_reducible refine (HS _).mono ?_
      rintro e w1 ⟨rfl, hb1⟩
      go_wp2_with fail
      refine bodyPost_ret (by simp [results, Tryd.results11, go_sem]; try rfl) rfl ?_
      exact ⟨by rw [HO.out]; rfl, hb1⟩
    · have HO := Lib.hid (open_no s hc)
      rw [decide_eq_false hc] at hq
      clear hc
      go_enter Tryd.func11, Tryd.ntmps11
      go_wp2_with fail
      with_reducible refine (HS _).mono ?_
      rintro e w1 ⟨rfl, hb1⟩
      go_wp2_with fail
      refine bodyPost_ret (by simp [results, Tryd.results11, go_sem]; try rfl) rfl ?_
      exact ⟨by rw [HO.out]; rfl, hb1⟩
theorem aw1 : (crc 0#32 [49, 50, 51, 52, 53, 54, 55, 56, 57]).toNat = 806403967 := by decide +kernel
theorem aw2 : sealL [] = [0, 0, 0, 0, 0, 0, 0, 0] := by decide +kernel
theorem aw3 : openL [97, 98, 99, 100, 101, 102, 103, 104, 105] = none := open_no _ (by decide +kernel)
theorem aw4 : sealL [97, 98] = [0, 0, 0, 2, 97, 98] ++ be4 (sumL [0, 0, 0, 2, 97, 98]) := rfl
set_option maxRecDepth 100000 in
set_option maxHeartbeats 2000000 in
theorem awake6 (w : World) (hT : Steps w) :
    Calls Tryd.prog 9 #[] w fun r w' => r = .returned (.bool true) ∧ Below w.heap.size w w' := by
  have HT := Lib.hid hT
  clear hT
  have C1 : ∀ w : World, Steps w → Calls Tryd.prog 16 #[.string ⟨#[97, 98]⟩] w fun r w' => r = .returned (.string (S (sealL [97, 98]))) ∧ Below w.heap.size w w' := fun w hT => seal_c [97, 98] (by simp) w hT
  have C2 : ∀ w : World, Steps w → Calls Tryd.prog 10 #[.string (S (sealL [97, 98]))] w fun r w' => r = .returned (.tuple #[.string ⟨#[97, 98]⟩, .bool true]) ∧ Below w.heap.size w w' := fun w hT => by
    have := open_c (sealL [97, 98]) (by rw [seal_len]; simp) w hT
    rw [open_seal] at this
    exact this
  have C3 : ∀ w : World, Steps w → Calls Tryd.prog 10 #[.string ⟨#[97, 98, 99, 100, 101, 102, 103, 104, 105]⟩] w fun r w' => r = .returned (.tuple #[.string ⟨#[]⟩, .bool false]) ∧ Below w.heap.size w w' := fun w hT => by
    have := open_c [97, 98, 99, 100, 101, 102, 103, 104, 105] (by simp) w hT
    rw [aw3] at this
    exact this
  have C4 : ∀ w : World, Steps w → Calls Tryd.prog 10 #[.string ⟨#[]⟩] w fun r w' => r = .returned (.tuple #[.string ⟨#[]⟩, .bool false]) ∧ Below w.heap.size w w' := fun w hT => by
    have := open_c [] (by simp) w hT
    rw [open_short _ (by simp)] at this
    exact this
  have C5 : ∀ w : World, Steps w → Calls Tryd.prog 12 #[.slice (some ⟨w.heap.size, 0, none⟩) 3 3] (w.alloc (.cells #[.string ⟨#[49, 50, 51, 52]⟩, .string ⟨#[]⟩, .string ⟨#[53, 54, 55, 56, 57]⟩] 9)) fun r w' => r = .returned (.int .u32 806403967) ∧ (w.alloc (.cells #[.string ⟨#[49, 50, 51, 52]⟩, .string ⟨#[]⟩, .string ⟨#[53, 54, 55, 56, 57]⟩] 9)) = w' := fun w hT => by
    have := of_c (some ⟨w.heap.size, 0, none⟩) 3 3 [[49, 50, 51, 52], [], [53, 54, 55, 56, 57]] _ (hT.below ((Below.refl _ _).alloc (Nat.le_refl _) _)) (Sees.new w #[.string ⟨#[49, 50, 51, 52]⟩, .string ⟨#[]⟩, .string ⟨#[53, 54, 55, 56, 57]⟩] 9) (by omega) (by intro p hp; simp at hp; rcases hp with rfl | rfl | rfl <;> simp)
    rw [show [[49, 50, 51, 52], [], [53, 54, 55, 56, 57]].flatten = ([49, 50, 51, 52, 53, 54, 55, 56, 57] : List UInt8) from rfl, aw1] at this
    exact this
  have C6 : ∀ w : World, Steps w → Calls Tryd.prog 12 #[.slice none 0 0] w fun r w' => r = .returned (.int .u32 0) ∧ w = w' := fun w hT => of_c none 0 0 [] w hT (Sees.empty _ _ _) (by omega) (by simp)
  have C7 : ∀ w : World, Calls Tryd.prog 14 #[.int .u32 16909060] w fun r w' => r = .returned (.string ⟨#[1, 2, 3, 4]⟩) ∧ Below w.heap.size w w' := fun w => bytes_c 16909060 (by omega) w
  have C8 : ∀ w : World, Steps w → Calls Tryd.prog 16 #[.string ⟨#[]⟩] w fun r w' => r = .returned (.string ⟨#[0, 0, 0, 0, 0, 0, 0, 0]⟩) ∧ Below w.heap.size w w' := fun w hT => by
    have := seal_c [] (by simp) w hT
    rw [aw2] at this
    exact this
  go_enter Tryd.func9, Tryd.ntmps9
  go_wp2_with fail
  with_reducible refine (C1 _ HT.out).mono ?_
  rintro e w1 ⟨rfl, hb1⟩
  have HT1 := Lib.hid (HT.out.below hb1)
  have hz1 := hb1.size
  go_wp2_with fail
  with_reducible refine (C2 _ HT1.out).mono ?_
  rintro e w2 ⟨rfl, hb2⟩
  have HT2 := Lib.hid (HT1.out.below hb2)
  have hz2 := hb2.size
  go_wp2_with fail
  with_reducible refine (C3 _ HT2.out).mono ?_
  rintro e w3 ⟨rfl, hb3⟩
  have HT3 := Lib.hid (HT2.out.below hb3)
  have hz3 := hb3.size
  go_wp2_with fail
  with_reducible refine (C4 _ HT3.out).mono ?_
  rintro e w4 ⟨rfl, hb4⟩
  have HT4 := Lib.hid (HT3.out.below hb4)
  have hz4 := hb4.size
  go_wp2_with fail
  with_reducible refine (C5 _ HT4.out).mono ?_
  rintro e w' ⟨rfl, rfl⟩
  have HT5 := Lib.hid (HT4.out.below ((Below.refl _ _).alloc (Nat.le_refl _) (.cells #[.string ⟨#[49, 50, 51, 52]⟩, .string ⟨#[]⟩, .string ⟨#[53, 54, 55, 56, 57]⟩] 9)))
  go_wp2_with fail
  with_reducible refine (C6 _ HT5.out).mono ?_
  rintro e w' ⟨rfl, rfl⟩
  go_wp2_with fail
  with_reducible refine (C7 _).mono ?_
  rintro e w5 ⟨rfl, hb5⟩
  have HT6 := Lib.hid (HT5.out.below hb5)
  have hz5 := hb5.size
  simp only [World.size_alloc] at hz5
  go_wp2_with fail
  with_reducible refine (C8 _ HT6.out).mono ?_
  rintro e w6 ⟨rfl, hb6⟩
  go_wp2_with fail
  go_ret
  exact ⟨rfl, by (repeat' (first | (with_reducible exact Below.refl _ _) | (with_reducible assumption) | (with_reducible refine Below.alloc ?_ ?_ _) | (with_reducible refine Below.drew ?_) | (with_reducible refine Below_drewN ?_ _) | (with_reducible refine Below.setCell ?_ ?_ _) | (refine Below.step (B' := ?_) (b := ?_) ?_ ?_ ?_; rotate_left 2; (with_reducible assumption)) | go_size))⟩
end Go.Proofs.Tryd
