/- The walk of TapeBytes. -/
import Derived.Test.YthijffdljoeelaaL8a
import Derived.Laws.Concat
namespace Go.Proofs.Try
open Go.RowKit
set_option linter.unusedVariables false

theorem bt_app (s t : ByteArray) (i : Nat) : bt (s ++ t) i = if i < s.size then bt s i else bt t (i - s.size) := by
  unfold bt
  rw [ByteArray.data_append, Array.toList_append, List.getD_eq_getElem?_getD, List.getD_eq_getElem?_getD, List.getD_eq_getElem?_getD]
  have e : s.data.toList.length = s.size := by rw [← Lib.size_eq]
  by_cases h : i < s.size
  · rw [if_pos h, List.getElem?_append_left (by omega)]
  · rw [if_neg h, List.getElem?_append_right (by omega), e]

set_option maxRecDepth 100000 in
set_option maxHeartbeats 4000000 in
theorem walk_TapeBytes (a0 : ByteArray) (a1 : Int) (a2 : ByteArray) (w0 : a0.size ≤ maxLen) (w1 : (Lit.int .u32 a1).wf = true) (w2 : a2.size ≤ maxLen) (w : World) :
    Calls Try.prog 8 #[.string a0, .int .u32 a1, .string a2] w fun e w' => e = .returned (.bool true) ∧ Below w.heap.size w w' := by
  obtain ⟨h1, h1'⟩ := bounds_u32 w1
  have u1 : a1 < 4294967296 := by omega
  clear w1
  by_cases c0 : a0.size ≤ 300
  · by_cases c2 : a2.size ≤ 300
    · have d0 : decide (300 < (a0.size : Int)) = false := by simp; omega
      have d1 : decide (300 < (a2.size : Int)) = false := by simp; omega
      clear w0 w2
      obtain ⟨k, hk, hk1⟩ : ∃ k : Nat, (a0.size : Int) / 4 = k ∧ 4 * k ≤ a0.size := ⟨a0.size / 4, by omega, by omega⟩
      have e1 : (4 * (k : Int)).toNat = 4 * k := by omega
      have e2 : 4 * (k : Int) ≤ a0.size := by omega
      have e3 : 0 ≤ 4 * (k : Int) := by omega
      have hfd : ∀ x y w, (Instr.field 23 (.agg #[.string x, .int .i64 y]) 0).run Try.prog w = .ok (.string x) w := fun _ _ _ => by kernel_rfl
      have z0 : (a0.extract 0 (4 * k)).size = 4 * k := by simp; omega
      have z1 : (a0.extract 0 (4 * k) ++ four a1 ++ a2).size = 4 * k + 4 + a2.size := by rw [ByteArray.size_append, ByteArray.size_append, z0, four_size]
      have zz : ∀ j, j < 4 → bt (a0.extract 0 (4 * k) ++ four a1 ++ a2) (4 * k + j) = bt (four a1) j := fun j hj => by
        rw [bt_app, if_pos (by rw [ByteArray.size_append, z0, four_size]; omega), bt_app, if_neg (by omega), z0]
        congr 1; omega
      have HD := draw_in (a0.extract 0 (4 * k) ++ four a1 ++ a2) k (by omega) (by omega)
      have zz0 := zz 0 (by omega)
      rw [Nat.add_zero] at zz0
      rw [zz0, zz 1 (by omega), zz 2 (by omega), zz 3 (by omega), four_draw a1 h1 u1] at HD
      have HL := left_c (a0.extract 0 (4 * k) ++ four a1 ++ a2) ((k : Int) + 1) (by omega) (by omega) (by omega)
      rw [show leftN (a0.extract 0 (4 * k) ++ four a1 ++ a2) ((k : Int) + 1) = (a2.size : Int) / 4 by unfold leftN many; rw [z1]; omega] at HL
      unfold tp at HD HL
      have hx1 : ∀ W, (Op.stringOp .add (a0.extract 0 (4 * k)) (four a1)).run Try.prog W = .ok (.string (a0.extract 0 (4 * k) ++ four a1)) W := fun W => run_string_add_sum _ _ _ (by rw [z0, four_size]; omega)
      have hx2 : ∀ W, (Op.stringOp .add (a0.extract 0 (4 * k) ++ four a1) a2).run Try.prog W = .ok (.string (a0.extract 0 (4 * k) ++ four a1 ++ a2)) W := fun W => run_string_add_sum _ _ _ (by rw [ByteArray.size_append, z0, four_size]; omega)
      have hk2 : IntKind.i64.wrap ((k : Int) + 1) = (k : Int) + 1 := by rw [IntKind.wrap_i64]; omega
      clear zz zz0 z0 z1
      generalize a0.extract 0 (4 * k) ++ four a1 ++ a2 = S at *
      go_enter Try.func8, Try.ntmps8
      go_wp2_with fail
      with_reducible refine (awake8 _).mono ?_
      rintro e w1 ⟨rfl, hb1⟩
      have hz1 := hb1.size
      go_wp2_with fail
      (refine region_later (by kernel_rfl) (by kernel_rfl) ?_); (intro hlat); (repeat (go_big_quiet_step ((first | (go_at_call 24; with_reducible exact later_call (of1_u _ h1 u1 _)))))); (refine wpQuiet_nil ?_); (intro W1 hbW1); (clear hlat)
      have hzW1 := hbW1.size
      go_wp2_with fail
      refine (HD _).mono ?_
      rintro e w2 ⟨rfl, hb2⟩
      have hz2 := hb2.size
      go_wp2_with fail
      refine (HL _).mono ?_
      rintro e w3 ⟨rfl, hb3⟩
      have hz3 := hb3.size
      simp only [World.size_alloc] at hz3
      go_wp2_with fail
      go_ret
      exact ⟨by first | rfl | (simp; done), by (repeat' (first | (with_reducible exact Below.refl _ _) | (with_reducible assumption) | (with_reducible refine Below.alloc ?_ ?_ _) | (with_reducible refine Below.drew ?_) | (with_reducible refine Below_drewN ?_ _) | (with_reducible refine Below.setCell ?_ ?_ _) | (refine Below.step (B' := ?_) (b := ?_) ?_ ?_ ?_; rotate_left 2; (with_reducible assumption)) | go_size))⟩
    · have d0 : decide (300 < (a0.size : Int)) = false := by simp; omega
      have d1 : 300 < (a2.size : Int) := by omega
      go_enter Try.func8, Try.ntmps8
      go_wp2_with fail
      with_reducible refine (awake8 _).mono ?_
      rintro e w1 ⟨rfl, hb1⟩
      go_wp2_with fail
      go_ret
      exact ⟨rfl, by (repeat' (first | (with_reducible exact Below.refl _ _) | (with_reducible assumption) | (with_reducible refine Below.alloc ?_ ?_ _) | (with_reducible refine Below.drew ?_) | (with_reducible refine Below_drewN ?_ _) | (with_reducible refine Below.setCell ?_ ?_ _) | (refine Below.step (B' := ?_) (b := ?_) ?_ ?_ ?_; rotate_left 2; (with_reducible assumption)) | go_size))⟩
  · have d0 : 300 < (a0.size : Int) := by omega
    go_enter Try.func8, Try.ntmps8
    go_wp2_with fail
    with_reducible refine (awake8 _).mono ?_
    rintro e w1 ⟨rfl, hb1⟩
    go_wp2_with fail
    go_ret
    exact ⟨rfl, by (repeat' (first | (with_reducible exact Below.refl _ _) | (with_reducible assumption) | (with_reducible refine Below.alloc ?_ ?_ _) | (with_reducible refine Below.drew ?_) | (with_reducible refine Below_drewN ?_ _) | (with_reducible refine Below.setCell ?_ ?_ _) | (refine Below.step (B' := ?_) (b := ?_) ?_ ?_ ?_; rotate_left 2; (with_reducible assumption)) | go_size))⟩
end Go.Proofs.Try
