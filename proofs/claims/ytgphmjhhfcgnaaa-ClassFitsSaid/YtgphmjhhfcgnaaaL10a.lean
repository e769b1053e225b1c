/- The walks of ClassWaste, ClassRises, ClassSegments. -/
import Derived.Test.YtgphmjhhfcgnaaaW10
import Derived.Test.YtgphmjhhfcgnaaaRow
namespace Go.Proofs.Try
open Go.RowKit
set_option linter.unusedVariables false

/-- An object's room, and its last slot. -/
theorem cut_room (n : Int) (h : 1 ≤ n) (h' : n ≤ 4096) : ∃ init last, cutL n = init ++ [last] ∧ clsT (cutL n) = clsT init + clsB last ∧ n ≤ clsT (cutL n) ∧ clsT init < n ∧ (clsT (cutL n) - n < 8 ∨ 2 * (clsT (cutL n) - n) < clsB last) ∧
    init.length = ((n - 1) / 64).toNat ∧ init = List.replicate ((n - 1) / 64).toNat 3 ∧ last = clsF (n - clsT init) := by
  have rep : ∀ k : Nat, clsT (List.replicate k 3) = 64 * k := by
    intro k
    induction k with
    | zero => rfl
    | succ k ih => rw [List.replicate_succ, clsT, ih, show clsB 3 = 64 from rfl]; omega
  obtain ⟨k, hk⟩ : ∃ k : Nat, n / 64 = k := ⟨(n / 64).toNat, by omega⟩
  by_cases h0 : n % 64 = 0
  · obtain ⟨j, rfl⟩ : ∃ j, k = j + 1 := ⟨k - 1, by omega⟩
    have e : cutL n = List.replicate j 3 ++ [3] := by rw [cutL_0 n 0 (j + 1) (by omega) rfl, List.replicate_succ']
    have ej : ((n - 1) / 64).toNat = j := by omega
    have et : clsT (List.replicate j 3 ++ [3]) = 64 * j + 64 := by rw [clsT_app, rep]; rfl
    have e3 : clsB 3 = 64 := rfl
    refine ⟨List.replicate j 3, 3, e, by rw [e, clsT_app, rep]; rfl, by rw [e, et]; omega, by rw [rep]; omega, .inl (by rw [e, et]; omega), by rw [ej]; simp, by rw [ej], ?_⟩
    rw [rep, show n - 64 * (j : Int) = 64 by omega]; rfl
  · have e := cutL_1 n (n % 64) k (by omega) (by omega) (by omega)
    have ej : ((n - 1) / 64).toNat = k := by omega
    have et : clsT (List.replicate k 3 ++ [clsF (n % 64)]) = 64 * k + clsB (clsF (n % 64)) := by rw [clsT_app, rep]; simp [clsT]
    have hr : ∃ b, clsB (clsF (n % 64)) = b ∧ n % 64 ≤ b ∧ (b - n % 64 < 8 ∨ 2 * (b - n % 64) < b) := by
      unfold clsF
      rw [if_neg (by omega)]
      by_cases h8 : n % 64 ≤ 8
      · rw [if_pos h8]; exact ⟨8, rfl, by omega, by omega⟩
      · rw [if_neg h8]
        by_cases h16 : n % 64 ≤ 16
        · rw [if_pos h16]; exact ⟨16, rfl, by omega, by omega⟩
        · rw [if_neg h16]
          by_cases h32 : n % 64 ≤ 32
          · rw [if_pos h32]; exact ⟨32, rfl, by omega, by omega⟩
          · rw [if_neg h32, if_pos (by omega)]; exact ⟨64, rfl, by omega, by omega⟩
    obtain ⟨b, hb, hb1, hb2⟩ := hr
    refine ⟨List.replicate k 3, clsF (n % 64), e, by rw [e, clsT_app]; simp [clsT], by rw [e, et, hb]; omega, by rw [rep]; omega, ?_, by rw [ej]; simp, by rw [ej], ?_⟩
    · rw [e, et, hb]; omega
    · rw [rep, show n - 64 * (k : Int) = n % 64 by omega]

theorem last_at (xs : List Int) (init : List Int) (last : Int) (h : xs = init ++ [last]) : xs.getD init.length 0 = last := by
  rw [h]; simp

set_option maxHeartbeats 1000000 in
theorem walk_ClassWaste (a0 : Int) (w0 : (Lit.int .u16 a0).wf = true) (w : World) :
    Calls Try.prog 5 #[.int .u16 a0] w fun e w' => e = .returned (.bool true) ∧ Below w.heap.size w w' := by
  obtain ⟨h0, h0'⟩ := bounds_u16 w0
  clear w0
  obtain ⟨n1, n2⟩ : 1 ≤ 1 + a0 % 4096 ∧ 1 + a0 % 4096 ≤ 4096 := by omega
  obtain ⟨init, last, hx, ht, hge, hlo, hw, hil, hrep, hlast⟩ := cut_room (1 + a0 % 4096) n1 n2
  clear hrep hlast hlo
  have hT := clsT_in (cutL (1 + a0 % 4096))
  have hlen : (cutL (1 + a0 % 4096)).length = init.length + 1 := by rw [hx]; simp
  have hi64 : init.length ≤ 64 := by omega
  have HX := Lib.hid hx
  have HL := Lib.hid hlen
  rw [hlen] at hT
  clear hx ht hlen hil
  generalize hcl : cutL (1 + a0 % 4096) = cl at hge hw hT HX HL
  have HCL := Lib.hid hcl
  clear hcl
  generalize hn : 1 + a0 % 4096 = n at n1 n2 hge hw HCL
  have HN := Lib.hid hn
  generalize hm : clsT cl = T at hge hw hT
  have HM := Lib.hid hm
  go_enter Try.func5, Try.ntmps5
  go_wp2_with fail
  refine (awake10 _).mono ?_
  rintro e w1 ⟨rfl, hb1⟩
  have hz1 := hb1.size
  clear hm
  go_wp2_with fail
  refine (cut_l n n1 n2 cl HCL.out (init.length + 1) HL.out _).mono ?_
  rintro e w2 ⟨A, c, rfl, hc, hs, hb2⟩
  have hz2 := hb2.size
  rcases hs.2 with h0 | ⟨b, off, rfl, _, _⟩
  · omega
  have hcell : w2.cell? ⟨b, off + init.length, none⟩ = some (.int .i64 last) := by rw [hs.int (by omega), HX.out, last_at _ init last rfl]
  have HH := Lib.hid hcell
  clear hcell
  go_wp2_with fail
  refine (room_t _ _ _ cl T HM.out _ hs (by omega)).mono ?_
  rintro e w' ⟨rfl, rfl⟩
  have hcell := HH.out
  rcases hw with hw | hw
  · go_wp2_with fail
    go_ret
    exact ⟨rfl, by (repeat' (first | (with_reducible exact Below.refl _ _) | (with_reducible assumption) | (with_reducible refine Below.alloc ?_ ?_ _) | (with_reducible refine Below.drew ?_) | (with_reducible refine Below_drewN ?_ _) | (with_reducible refine Below.setCell ?_ ?_ _) | (refine Below.step (B' := ?_) (b := ?_) ?_ ?_ ?_; rotate_left 2; (with_reducible assumption)) | go_size))⟩
  · by_cases h8 : T - n < 8
    · go_wp2_with fail
      go_ret
      exact ⟨rfl, by (repeat' (first | (with_reducible exact Below.refl _ _) | (with_reducible assumption) | (with_reducible refine Below.alloc ?_ ?_ _) | (with_reducible refine Below.drew ?_) | (with_reducible refine Below_drewN ?_ _) | (with_reducible refine Below.setCell ?_ ?_ _) | (refine Below.step (B' := ?_) (b := ?_) ?_ ?_ ?_; rotate_left 2; (with_reducible assumption)) | go_size))⟩
    · go_wp2_with (go_at_call 11; refine (bytes_c _ _).mono ?_; rintro e w' ⟨rfl, rfl⟩)
      go_ret
      exact ⟨rfl, by (repeat' (first | (with_reducible exact Below.refl _ _) | (with_reducible assumption) | (with_reducible refine Below.alloc ?_ ?_ _) | (with_reducible refine Below.drew ?_) | (with_reducible refine Below_drewN ?_ _) | (with_reducible refine Below.setCell ?_ ?_ _) | (refine Below.step (B' := ?_) (b := ?_) ?_ ?_ ?_; rotate_left 2; (with_reducible assumption)) | go_size))⟩
end Go.Proofs.Try
