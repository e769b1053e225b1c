/- The walk of ClassFits. -/
import Derived.Test.YtgphmjhhfcgnaaaL10b
namespace Go.Proofs.Try
open Go.RowKit
set_option linter.unusedVariables false

theorem rep_at (j k : Nat) (l : Int) (h : j < k) : (List.replicate k (3 : Int) ++ [l]).getD j 0 = 3 := by
  rw [List.getD_eq_getElem?_getD, List.getElem?_append_left (by simpa using h)]
  simp [h]
theorem Sees.front {w : World} {n m : Nat} {A : Option Addr} {xs ys : List Value} (h : Sees w 1 A n (xs ++ ys)) (hm : xs.length = m) : Sees w 1 A m xs := by
  refine ⟨by omega, ?_⟩
  rcases h.2 with h0 | ⟨b, off, hA, hlt, hc⟩
  · left
    have := h.1
    simp at this
    omega
  · refine .inr ⟨b, off, hA, hlt, fun j hj => ?_⟩
    rw [hc j (by simp; omega), List.getElem?_append_left hj]

set_option maxHeartbeats 2000000 in
theorem fits_ok (size : Int) (n1 : 1 ≤ size) (n2 : size ≤ 4096) (w : World) :
    Calls Try.prog 4 #[.int .i64 size] w fun e w' => e = .returned (.bool true) ∧ Below w.heap.size w w' := by
  obtain ⟨init, last, hx, ht, hge, hlo, hw, hil, hrep, hlast⟩ := cut_room size n1 n2
  obtain ⟨k, hk⟩ : ∃ k : Nat, ((size - 1) / 64).toNat = k := ⟨_, rfl⟩
  rw [hk] at hil hrep
  have hk63 : k ≤ 63 := by omega
  have hC := Lib.hid hx
  have hlen : (init ++ [last]).length = k + 1 := by simp [hil]
  have HL := Lib.hid hlen
  have bI := clsT_in init
  have bC := clsT_in (cutL size)
  rw [hil] at bI
  rw [hx, hlen] at bC
  have HI := Lib.hid hil
  have HR := Lib.hid hrep
  have HA := Lib.hid hlast
  generalize hT : clsT (cutL size) = T at hge ht
  have HT : Hid (clsT (init ++ [last]) = T) := by rw [← hx]; exact hT
  rw [← hx, hT] at bC
  generalize hP : clsT init = P at hlo bI HA
  have HP := Lib.hid hP
  have HA' : Hid (last = clsF (size - P)) := HA
  clear hx hlen hil hrep hlast hT hP ht hw hk HA
  go_enter Try.func4, Try.ntmps4
  go_wp2_with fail
  with_reducible refine (awake10 _).mono ?_
  rintro e w1 ⟨rfl, hb1⟩
  have hz1 := hb1.size
  go_wp2_with fail
  with_reducible refine (cut_l size n1 n2 (init ++ [last]) hC.out (k + 1) HL.out _).mono ?_
  rintro e w2 ⟨A, c, rfl, hc, hs, hb2⟩
  have hz2 := hb2.size
  have hkc := hc.2
  rcases hs.2 with h0 | ⟨b, off, rfl, _, _⟩
  · omega
  have hcell : w2.cell? ⟨b, off + k, none⟩ = some (.int .i64 last) := by rw [hs.int (by omega), ← HI.out, last_at _ init last rfl]
  have hall : Hid (∀ j, j < k → w2.cell? ⟨b, off + j, none⟩ = some (.int .i64 3)) := fun j hj => by rw [hs.int (by omega), HR.out, rep_at j k last hj]
  have hs0 : Sees w2 1 (some ⟨b, off, none⟩) k (init.map (Value.int .i64)) := by
    rw [List.map_append] at hs
    exact hs.front (by simp [HI.out])
  have HC := Lib.hid hcell
  clear hcell
  go_wp2_with fail
  with_reducible refine (room_t _ _ _ init P HP.out _ hs0 (by omega)).mono ?_
  rintro e w' ⟨rfl, rfl⟩
  have hcell := HC.out
  have hle : (last == clsF (size - P)) = true := by have := HA'.out; simpa using this
  go_wp2_with fail
  go_quiet ((go_at_call 15; exact quiet_left (fit_c _ _)))
  clear hcell hle
  go_wp2_with fail
  go_loop [8] (fun i => ∃ j : Nat, j ≤ k ∧ i = .int .i64 j) (fun i => k - (intOf i).toNat)
  case atStart => exact ⟨0, by omega, rfl⟩
  case round =>
    obtain ⟨j, hj, rfl⟩ := hrel
    by_cases hlt : j < k
    · have hcell := hall.out j hlt
      go_wp2_with fail
      go_round
      case rel => exact ⟨j + 1, by omega, by go_num⟩
      case measure => simp [intOf]; omega
    · have hjk : j = k := by omega
      subst hjk
      go_wp2_with fail
      with_reducible refine (room_t _ _ _ (init ++ [last]) T HT.out _ (hs.below (Below_drewN (Below.refl _ _) _)) (by omega)).mono ?_
      rintro e w' ⟨rfl, rfl⟩
      go_wp2_with fail
      go_ret
      exact ⟨ret_b (by simp; omega), by (repeat' (first | (with_reducible exact Below.refl _ _) | (with_reducible assumption) | (with_reducible refine Below.alloc ?_ ?_ _) | (with_reducible refine Below.drew ?_) | (with_reducible refine Below_drewN ?_ _) | (with_reducible refine Below.setCell ?_ ?_ _) | (refine Below.step (B' := ?_) (b := ?_) ?_ ?_ ?_; rotate_left 2; (with_reducible assumption)) | go_size))⟩

theorem walk_ClassFits (a0 : Int) (w0 : (Lit.int .i64 a0).wf = true) (w : World) :
    Calls Try.prog 4 #[.int .i64 a0] w fun e w' => e = .returned (.bool true) ∧ Below w.heap.size w w' := by
  obtain ⟨h0, h0'⟩ := bounds_i64 w0
  clear w0
  by_cases hsz : 1 ≤ a0 ∧ a0 ≤ 4096
  · exact fits_ok a0 hsz.1 hsz.2 w
  · have hout : a0 < 1 ∨ 4096 < a0 := by omega
    clear hsz
    have HO := Lib.hid hout
    rcases hout with h1 | h1
    all_goals
      go_enter Try.func4, Try.ntmps4
      go_wp2_with fail
      with_reducible refine (awake10 _).mono ?_
      rintro e w1 ⟨rfl, hb1⟩
      go_wp2_with fail
      with_reducible refine (cut_no _ HO.out _).mono ?_
      rintro e w' ⟨rfl, rfl⟩
      go_wp2_with fail
      go_ret
      exact ⟨rfl, by (repeat' (first | (with_reducible exact Below.refl _ _) | (with_reducible assumption) | (with_reducible refine Below.alloc ?_ ?_ _) | (with_reducible refine Below.drew ?_) | (with_reducible refine Below_drewN ?_ _) | (with_reducible refine Below.setCell ?_ ?_ _) | (refine Below.step (B' := ?_) (b := ?_) ?_ ?_ ?_; rotate_left 2; (with_reducible assumption)) | go_size))⟩
end Go.Proofs.Try
