/- The walk of TapeEnd. -/
import Derived.Test.YthijffdljoeelaaW8
namespace Go.Proofs.Try
open Go.RowKit
set_option linter.unusedVariables false

theorem draw_end (i : Int) : drawN ⟨#[]⟩ i = 0 := by
  unfold drawN
  rw [if_neg (by have : (⟨#[]⟩ : ByteArray).size = 0 := rfl; unfold inside many; rw [this]; omega)]
theorem next_end (i : Int) : nextN ⟨#[]⟩ i = i := by
  unfold nextN
  rw [if_neg (by have : (⟨#[]⟩ : ByteArray).size = 0 := rfl; unfold inside many; rw [this]; omega)]
theorem pickN_end (i n : Int) : pickN ⟨#[]⟩ i n = 0 := by unfold pickN; rw [draw_end]; split <;> simp
theorem pickA_end (i n : Int) : pickA ⟨#[]⟩ i n = i := by unfold pickA; rw [next_end]; split <;> rfl
theorem someL_end : ∀ (m : Nat) (i : Int) (L : List Int), m ≤ L.length → someL ⟨#[]⟩ m i L = L.take m
  | 0, _, L, _ => by rw [someL, List.take_zero]
  | m + 1, i, [], h => by simp at h
  | m + 1, i, x :: L, h => by
    rw [someL, pickN_end, pickA_end, someL_end m i _ (by simpa using h)]
    simp
theorem someA_end : ∀ (m : Nat) (i : Int) (n : Nat), someA ⟨#[]⟩ m i n = i
  | 0, _, _ => rfl
  | m + 1, i, n => by rw [someA, pickA_end, someA_end m]
/-- 0, 1, .. -/
def ups (m : Nat) : List Int := (List.range m).map Int.ofNat
theorem ups_len (m : Nat) : (ups m).length = m := by unfold ups; simp
theorem ups_at (m j : Nat) (h : j < m) : (ups m).getD j 0 = j := by
  unfold ups
  rw [List.getD_eq_getElem?_getD, List.getElem?_map, List.getElem?_range h]
  rfl
theorem someLL_end (K : Nat) (m : Int) (h1 : 1 ≤ K) (h2 : K ≤ 1000) (hm : 0 ≤ m) : someLL ⟨#[]⟩ 0 K m = ups (min m K).toNat ∧ someAA ⟨#[]⟩ 0 K m = 0 := by
  unfold someLL someAA
  by_cases h : 1 ≤ m
  · rw [if_pos ⟨by omega, by omega, h⟩, if_pos ⟨by omega, by omega, h⟩, Int.toNat_natCast, someL_end _ _ _ (by simp; omega), someA_end]
    refine ⟨?_, rfl⟩
    unfold ups
    rw [← List.map_take, List.take_range]
    congr 2; omega
  · have : m = 0 := by omega
    subst this
    rw [if_neg (by unfold sOk; omega), if_neg (by unfold sOk; omega)]
    refine ⟨?_, rfl⟩
    rw [show (min 0 (K : Int)).toNat = 0 by omega]; rfl

set_option maxRecDepth 100000 in
set_option maxHeartbeats 4000000 in
theorem walk_TapeEnd (a0 a1 : Int) (w0 : (Lit.int .u8 a0).wf = true) (w1 : (Lit.int .u8 a1).wf = true) (w : World) :
    Calls Try.prog 7 #[.int .u8 a0, .int .u8 a1] w fun e w' => e = .returned (.bool true) ∧ Below w.heap.size w w' := by
  obtain ⟨h0, h0'⟩ := bounds_u8 w0
  obtain ⟨h1, h1'⟩ := bounds_u8 w1
  clear w0 w1
  obtain ⟨K, hK, hK1, hK2⟩ : ∃ K : Nat, 1 + a0 % 50 = K ∧ 1 ≤ K ∧ K ≤ 50 := ⟨(1 + a0 % 50).toNat, by omega, by omega, by omega⟩
  have HP := pick_c ⟨#[]⟩ 0 K (by decide) (by omega) (by omega)
  rw [pickN_end, pickA_end] at HP
  have HS := some_c ⟨#[]⟩ 0 K a1 (by decide) (by omega) (by omega)
  obtain ⟨s1, s2⟩ := someLL_end K a1 hK1 (by omega) h1
  obtain ⟨m, hm, hm1, hm2⟩ : ∃ m : Nat, (min a1 (K : Int)).toNat = m ∧ min a1 (K : Int) = m ∧ min (K : Int) a1 = m := ⟨_, rfl, by omega, by omega⟩
  have hm3 : m ≤ 50 := by omega
  rw [s1, s2, hm] at HS
  unfold tp at HP
  unfold Picks tp at HS
  clear s1 s2 hm
  go_enter Try.func7, Try.ntmps7
  go_wp2_with fail
  with_reducible refine (awake8 _).mono ?_
  rintro e w1 ⟨rfl, hb1⟩
  have hz1 := hb1.size
  go_wp2_with fail
  refine (HP _).mono ?_
  rintro e w2 ⟨rfl, hb2⟩
  have hz2 := hb2.size
  go_wp2_with fail
  refine (HS _).mono ?_
  rintro e w3 ⟨A, n, c, rfl, hn, hc, hs, hb3⟩
  rw [ups_len] at hn
  subst hn
  obtain ⟨hc_w3, hf_w3, hz_w3⟩ := kept hb3; (try have hzw20_w3 : w2.heap.size < w3.heap.size := (by have := hz_w3; first | omega | (simp at this; omega)))
  have hz3 := hb3.size
  simp only [World.size_alloc] at hz3
  rcases hs.2 with h00 | ⟨b, off, rfl, hlt, _⟩
  · subst h00
    clear hs
    go_wp2_with fail
    go_loop [11] (fun x => x = .int .i64 0) (fun _ => 0)
    case atStart => rfl
    case round =>
      subst hrel
      go_wp2_with fail
      go_ret
      exact ⟨by first | rfl | (simp; done), by (repeat' (first | (with_reducible exact Below.refl _ _) | (with_reducible assumption) | (with_reducible refine Below.alloc ?_ ?_ _) | (with_reducible refine Below.drew ?_) | (with_reducible refine Below_drewN ?_ _) | (with_reducible refine Below.setCell ?_ ?_ _) | (refine Below.step (B' := ?_) (b := ?_) ?_ ?_ ?_; rotate_left 2; (with_reducible assumption)) | go_size))⟩
  · have HC : Hid (∀ j, j < m → w3.cell? ⟨b, off + j, none⟩ = some (.int .i64 j)) := fun j hj => by
      have := hs.int hj
      rwa [ups_at _ _ hj] at this
    clear hs
    go_wp2_with fail
    go_loop [11] (fun x => ∃ k : Nat, k ≤ m ∧ x = .int .i64 k) (fun x => m - (intOf x).toNat)
    case atStart => exact ⟨0, by omega, rfl⟩
    case round =>
      obtain ⟨k, hk, rfl⟩ := hrel
      by_cases hlt2 : k < m
      · have hcell := HC.out k hlt2
        go_wp2_with fail
        go_round
        case rel => exact ⟨k + 1, by omega, by go_num⟩
        case measure => simp [intOf]; omega
      · have hke : m = k := by omega
        subst hke
        go_wp2_with fail
        go_ret
        exact ⟨by first | rfl | (simp; done), by (repeat' (first | (with_reducible exact Below.refl _ _) | (with_reducible assumption) | (with_reducible refine Below.alloc ?_ ?_ _) | (with_reducible refine Below.drew ?_) | (with_reducible refine Below_drewN ?_ _) | (with_reducible refine Below.setCell ?_ ?_ _) | (refine Below.step (B' := ?_) (b := ?_) ?_ ?_ ?_; rotate_left 2; (with_reducible assumption)) | go_size))⟩
end Go.Proofs.Try
