/- table.Check's literal (stage 13). -/
import Derived.Test.YtpjijaljdklpgaaTf
import Derived.Test.YtpjijaljdklpgaaTbC
namespace Go.Proofs.Try
open Go.RowKit
set_option linter.unusedVariables false
set_option linter.unusedSimpArgs false
theorem hN_home (n : Nat) (hn : 0 < n) (k : ByteArray) : home k n = (hN n k : Int) ∧ hN n k < n := by
  unfold hN home
  rw [if_neg (by omega)]
  have h0 := Int.emod_nonneg (hash k) (show (n : Int) ≠ 0 by omega)
  have h1 := Int.emod_lt_of_pos (hash k) (show 0 < (n : Int) by omega)
  omega
set_option maxRecDepth 100000 in
set_option maxHeartbeats 4000000 in
theorem lost_none (B b off n c at' : Nat) (l : List Pl) (w : World) (hc : w.cell? ⟨B, 0, none⟩ = some (.slice (some ⟨b, off, none⟩) n c)) (h : Sees w 2 (some ⟨b, off, none⟩) n (flat encP l)) (hl : l.length = n) (ha : at' < n) (hz : noneS (atP l at').1 = true) :
    Calls Try.prog 23 #[.int .i64 (at' : Int), .pointer (some ⟨B, 0, none⟩)] w fun e w' => e = .returned (.bool ((atP l at').2 != 0)) ∧ Below w.heap.size w w' := by
  obtain ⟨c0, c1⟩ := place_cells h (j := at') (by omega)
  obtain ⟨⟨s, x⟩, hp⟩ : ∃ p, atP l at' = p := ⟨_, rfl⟩
  rw [hp] at c0 c1 hz ⊢
  dsimp only at c0 c1 hz ⊢
  have hz2 : (s.toList == []) = true := hz
  have hai : (at' : Int) < (n : Int) := by omega
  clear hp hz h hl
  go_enter Try.func23, Try.ntmps23
  go_wp2_with fail
  go_ret
  exact ⟨by first | rfl | (simp; done), by (repeat' (first | (with_reducible exact Below.refl _ _) | (with_reducible assumption) | (with_reducible refine Below.alloc ?_ ?_ _) | (with_reducible refine Below.drew ?_) | (with_reducible refine Below_drewN ?_ _) | (with_reducible refine Below.setCell ?_ ?_ _) | (refine Below.step (B' := ?_) (b := ?_) ?_ ?_ ?_; rotate_left 2; (with_reducible assumption)) | go_size))⟩
set_option maxRecDepth 100000 in
set_option maxHeartbeats 4000000 in
theorem lost_key (B b off n c at' s0 : Nat) (l : List Pl) (w : World) (hc : w.cell? ⟨B, 0, none⟩ = some (.slice (some ⟨b, off, none⟩) n c)) (h : Sees w 2 (some ⟨b, off, none⟩) n (flat encP l)) (hl : l.length = n) (ha : at' < n) (hn2 : n ≤ 100000) (hz : noneS (atP l at').1 = false) (hk : (atP l at').1.size ≤ 100000)
    (hf : FirstS l n (atP l at').1 (hN n (atP l at').1) s0) :
    Calls Try.prog 23 #[.int .i64 (at' : Int), .pointer (some ⟨B, 0, none⟩)] w fun e w' => e = .returned (.bool (!isKey (atP l at').1 || !decide (posT n (hN n (atP l at').1) s0 = at'))) ∧ Below w.heap.size w w' := by
  obtain ⟨c0, c1⟩ := place_cells h (j := at') (by omega)
  obtain ⟨⟨s, x⟩, hp⟩ : ∃ p, atP l at' = p := ⟨_, rfl⟩
  rw [hp] at c0 c1 hz hk hf ⊢
  dsimp only at c0 c1 hz hk hf ⊢
  have hz2 : (s.toList == []) = false := hz
  have hai : (at' : Int) < (n : Int) := by omega
  obtain ⟨hh, hhl⟩ := hN_home n (by omega) s
  have FC := fun W (hb : Below w.heap.size w W) => find_c b off n c l s hk (hN n s) s0 W (h.below hb) hl (by omega) hn2 hh hhl hf.1 hf.2.1 hf.2.2
  have KC := fun W => key_c s W
  have hBl : B < w.heap.size := World.block_lt_of_cell? w _ hc
  have hc2 : (w.alloc (.cells #[.string s, .int .i64 x] 47)).cell? ⟨B, 0, none⟩ = some (.slice (some ⟨b, off, none⟩) n c) := (((Below.refl w.heap.size w).alloc (Nat.le_refl _) (.cells #[.string s, .int .i64 x] 47)).cell (p := ⟨B, 0, none⟩) hBl).trans hc
  obtain ⟨p, hpp⟩ : ∃ p, posT n (hN n s) s0 = p := ⟨_, rfl⟩
  rw [hpp] at FC ⊢
  have HH := Lib.hid h
  clear hp hz h hl hf hh hhl hpp
  cases hk1 : isKey s with
  | false =>
    rw [hk1] at KC
    go_enter Try.func23, Try.ntmps23
    go_wp2_with (go_at_call 13; refine (KC _).mono ?_; rintro e w5 ⟨rfl, rfl⟩)
    go_ret
    exact ⟨by first | rfl | (simp; done), by (repeat' (first | (with_reducible exact Below.refl _ _) | (with_reducible assumption) | (with_reducible refine Below.alloc ?_ ?_ _) | (with_reducible refine Below.drew ?_) | (with_reducible refine Below_drewN ?_ _) | (with_reducible refine Below.setCell ?_ ?_ _) | (refine Below.step (B' := ?_) (b := ?_) ?_ ?_ ?_; rotate_left 2; (with_reducible assumption)) | go_size))⟩
  | true =>
    rw [hk1] at KC
    by_cases he : p = at'
    · have he' : ((p : Int) != (at' : Int)) = false := by rw [he]; simp
      have HD := Lib.hid (show decide (p = at') = true from decide_eq_true he)
      clear he
      go_enter Try.func23, Try.ntmps23
      go_wp2_with (first | (go_at_call 13; refine (KC _).mono ?_; rintro e w5 ⟨rfl, rfl⟩) | (go_at_call 21; refine (FC _ (chain1 (Below.refl _ _) _)).mono ?_; rintro e w6 ⟨rfl, rfl⟩))
      go_ret
      exact ⟨by rw [HD.out]; first | rfl | (simp; done), by (repeat' (first | (with_reducible exact Below.refl _ _) | (with_reducible assumption) | (with_reducible refine Below.alloc ?_ ?_ _) | (with_reducible refine Below.drew ?_) | (with_reducible refine Below_drewN ?_ _) | (with_reducible refine Below.setCell ?_ ?_ _) | (refine Below.step (B' := ?_) (b := ?_) ?_ ?_ ?_; rotate_left 2; (with_reducible assumption)) | go_size))⟩
    · have he' : ((p : Int) != (at' : Int)) = true := by simp; omega
      have HD := Lib.hid (show decide (p = at') = false from decide_eq_false he)
      clear he
      go_enter Try.func23, Try.ntmps23
      go_wp2_with (first | (go_at_call 13; refine (KC _).mono ?_; rintro e w5 ⟨rfl, rfl⟩) | (go_at_call 21; refine (FC _ (chain1 (Below.refl _ _) _)).mono ?_; rintro e w6 ⟨rfl, rfl⟩))
      go_ret
      exact ⟨by rw [HD.out]; first | rfl | (simp; done), by (repeat' (first | (with_reducible exact Below.refl _ _) | (with_reducible assumption) | (with_reducible refine Below.alloc ?_ ?_ _) | (with_reducible refine Below.drew ?_) | (with_reducible refine Below_drewN ?_ _) | (with_reducible refine Below.setCell ?_ ?_ _) | (refine Below.step (B' := ?_) (b := ?_) ?_ ?_ ?_; rotate_left 2; (with_reducible assumption)) | go_size))⟩
end Go.Proofs.Try
