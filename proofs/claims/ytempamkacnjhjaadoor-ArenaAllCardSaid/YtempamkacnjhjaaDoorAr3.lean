/- arena.Check, whole. -/
import Derived.Test.YtempamkacnjhjaaDoorAr2
import Derived.Test.YtempamkacnjhjaaDoorChain
namespace Go.Proofs.Tryd
open Go.RowKit
set_option linter.unusedVariables false
set_option linter.unusedSimpArgs false
/-- The cells of segments, one behind the other. -/
def segC : List Sg → List Value
  | [] => []
  | s :: l => .int .i64 s.1 :: .int .u64 (s.2 : Int) :: segC l
theorem segC_len (l : List Sg) : (segC l).length = 2 * l.length := by
  induction l with
  | nil => rfl
  | cons p l ih => simp [segC, ih]; omega
theorem segC_at (l : List Sg) (j : Nat) (h : j < l.length) : (segC l)[2 * j]? = some (.int .i64 (at' l j).1) ∧ (segC l)[2 * j + 1]? = some (.int .u64 ((at' l j).2 : Int)) := by
  induction l generalizing j with
  | nil => simp at h
  | cons p l ih =>
    cases j with
    | zero => simp [segC, at']
    | succ j =>
      have := ih j (by simpa using h)
      rw [show 2 * (j + 1) = 2 * j + 1 + 1 by omega]
      simpa [segC, at'] using this
theorem Sees.seg {w : World} {n b off : Nat} {l : List Sg} (h : Sees w 2 (some ⟨b, off, none⟩) n (segC l)) {j : Nat} (hj : j < n) :
    w.cell? ⟨b, off + j * 2, none⟩ = some (.int .i64 (at' l j).1) ∧ w.cell? ⟨b, off + j * 2 + 1, none⟩ = some (.int .u64 ((at' l j).2 : Int)) ∧ b < w.heap.size := by
  have hl : l.length = n := by have := h.1; rw [segC_len] at this; omega
  obtain ⟨e1, e2⟩ := segC_at l j (by omega)
  obtain ⟨u, hu, hc⟩ := h.cell (j := 2 * j) (by omega)
  obtain ⟨v, hv, hd⟩ := h.cell (j := 2 * j + 1) (by omega)
  rw [e1] at hu
  rw [e2] at hv
  injection hu with hu
  injection hv with hv
  subst hu hv
  rw [Nat.mul_comm j 2]
  exact ⟨hc, hd, World.block_lt_of_cell? w _ hc⟩
set_option maxRecDepth 100000 in
set_option maxHeartbeats 2000000 in
theorem idx_c (b off n c : Nat) (l : List Sg) (hu : ∀ j, (at' l j).2 < 18446744073709551616) (hn : n ≤ 1000000) (w : World) (h : Sees w 2 (some ⟨b, off, none⟩) n (segC l)) :
    Calls Tryd.prog 22 #[.slice (some ⟨b, off, none⟩) n c, .func (.func 17) #[] #[]] w fun e w' => ∃ r : Int, e = .returned (.int .i64 r) ∧ ((r = -1 ∧ ∀ j, j < n → okS (at' l j)) ∨ (0 ≤ r ∧ ∃ j, j < n ∧ ¬okS (at' l j))) ∧ Below w.heap.size w w' := by
  have HU := Lib.hid hu
  clear hu
  go_enter Tryd.func22, Tryd.ntmps22
  go_wp2_with fail
  go_loopw [5, 8] (fun _ i wr => ∃ k : Nat, k ≤ n ∧ i = .int .i64 k ∧ Hid (∀ j, j < k → okS (at' l j)) ∧ Below w.heap.size w wr) (fun _ i _ => n - (intOf i).toNat)
  case atStart => exact ⟨0, by omega, rfl, Lib.hid (fun j hj => by omega), Below.refl _ _⟩
  case round =>
    obtain ⟨k, hk, rfl, HK, hb⟩ := hrel
    have hz := hb.size
    have HB := Lib.hid hb
    by_cases hlt : k < n
    · obtain ⟨c0, c1, hbl⟩ := (h.below hb).seg hlt
      have hlt' : (k : Int) < (n : Int) := by omega
      have W := wrong_c (at' l k).1 (at' l k).2 (HU.out k)
      by_cases ho : okS (at' l k)
      · have e : (decide ¬okS ((at' l k).1, (at' l k).2)) = false := decide_eq_false (fun h => h ho)
        rw [e] at W
        have HN := Lib.hid (show ∀ j, j < k + 1 → okS (at' l j) from fun j hj => by
          by_cases hj' : j = k
          · rw [hj']; exact ho
          · exact HK.out j (by omega))
        clear ho e hb
        generalize (at' l k).1 = x at *
        generalize (at' l k).2 = y at *
        go_wp2_with fail
        with_reducible refine (W _).mono ?_
        rintro e w1 ⟨rfl, hb1⟩
        go_wp2_with fail
        go_roundw
        case rel => exact ⟨k + 1, by omega, by go_num, HN, chain HB.out hb1⟩
        case measure => first | (simp [intOf]; done) | (simp [intOf]; omega)
      · have e : (decide ¬okS ((at' l k).1, (at' l k).2)) = true := decide_eq_true ho
        rw [e] at W
        have HN := Lib.hid ho
        clear ho e hb
        generalize (at' l k).1 = x at *
        generalize (at' l k).2 = y at *
        go_wp2_with fail
        with_reducible refine (W _).mono ?_
        rintro e w1 ⟨rfl, hb1⟩
        go_wp2_with fail
        go_ret
        exact ⟨_, rfl, .inr ⟨by omega, k, hlt, HN.out⟩, chain HB.out hb1⟩
    · have hke : k = n := by omega
      subst hke
      go_wp2_with fail
      go_ret
      exact ⟨_, rfl, .inl ⟨rfl, HK.out⟩, HB.out⟩
set_option maxRecDepth 100000 in
set_option maxHeartbeats 2000000 in
theorem idx_nil (A : Option Addr) (c : Nat) (l : List Sg) (w : World) :
    Calls Tryd.prog 22 #[.slice A 0 c, .func (.func 17) #[] #[]] w fun e w' => ∃ r : Int, e = .returned (.int .i64 r) ∧ ((r = -1 ∧ ∀ j, j < 0 → okS (at' l j)) ∨ (0 ≤ r ∧ ∃ j, j < 0 ∧ ¬okS (at' l j))) ∧ Below w.heap.size w w' := by
  go_enter Tryd.func22, Tryd.ntmps22
  go_wp2_with fail
  go_loop [5, 8] (fun _ i => i = .int .i64 0) (fun _ _ => 0)
  case atStart => exact rfl
  case round =>
    subst hrel
    go_wp2_with fail
    first | go_ret | go_ret2
    refine ⟨_, rfl, ?_, Below.refl _ _⟩
    first | exact .inl ⟨rfl, fun j hj => by omega⟩ | exact rfl | (simp; done)
theorem idx_all (A : Option Addr) (n c : Nat) (l : List Sg) (hu : ∀ j, (at' l j).2 < 18446744073709551616) (hn : n ≤ 1000000) (w : World) (h : Sees w 2 A n (segC l)) :
    Calls Tryd.prog 22 #[.slice A n c, .func (.func 17) #[] #[]] w fun e w' => ∃ r : Int, e = .returned (.int .i64 r) ∧ ((r = -1 ∧ ∀ j, j < n → okS (at' l j)) ∨ (0 ≤ r ∧ ∃ j, j < n ∧ ¬okS (at' l j))) ∧ Below w.heap.size w w' := by
  rcases h.2 with h0 | ⟨b, off, rfl, _, _⟩
  · subst h0; exact idx_nil A c l w
  · exact idx_c b off n c l hu hn w h
set_option maxRecDepth 100000 in
set_option maxHeartbeats 2000000 in
theorem contains_c (A : Option Addr) (n c : Nat) (l : List Sg) (hu : ∀ j, (at' l j).2 < 18446744073709551616) (hn : n ≤ 1000000) (w : World) (h : Sees w 2 A n (segC l)) :
    Calls Tryd.prog 18 #[.slice A n c, .func (.func 17) #[] #[]] w fun e w' => ∃ B, e = .returned (.bool B) ∧ (B = false ↔ ∀ j, j < n → okS (at' l j)) ∧ Below w.heap.size w w' := by
  have HI := Lib.hid (idx_all A n c l hu hn w h)
  clear hu h
  go_enter Tryd.func18, Tryd.ntmps18
  go_wp2_with fail
  refine (Hid.out HI).mono ?_
  rintro e w1 ⟨r, rfl, hr, hb1⟩
  rcases hr with ⟨rfl, ha⟩ | ⟨hr, j, hj, hno⟩
  · have HA := Lib.hid ha
    clear ha
    go_wp2_with fail
    go_ret
    exact ⟨_, rfl, ⟨fun _ => HA.out, fun _ => rfl⟩, hb1⟩
  · have HA := Lib.hid (show ¬∀ j, j < n → okS (at' l j) from fun h => hno (h j hj))
    have hrd : decide (0 ≤ r) = true := decide_eq_true hr
    clear hno
    go_wp2_with fail
    go_ret
    exact ⟨_, rfl, ⟨fun h => (by first | (simp at h; omega) | (simp [hr] at h)), fun h => absurd h HA.out⟩, hb1⟩
theorem all_chk (l : List Sg) : (∀ j, j < l.length → okS (at' l j)) ↔ ∀ s, s ∈ l → okS s := by
  constructor
  · intro h s hs
    obtain ⟨j, hj, rfl⟩ := List.getElem_of_mem hs
    have := h j hj
    unfold at' at this
    rwa [List.getD_eq_getElem?_getD, List.getElem?_eq_getElem hj] at this
  · intro h j hj
    apply h
    unfold at'
    rw [List.getD_eq_getElem?_getD, List.getElem?_eq_getElem hj]
    exact List.getElem_mem _
set_option maxRecDepth 100000 in
set_option maxHeartbeats 2000000 in
theorem check_c (A : Option Addr) (n c : Nat) (l : List Sg) (hu : ∀ j, (at' l j).2 < 18446744073709551616) (hn : n ≤ 1000000) (w : World) (h : Sees w 2 A n (segC l)) :
    Calls Tryd.prog 10 #[.slice A n c] w fun e w' => e = .returned (.bool (decide (chkL l))) ∧ Below w.heap.size w w' := by
  have hl : l.length = n := by have := h.1; rw [segC_len] at this; omega
  have HI := Lib.hid (fun W (hb : Below w.heap.size w W) => contains_c A n c l hu hn W (h.below hb))
  clear hu
  by_cases h2 : n ≤ 200
  · have hni : (n : Int) ≤ 200 := by omega
    have key : chkL l ↔ ∀ j, j < n → okS (at' l j) := by
      unfold chkL
      rw [← all_chk, hl]
      exact ⟨fun h => h.2, fun h => ⟨h2, h⟩⟩
    have KEY := Lib.hid key
    clear key h hl
    go_enter Tryd.func10, Tryd.ntmps10
    go_wp2_with fail
    refine (HI.out _ (by (repeat' (first | (with_reducible exact Below.refl _ _) | (with_reducible assumption) | (with_reducible refine Below.alloc ?_ ?_ _) | (with_reducible refine Below.drew ?_) | (with_reducible refine Below_drewN ?_ _) | (with_reducible refine Below.setCell ?_ ?_ _) | (refine Below.step (B' := ?_) (b := ?_) ?_ ?_ ?_; rotate_left 2; (with_reducible assumption)) | go_size)))).mono ?_
    rintro e w1 ⟨B, rfl, hB, hb1⟩
    have HD := Lib.hid (show (!B) = decide (chkL l) by
      cases B with
      | false => exact (decide_eq_true (KEY.out.2 (hB.1 rfl))).symm
      | true => exact (decide_eq_false (fun h => by have := hB.2 (KEY.out.1 h); cases this)).symm)
    clear hB
    go_wp2_with fail
    go_ret
    exact ⟨by first | (rw [← HD.out]; rfl) | (rw [← HD.out]; simp), hb1⟩
  · have hni : decide ((n : Int) ≤ 200) = false := by simp; omega
    have e : (decide (chkL l)) = false := decide_eq_false (fun h => h2 (by rw [← hl]; exact h.1))
    rw [e]
    go_enter Tryd.func10, Tryd.ntmps10
    go_wp2_with fail
    go_ret
    exact ⟨rfl, Below.refl _ _⟩
end Go.Proofs.Tryd
