/- Contracts of linhayref10. -/
import Derived.Test.YtgphmjhhfcgnaaaCls2
namespace Go.Proofs.Try
open Go.RowKit
set_option linter.unusedVariables false

theorem rbytes_c (c : Int) (w : World) :
    Calls Try.prog 12 #[.int .i64 c] w fun r w' => r = .returned (.int .i64 (clsB c)) ∧ w = w' := by
  by_cases h : c < 0 ∨ 3 < c
  · have HE := Lib.hid (show clsB c = 0 by unfold clsB; rw [if_neg (by omega), if_neg (by omega), if_neg (by omega), if_neg (by omega)])
    rcases h with h | h
    · go_enter Try.func12, Try.ntmps12
      go_wp2_with fail
      go_ret
      exact ⟨ret_i HE.out.symm, rfl⟩
    · go_enter Try.func12, Try.ntmps12
      go_wp2_with fail
      go_ret
      exact ⟨ret_i HE.out.symm, rfl⟩
  · have h0 : 0 ≤ c := by omega
    have h3 : c ≤ 3 := by omega
    go_enter Try.func12, Try.ntmps12
    go_wp2_with fail
    go_loop [3, 4] (fun v i => (i = .int .i64 0 ∧ v = .int .i64 8) ∨ (i = .int .i64 1 ∧ v = .int .i64 16 ∧ 1 ≤ c) ∨ (i = .int .i64 2 ∧ v = .int .i64 32 ∧ 2 ≤ c) ∨ (i = .int .i64 3 ∧ v = .int .i64 64 ∧ 3 ≤ c)) (fun _ i => (3 - intOf i).toNat)
    case atStart => exact .inl ⟨rfl, rfl⟩
    case round =>
      rcases hrel with ⟨rfl, rfl⟩ | ⟨rfl, rfl, hx⟩ | ⟨rfl, rfl, hx⟩ | ⟨rfl, rfl, hx⟩
      · by_cases hc : 0 < c
        · go_wp2_with fail
          go_round
          case rel => exact .inr (.inl ⟨rfl, rfl, by omega⟩)
          case measure => simp [intOf]
        · go_wp2_with fail
          go_ret
          exact ⟨ret_i (by rw [show c = 0 by omega]; rfl), rfl⟩
      · by_cases hc : 1 < c
        · go_wp2_with fail
          go_round
          case rel => exact .inr (.inr (.inl ⟨rfl, rfl, by omega⟩))
          case measure => simp [intOf]
        · go_wp2_with fail
          go_ret
          exact ⟨ret_i (by rw [show c = 1 by omega]; rfl), rfl⟩
      · by_cases hc : 2 < c
        · go_wp2_with fail
          go_round
          case rel => exact .inr (.inr (.inr ⟨rfl, rfl, by omega⟩))
          case measure => simp [intOf]
        · go_wp2_with fail
          go_ret
          exact ⟨ret_i (by rw [show c = 2 by omega]; rfl), rfl⟩
      · go_wp2_with fail
        go_ret
        exact ⟨ret_i (by rw [show c = 3 by omega]; rfl), rfl⟩

theorem clsS_div (c : Int) : clsB c = 0 ∧ clsS c = 0 ∨ clsB c ≠ 0 ∧ clsS c = 512 / clsB c := by
  unfold clsS clsB
  (repeat' split) <;> first | (left; exact ⟨rfl, rfl⟩) | (right; exact ⟨by decide, by decide⟩)
theorem rslots_c (c : Int) (w : World) :
    Calls Try.prog 14 #[.int .i64 c] w fun r w' => r = .returned (.int .i64 (clsS c)) ∧ w = w' := by
  obtain ⟨b0, b1⟩ := clsB_in c
  rcases clsS_div c with ⟨e1, e2⟩ | ⟨e1, e2⟩
  · have HE := Lib.hid e2
    clear e2
    go_enter Try.func14, Try.ntmps14
    go_wp2_with (go_at_call 12; refine (rbytes_c _ _).mono ?_; rintro e w' ⟨rfl, rfl⟩)
    go_ret
    exact ⟨ret_i HE.out.symm, rfl⟩
  · have HE := Lib.hid e2
    clear e2
    have e3 : (clsB c == 0) = false := by simpa using e1
    go_enter Try.func14, Try.ntmps14
    go_wp2_with (go_at_call 12; refine (rbytes_c _ _).mono ?_; rintro e w' ⟨rfl, rfl⟩)
    go_ret
    exact ⟨ret_i HE.out.symm, rfl⟩

theorem rfit_c (n : Int) (w : World) :
    Calls Try.prog 16 #[.int .i64 n] w fun r w' => r = .returned (.int .i64 (clsF n)) ∧ w = w' := by
  have e0 : clsB 0 = 8 := rfl
  have e1 : clsB 1 = 16 := rfl
  have e2 : clsB 2 = 32 := rfl
  have e3 : clsB 3 = 64 := rfl
  by_cases hn : n < 1
  · have HE := Lib.hid (show clsF n = -1 by unfold clsF; rw [if_pos hn])
    go_enter Try.func16, Try.ntmps16
    go_wp2_with fail
    go_loop [3] (fun i => ∃ k : Nat, k ≤ 4 ∧ i = .int .i64 k) (fun i => (4 - intOf i).toNat)
    case atStart => exact ⟨0, by omega, rfl⟩
    case round =>
      obtain ⟨k, hk, rfl⟩ := hrel
      by_cases hlt : k < 4
      · go_wp2_with fail
        go_round
        case rel => exact ⟨k + 1, by omega, by go_num⟩
        case measure => simp [intOf]; omega
      · go_wp2_with fail
        go_ret
        exact ⟨ret_i HE.out.symm, rfl⟩
  · have hn1 : 1 ≤ n := by omega
    clear hn
    go_enter Try.func16, Try.ntmps16
    go_wp2_with fail
    go_loop [3] (fun i => (i = .int .i64 0) ∨ (i = .int .i64 1 ∧ 8 < n) ∨ (i = .int .i64 2 ∧ 16 < n) ∨ (i = .int .i64 3 ∧ 32 < n) ∨ (i = .int .i64 4 ∧ 64 < n)) (fun i => (4 - intOf i).toNat)
    case atStart => exact .inl rfl
    case round =>
      rcases hrel with rfl | ⟨rfl, hx⟩ | ⟨rfl, hx⟩ | ⟨rfl, hx⟩ | ⟨rfl, hx⟩
      · by_cases h : n ≤ 8
        · go_wp2_with (go_at_call 12; refine (rbytes_c _ _).mono ?_; rintro e w' ⟨rfl, rfl⟩)
          go_ret
          exact ⟨ret_i (by unfold clsF; rw [if_neg (by omega), if_pos h]), rfl⟩
        · go_wp2_with (go_at_call 12; refine (rbytes_c _ _).mono ?_; rintro e w' ⟨rfl, rfl⟩)
          go_round
          case rel => exact .inr (.inl ⟨rfl, by omega⟩)
          case measure => simp [intOf]
      · by_cases h : n ≤ 16
        · go_wp2_with (go_at_call 12; refine (rbytes_c _ _).mono ?_; rintro e w' ⟨rfl, rfl⟩)
          go_ret
          exact ⟨ret_i (by unfold clsF; rw [if_neg (by omega), if_neg (by omega), if_pos h]), rfl⟩
        · go_wp2_with (go_at_call 12; refine (rbytes_c _ _).mono ?_; rintro e w' ⟨rfl, rfl⟩)
          go_round
          case rel => exact .inr (.inr (.inl ⟨rfl, by omega⟩))
          case measure => simp [intOf]
      · by_cases h : n ≤ 32
        · go_wp2_with (go_at_call 12; refine (rbytes_c _ _).mono ?_; rintro e w' ⟨rfl, rfl⟩)
          go_ret
          exact ⟨ret_i (by unfold clsF; rw [if_neg (by omega), if_neg (by omega), if_neg (by omega), if_pos h]), rfl⟩
        · go_wp2_with (go_at_call 12; refine (rbytes_c _ _).mono ?_; rintro e w' ⟨rfl, rfl⟩)
          go_round
          case rel => exact .inr (.inr (.inr (.inl ⟨rfl, by omega⟩)))
          case measure => simp [intOf]
      · by_cases h : n ≤ 64
        · go_wp2_with (go_at_call 12; refine (rbytes_c _ _).mono ?_; rintro e w' ⟨rfl, rfl⟩)
          go_ret
          exact ⟨ret_i (by unfold clsF; rw [if_neg (by omega), if_neg (by omega), if_neg (by omega), if_neg (by omega), if_pos h]), rfl⟩
        · go_wp2_with (go_at_call 12; refine (rbytes_c _ _).mono ?_; rintro e w' ⟨rfl, rfl⟩)
          go_round
          case rel => exact .inr (.inr (.inr (.inr ⟨rfl, by omega⟩)))
          case measure => simp [intOf]
      · have HE := Lib.hid (show clsF n = -1 by unfold clsF; rw [if_neg (by omega), if_neg (by omega), if_neg (by omega), if_neg (by omega), if_neg (by omega)])
        go_wp2_with fail
        go_ret
        exact ⟨ret_i HE.out.symm, rfl⟩

set_option maxHeartbeats 400000 in
theorem rroom_c (A : Option Addr) (n c : Nat) (xs : List Int) (w : World) (h : Sees w 1 A n (xs.map (Value.int .i64))) (hn : n ≤ 1000000) :
    Calls Try.prog 19 #[.slice A n c] w fun r w' => r = .returned (.int .i64 (clsT xs)) ∧ w = w' := by
  have hl := h.len
  rcases h.2 with h0 | ⟨b, off, rfl, _, _⟩
  · subst h0
    have hx : xs = [] := List.eq_nil_of_length_eq_zero hl
    subst hx
    clear h hl
    go_enter Try.func19, Try.ntmps19
    go_wp2_with fail
    go_loop [3, 4] (fun v i => i = .int .i64 0 ∧ v = .int .i64 0) (fun _ i => 0)
    case atStart => exact ⟨rfl, rfl⟩
    case round =>
      obtain ⟨rfl, rfl⟩ := hrel
      go_wp2_with fail
      go_ret
      exact ⟨rfl, rfl⟩
  · have HC : Hid (∀ j, j < n → w.cell? ⟨b, off + j, none⟩ = some (.int .i64 (xs.getD j 0))) := fun j hj => h.int hj
    have HL := Lib.hid hl
    clear h hl
    go_enter Try.func19, Try.ntmps19
    go_wp2_with fail
    go_loop [3, 4] (fun v i => ∃ k : Nat, k ≤ n ∧ i = .int .i64 k ∧ v = .int .i64 (clsT (xs.take k))) (fun _ i => n - (intOf i).toNat)
    case atStart => exact ⟨0, by omega, rfl, rfl⟩
    case round =>
      obtain ⟨k, hk, rfl, rfl⟩ := hrel
      obtain ⟨t0, t1⟩ := clsT_in (xs.take k)
      have t2 := List.length_take_le k xs
      obtain ⟨s0, s1⟩ := clsB_in (xs.getD k 0)
      by_cases hlt : k < n
      · have hcell := HC.out k hlt
        have HM : Hid (clsT (xs.take (k + 1)) = clsT (xs.take k) + clsB (xs.getD k 0)) := clsT_more xs k (by rw [HL.out]; exact hlt)
        generalize xs.getD k 0 = x at hcell s0 s1 HM
        go_wp2_with (go_at_call 12; refine (rbytes_c _ _).mono ?_; rintro e w' ⟨rfl, rfl⟩)
        go_round
        case rel => exact ⟨k + 1, by omega, by go_num, by rw [HM.out]⟩
        case measure => simp [intOf]; omega
      · have hke : k = n := by omega
        have HM := Lib.hid (show clsT (xs.take k) = clsT xs by rw [hke, ← HL.out, List.take_length])
        subst hke
        go_wp2_with fail
        go_ret
        exact ⟨ret_i HM.out, rfl⟩

set_option maxHeartbeats 400000 in
theorem rcut_c (size : Int) (h1 : 1 ≤ size) (h2 : size ≤ 4096) (w : World) :
    Calls Try.prog 10 #[.int .i64 size] w (Lists (cutL size) w) := by
  obtain ⟨i0, hi, hz0, hz1, hz2⟩ := info_parts int_info
  go_enter Try.func10, Try.ntmps10
  go_wp2_with fail
  go_loopw [4, 5] (fun v i wr => ∃ k : Nat, 64 * (k : Int) ≤ size ∧ i = .int .i64 k ∧ wr.ownsRow w.heap.size 3 1 v k ((List.replicate k (3 : Int)).map (Value.int .i64)) ∧ Below w.heap.size w wr) (fun _ i _ => (64 - intOf i).toNat)
  case atStart => exact ⟨0, by omega, rfl, World.ownsRow_nil _ _ _ _, Below.refl _ _⟩
  case round =>
    obtain ⟨k, hk, rfl, hown, hb⟩ := hrel
    have hz := hb.size
    by_cases hlt : (k : Int) < size / 64
    · go_wp2_with (at_builtin
                   refine wpList_app rfl (.tmp 18) (.tmp 19) _ rfl w.heap.size 3 i0 _ 1 8 Try.underlying22 hi hz0 hz1 hz2 rfl (by omega) u4 k _ rfl (hown.alloc _) (some ⟨wr.heap.size, 0, none⟩) 1 1 [.int .i64 3] rfl (fun h => by cases h) (Sees.one _ _ _) (by simp [Value.oneCell']) (by unfold maxLen; omega) (by omega) (by simp; omega) ?_
                   intro v1 w1 hown1 hb1)
      have HO := Lib.hid hown1
      clear hown1
      go_roundw
      case rel => exact ⟨k + 1, by omega, by go_num, by rw [rep_more]; exact HO.out, Below.step1 hb hb1⟩
      case measure => simp [intOf]; omega
    · by_cases h0 : size % 64 = 0
      · have HE := Lib.hid (cutL_0 size 0 k (by omega) rfl)
        go_wp2_with fail
        go_ret2
        exact lists_of rfl (by rw [HE.out]; exact hown) hb
      · have HE := Lib.hid (cutL_1 size (size % 64) k (by omega) (by omega) (by omega))
        have h0' : 0 < size % 64 := by omega
        clear h0
        go_wp2_with (first
          | (go_at_call 16; refine (rfit_c _ _).mono ?_; rintro e w' ⟨rfl, rfl⟩)
          | (at_builtin
             refine wpList_app rfl (.tmp 24) (.tmp 28) _ rfl w.heap.size 3 i0 _ 1 8 Try.underlying22 hi hz0 hz1 hz2 rfl (by omega) u4 k _ rfl (hown.alloc _) (some ⟨wr.heap.size, 0, none⟩) 1 1 [.int .i64 (clsF (size % 64))] rfl (fun h => by cases h) (Sees.one _ _ _) (by simp [Value.oneCell']) (by unfold maxLen; omega) (by omega) (by simp; omega) ?_
             intro v1 w1 hown1 hb1))
        go_ret2
        exact lists_of rfl (by rw [HE.out, List.map_append]; exact hown1) (Below.step1 hb hb1)
theorem rcut_no (size : Int) (h : size < 1 ∨ 4096 < size) (w : World) :
    Calls Try.prog 10 #[.int .i64 size] w fun r w' => r = .returned (.tuple #[.slice none 0 0, .int .i64 100]) ∧ w = w' := by
  rcases h with h | h
  · go_enter Try.func10, Try.ntmps10
    go_wp2_with fail
    go_ret2
    exact ⟨rfl, rfl⟩
  · go_enter Try.func10, Try.ntmps10
    go_wp2_with fail
    go_ret2
    exact ⟨rfl, rfl⟩
theorem rcut_l (size : Int) (h1 : 1 ≤ size) (h2 : size ≤ 4096) (xs : List Int) (hx : cutL size = xs) (n : Nat) (hn : xs.length = n) (w : World) :
    Calls Try.prog 10 #[.int .i64 size] w fun r w' => ∃ A c, r = .returned (.tuple #[.slice A n c, .int .i64 0]) ∧ (A = none → c = 0) ∧ Sees w' 1 A n (xs.map (Value.int .i64)) ∧ Below w.heap.size w w' := by
  subst hx
  refine (rcut_c size h1 h2 w).mono ?_
  rintro e w' ⟨A, m, c, rfl, hc, hs, hb⟩
  obtain rfl : m = n := hs.len.symm.trans hn
  exact ⟨A, c, rfl, hc, hs, hb⟩
end Go.Proofs.Try
