/- The contract of class.Cut. -/
import Derived.Test.YtgphmjhhfcgnaaaCls
namespace Go.Proofs.Try
open Go.RowKit
set_option linter.unusedVariables false

theorem int_info : (Try.prog.info? 3).map (fun i => (i.zero, i.size, i.bytes)) = some (some (.int .i64 0), 1, 8) := by kernel_rfl

/-- The classes of an object's slots. -/
def cutL (size : Int) : List Int := List.replicate (size / 64).toNat 3 ++ (if size % 64 = 0 then [] else [clsF (size % 64)])
/-- A list of numbers is handed back, and no error. -/
def Lists (xs : List Int) (w : World) (r : Ending) (w' : World) : Prop :=
  ∃ A n c, r = .returned (.tuple #[.slice A n c, .int .i64 0]) ∧ CapOk A n c ∧ Sees w' 1 A n (xs.map (Value.int .i64)) ∧ Below w.heap.size w w'
theorem lists_of {w w' : World} {r : Ending} {xs : List Int} {base e n : Nat} {v : Value} (hr : r = .returned (.tuple #[v, .int .i64 0])) (h : w'.ownsRow base e 1 v n (xs.map (Value.int .i64))) (hb : Below w.heap.size w w') : Lists xs w r w' := by
  obtain ⟨A, c, rfl, hc, hs⟩ := Sees.of_own h
  exact ⟨A, n, c, hr, hc, hs, hb⟩

theorem cutL_eq (size t : Int) (k : Nat) (h : 64 * (k : Int) + t = size) (h0 : 0 ≤ t) (h1 : t < 64) : cutL size = List.replicate k 3 ++ (if t = 0 then [] else [clsF t]) := by
  have e1 : (size / 64).toNat = k := by omega
  have e2 : size % 64 = t := by omega
  unfold cutL
  rw [e1, e2]
theorem cutL_0 (size t : Int) (k : Nat) (h : 64 * (k : Int) + t = size) (h0 : t = 0) : cutL size = List.replicate k 3 := by
  rw [cutL_eq size t k h (by omega) (by omega), if_pos h0, List.append_nil]
theorem cutL_1 (size t : Int) (k : Nat) (h : 64 * (k : Int) + t = size) (h0 : 0 < t) (h1 : t < 64) : cutL size = List.replicate k 3 ++ [clsF t] := by
  rw [cutL_eq size t k h (by omega) h1, if_neg (by omega)]
theorem rep_more (k : Nat) : (List.replicate (k + 1) (3 : Int)).map (Value.int .i64) = (List.replicate k (3 : Int)).map (Value.int .i64) ++ [.int .i64 3] := by
  rw [List.replicate_succ', List.map_append]; rfl

set_option maxHeartbeats 400000 in
theorem cut_c (size : Int) (h1 : 1 ≤ size) (h2 : size ≤ 4096) (w : World) :
    Calls Try.prog 9 #[.int .i64 size] w (Lists (cutL size) w) := by
  obtain ⟨i0, hi, hz0, hz1, hz2⟩ := info_parts int_info
  have e3 : clsB 3 = 64 := rfl
  have HB := Lib.hid (Nat.le_refl w.heap.size)
  go_enter Try.func9, Try.ntmps9
  go_wp2_with fail
  go_loopw [0, 4] (fun s v wr => ∃ k : Nat, 64 * (k : Int) ≤ size ∧ s = .int .i64 (size - 64 * k) ∧ wr.ownsRow w.heap.size 3 1 v k ((List.replicate k (3 : Int)).map (Value.int .i64)) ∧ Below w.heap.size w wr) (fun s _ _ => (intOf s).toNat)
  case atStart => exact ⟨0, by omega, by simp, World.ownsRow_nil _ _ _ _, Below.refl _ _⟩
  case round =>
    obtain ⟨k, hk, rfl, hown, hb⟩ := hrel
    obtain ⟨t, ht⟩ : ∃ t : Int, size - 64 * k = t := ⟨_, rfl⟩
    have HT := Lib.hid ht
    rw [ht]
    clear ht
    have t0 : 0 ≤ t := by have := HT.out; omega
    have t4 : t ≤ 4096 := by have := HT.out; omega
    have hz := hb.size
    by_cases hlt : 64 ≤ t
    · go_wp2_with (first
        | (go_at_call 11; refine (bytes_c _ _).mono ?_; rintro e w' ⟨rfl, rfl⟩)
        | (at_builtin
           refine wpList_app rfl (.tmp 17) (.tmp 18) _ rfl w.heap.size 3 i0 _ 1 8 Try.underlying22 hi hz0 hz1 hz2 rfl (by omega) u4 k _ rfl (hown.alloc _) (some ⟨wr.heap.size, 0, none⟩) 1 1 [.int .i64 3] rfl (cap_some (by omega)) (Sees.one _ _ _) (by simp [Value.oneCell']) (by unfold maxLen; omega) (by omega) (by simp; omega) ?_
           intro v1 w1 hown1 hb1))
      have HO := Lib.hid hown1
      clear hown1
      go_roundw
      case rel => exact ⟨k + 1, by have := HT.out; omega, by have := HT.out; congr 1; omega, by rw [rep_more]; exact HO.out, Below.step1 hb hb1⟩
      case measure => simp [intOf]; omega
    · by_cases h0 : t = 0
      · have HE := Lib.hid (cutL_0 size t k (by have := HT.out; omega) h0)
        subst h0
        go_wp2_with (go_at_call 11; refine (bytes_c _ _).mono ?_; rintro e w' ⟨rfl, rfl⟩)
        go_ret2
        exact lists_of rfl (by rw [HE.out]; exact hown) hb
      · have HE := Lib.hid (cutL_1 size t k (by have := HT.out; omega) (by omega) (by omega))
        have h0' : 0 < t := by omega
        go_wp2_with (first
          | (go_at_call 11; refine (bytes_c _ _).mono ?_; rintro e w' ⟨rfl, rfl⟩)
          | (go_at_call 15; refine (fit_c _ _).mono ?_; rintro e w' ⟨rfl, rfl⟩)
          | (at_builtin
             refine wpList_app rfl (.tmp 22) (.tmp 25) _ rfl w.heap.size 3 i0 _ 1 8 Try.underlying22 hi hz0 hz1 hz2 rfl (by omega) u4 k _ rfl (hown.alloc _) (some ⟨wr.heap.size, 0, none⟩) 1 1 [.int .i64 (clsF t)] rfl (cap_some (by omega)) (Sees.one _ _ _) (by simp [Value.oneCell']) (by unfold maxLen; omega) (by omega) (by simp; omega) ?_
             intro v1 w1 hown1 hb1))
        go_ret2
        exact lists_of rfl (by rw [HE.out, List.map_append]; exact hown1) (Below.step1 hb hb1)
/-- The same, where the list's length is known. -/
theorem cut_l (size : Int) (h1 : 1 ≤ size) (h2 : size ≤ 4096) (xs : List Int) (hx : cutL size = xs) (n : Nat) (hn : xs.length = n) (w : World) :
    Calls Try.prog 9 #[.int .i64 size] w fun r w' => ∃ A c, r = .returned (.tuple #[.slice A n c, .int .i64 0]) ∧ CapOk A n c ∧ Sees w' 1 A n (xs.map (Value.int .i64)) ∧ Below w.heap.size w w' := by
  subst hx
  refine (cut_c size h1 h2 w).mono ?_
  rintro e w' ⟨A, m, c, rfl, hc, hs, hb⟩
  obtain rfl : m = n := hs.len.symm.trans hn
  exact ⟨A, c, rfl, hc, hs, hb⟩
theorem cut_no (size : Int) (h : size < 1 ∨ 4096 < size) (w : World) :
    Calls Try.prog 9 #[.int .i64 size] w fun r w' => r = .returned (.tuple #[.slice none 0 0, .int .i64 100]) ∧ w = w' := by
  rcases h with h | h
  · go_enter Try.func9, Try.ntmps9
    go_wp2_with fail
    go_ret2
    exact ⟨rfl, rfl⟩
  · go_enter Try.func9, Try.ntmps9
    go_wp2_with fail
    go_ret2
    exact ⟨rfl, rfl⟩
end Go.Proofs.Try
