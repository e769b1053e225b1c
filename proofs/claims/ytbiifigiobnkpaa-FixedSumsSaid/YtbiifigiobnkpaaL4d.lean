/- The walk of FixedSums. -/
import Derived.Test.YtbiifigiobnkpaaW4
import Derived.Test.YtbiifigiobnkpaaNil
import Derived.Test.YtbiifigiobnkpaaRow
namespace Go.Proofs.Try
open Go.RowKit
set_option linter.unusedVariables false

/-- The whole sum. -/
def tot : List Int → Int
  | [] => 0
  | x :: xs => x + tot xs
theorem tot_app (xs ys : List Int) : tot (xs ++ ys) = tot xs + tot ys := by
  induction xs with
  | nil => simp [tot]
  | cons x xs ih => simp [tot, ih]; omega
theorem tot_in (xs : List Int) (h : ∀ x ∈ xs, 0 ≤ x) : 0 ≤ tot xs := by
  induction xs with
  | nil => simp [tot]
  | cons x xs ih =>
    have := h x (by simp)
    have := ih (fun y hy => h y (by simp [hy]))
    simp only [tot]; omega
/-- A held sum is the whole one, held. -/
theorem sN_tot (zs : List Int) (h : ∀ k, 0 ≤ zs.getD k 0) : ∀ k, k ≤ zs.length → sN zs k = min (tot (zs.take k)) 18446744073709551615 ∧ 0 ≤ tot (zs.take k) := by
  intro k
  induction k with
  | zero => intro _; simp only [List.take_zero, sN, tot]; omega
  | succ k ih =>
    intro hk
    obtain ⟨e, e0⟩ := ih (by omega)
    have hx := h k
    have et : tot (zs.take (k + 1)) = tot (zs.take k) + zs.getD k 0 := by
      rw [List.take_add_one, tot_app, List.getD_eq_getElem?_getD, List.getElem?_eq_getElem (by omega)]
      simp [tot]
    rw [sN, e, et]
    unfold wAdd
    constructor
    · split <;> omega
    · omega

def U64s (zs : List Int) : Prop := ∀ x ∈ zs, 0 ≤ x ∧ x < 18446744073709551616
theorem U64s.at_ {zs : List Int} (h : U64s zs) (k : Nat) : 0 ≤ zs.getD k 0 ∧ zs.getD k 0 < 18446744073709551616 := by
  rw [List.getD_eq_getElem?_getD]
  cases hx : zs[k]? with
  | none => simp
  | some x => simpa using h x (List.mem_of_getElem? hx)
theorem fsum_s (A : Option Addr) (n c : Nat) (zs : List Int) (T : Int) (hT : min (tot zs) 18446744073709551615 = T) (w : World) (h : Sees w 1 A n (zs.map (Value.int .u64))) (hu : U64s zs) (hn : n ≤ 1000000) :
    Calls Try.prog 39 #[.slice A n c] w fun r w' => r = .returned (.int .u64 T) ∧ w = w' := by
  have hl := h.len
  rcases h.2 with h0 | ⟨b, off, rfl, hlt, _⟩
  · subst h0
    have hz : zs = [] := List.eq_nil_of_length_eq_zero hl
    subst hz
    refine (fsum_nil0 A c w).mono ?_
    rintro e w' ⟨rfl, rfl⟩
    exact ⟨ret_i (by rw [← hT]; rfl), rfl⟩
  · refine (fsum_c b off n c zs (by omega) (by omega) (fun k => (hu.at_ k).1) (fun k => (hu.at_ k).2) w (fun j hj => h.int (by omega))).mono ?_
    rintro e w' ⟨rfl, rfl⟩
    exact ⟨ret_i (by rw [(sN_tot zs (fun k => (hu.at_ k).1) n (by omega)).1, ← hT, ← hl, List.take_length]), rfl⟩
theorem U64s.app {xs ys : List Int} (h : U64s xs) (k : U64s ys) : U64s (xs ++ ys) := fun x hx => (List.mem_append.1 hx).elim (h x) (k x)
theorem u64_info : (Try.prog.info? 22).map (fun i => (i.zero, i.size, i.bytes)) = some (some (.int .u64 0), 1, 8) := by kernel_rfl

set_option maxHeartbeats 4000000 in
theorem sums4 (A B : Option Addr) (n m c d : Nat) (xs ys : List Int) (w : World)
    (hA : Sees w 1 A n (xs.map (Value.int .u64))) (hB : Sees w 1 B m (ys.map (Value.int .u64))) (hcA : A = none → c = 0) (hcB : B = none → d = 0) (ux : U64s xs) (uy : U64s ys) (hn : n ≤ 100) (hm : m ≤ 100) :
    Calls Try.prog 14 #[.slice A n c, .slice B m d] w fun e w' => e = .returned (.bool true) ∧ Below w.heap.size w w' := by
  obtain ⟨i0, hi, hz0, hz1, hz2⟩ := info_parts u64_info
  have px := tot_in xs (fun x hx => (ux x hx).1)
  have py := tot_in ys (fun x hx => (uy x hx).1)
  obtain ⟨P, hP⟩ : ∃ P, min (tot xs) 18446744073709551615 = P := ⟨_, rfl⟩
  obtain ⟨Q, hQ⟩ : ∃ Q, min (tot ys) 18446744073709551615 = Q := ⟨_, rfl⟩
  obtain ⟨R, hR⟩ : ∃ R, min (tot (xs ++ ys)) 18446744073709551615 = R := ⟨_, rfl⟩
  have hR' : min (tot (ys ++ xs)) 18446744073709551615 = R := by rw [← hR, tot_app, tot_app, Int.add_comm]
  have hS : min (tot [P, Q]) 18446744073709551615 = R := by rw [← hR, tot_app]; simp only [tot]; omega
  have hge : P ≤ R := by rw [tot_app] at hR; omega
  have uPQ : U64s [P, Q] := by
    intro x hx
    simp at hx
    rcases hx with rfl | rfl <;> omega
  have HP := Lib.hid hP
  have HQ := Lib.hid hQ
  have HR := Lib.hid hR
  have HR' := Lib.hid hR'
  have HS := Lib.hid hS
  have HU := Lib.hid uPQ
  have HX := Lib.hid ux
  have HY := Lib.hid uy
  have HcA := Lib.hid hcA
  have HcB := Lib.hid hcB
  clear hP hQ hR hR' hS uPQ ux uy px py hcA hcB
  go_enter Try.func14, Try.ntmps14
  go_wp2_with fail
  with_reducible refine (awake4 _).mono ?_
  rintro e w1 ⟨rfl, hb1⟩
  have hz1' := hb1.size
  have hA1 := hA.below hb1
  have hB1 := hB.below hb1
  go_wp2_with (first
    | (at_builtin
       refine wpList_app rfl (.tmp 18) (.tmp 19) _ rfl w1.heap.size 22 i0 _ 1 8 Try.underlying41 hi hz0 hz1 hz2 rfl (by omega) _ 0 [] rfl (World.ownsRow_made w1 #[] 0 (Nat.le_refl _) (Nat.zero_le _) rfl) A n c (xs.map (Value.int .u64)) rfl HcA.out (hA1.alloc _) (ints_one _ _) (by unfold maxLen; omega) (by omega) (by simp) ?_
       intro v1 w2 hown2 hb2
       have hb12 := Below.step1 (Below.refl w1.heap.size w1) hb2 (Nat.le_refl _)
       have hz2' := hb12.size
       have hB2 := hB1.below hb12)
    | (at_builtin
       refine wpList_app rfl (.tmp 20) (.tmp 21) _ rfl w1.heap.size 22 i0 _ 1 8 Try.underlying41 hi hz0 hz1 hz2 rfl (by omega) v1 (0 + n) ([] ++ xs.map (Value.int .u64)) rfl hown2 B m d (ys.map (Value.int .u64)) rfl HcB.out hB2 (ints_one _ _) (by unfold maxLen; omega) (by omega) (by omega) ?_
       intro v2 w3 hown3 hb3
       obtain ⟨C, q, rfl, hcC, hC⟩ := Sees.of_own hown3
       have hb13 := hb12.trans hb3
       have hz3' := hb13.size
       have hA3 := hA1.below hb13
       have hB3 := hB1.below hb13
       rw [List.nil_append, ← List.map_append, Nat.zero_add] at hC
       clear hown2 hown3 hB2 hcC)
    | (at_builtin
       refine wpList_app rfl (.tmp 23) (.tmp 24) _ rfl w3.heap.size 22 i0 _ 1 8 Try.underlying41 hi hz0 hz1 hz2 rfl (by omega) _ 0 [] rfl (World.ownsRow_made w3 #[] 0 (Nat.le_refl _) (Nat.zero_le _) rfl) B m d (ys.map (Value.int .u64)) rfl HcB.out (hB3.alloc _) (ints_one _ _) (by unfold maxLen; omega) (by omega) (by simp) ?_
       intro v4 w4 hown4 hb4
       have hb34 := Below.step1 (Below.refl w3.heap.size w3) hb4 (Nat.le_refl _)
       have hz4' := hb34.size
       have hA4 := hA3.below hb34)
    | (at_builtin
       refine wpList_app rfl (.tmp 25) (.tmp 26) _ rfl w3.heap.size 22 i0 _ 1 8 Try.underlying41 hi hz0 hz1 hz2 rfl (by omega) v4 (0 + m) ([] ++ ys.map (Value.int .u64)) rfl hown4 A n c (xs.map (Value.int .u64)) rfl HcA.out hA4 (ints_one _ _) (by unfold maxLen; omega) (by omega) (by omega) ?_
       intro v5 w5 hown5 hb5
       obtain ⟨D, r, rfl, hcD, hD⟩ := Sees.of_own hown5
       have hb35 := hb34.trans hb5
       have hz5' := hb35.size
       have hA5 := hA3.below hb35
       have hB5 := hB3.below hb35
       have hC5 := hC.below hb35
       rw [List.nil_append, ← List.map_append, Nat.zero_add] at hD
       clear hown4 hown5 hA4 hcD))
  with_reducible refine (fsum_s _ _ _ _ R HR.out _ hC5 (HX.out.app HY.out) (by omega)).mono ?_
  rintro e w' ⟨rfl, rfl⟩
  go_wp2_with fail
  with_reducible refine (fsum_s _ _ _ _ R HR'.out _ hD (HY.out.app HX.out) (by omega)).mono ?_
  rintro e w' ⟨rfl, rfl⟩
  go_wp2_with fail
  with_reducible refine (fsum_s _ _ _ _ R HR.out _ hC5 (HX.out.app HY.out) (by omega)).mono ?_
  rintro e w' ⟨rfl, rfl⟩
  go_wp2_with fail
  with_reducible refine (fsum_s _ _ _ _ P HP.out _ hA5 HX.out (by omega)).mono ?_
  rintro e w' ⟨rfl, rfl⟩
  go_wp2_with fail
  with_reducible refine (fsum_s _ _ _ _ Q HQ.out _ hB5 HY.out (by omega)).mono ?_
  rintro e w' ⟨rfl, rfl⟩
  go_wp2_with fail
  refine (fsum_s _ _ _ [P, Q] R HS.out _ (Sees.new _ _ _) HU.out (by simp)).mono ?_
  rintro e w' ⟨rfl, rfl⟩
  go_wp2_with fail
  with_reducible refine (fsum_s _ _ _ _ R HR.out _ (hC5.alloc _) (HX.out.app HY.out) (by omega)).mono ?_
  rintro e w' ⟨rfl, rfl⟩
  go_wp2_with fail
  with_reducible refine (fsum_s _ _ _ _ P HP.out _ (hA5.alloc _) HX.out (by omega)).mono ?_
  rintro e w' ⟨rfl, rfl⟩
  go_wp2_with fail
  go_ret
  exact ⟨rfl, by (repeat' (first | (with_reducible exact Below.refl _ _) | (with_reducible assumption) | (with_reducible refine Below.alloc ?_ ?_ _) | (with_reducible refine Below.drew ?_) | (with_reducible refine Below_drewN ?_ _) | (with_reducible refine Below.setCell ?_ ?_ _) | (refine Below.step (B' := ?_) (b := ?_) ?_ ?_ ?_; rotate_left 2; (with_reducible assumption)) | go_size))⟩

theorem walk_FixedSums (v0 v1 : Value) (w : World) (o0 : ∃ xs, Row w .u64 v0 xs) (o1 : ∃ xs, Row w .u64 v1 xs) :
    Calls Try.prog 14 #[v0, v1] w fun e w' => e = .returned (.bool true) ∧ Below w.heap.size w w' := by
  obtain ⟨xs, A, n, c, rfl, hcA, hn, hA, wx⟩ := o0
  obtain ⟨ys, B, m, d, rfl, hcB, hm, hB, wy⟩ := o1
  have ux : U64s xs := fun x hx => by have := bounds_u64 (wx x hx); omega
  have uy : U64s ys := fun x hx => by have := bounds_u64 (wy x hx); omega
  clear wx wy
  by_cases hn1 : n ≤ 100
  · by_cases hm1 : m ≤ 100
    · exact sums4 A B n m c d xs ys w hA hB hcA hcB ux uy hn1 hm1
    · go_enter Try.func14, Try.ntmps14
      go_wp2_with fail
      refine (awake4 _).mono ?_
      rintro e w1 ⟨rfl, hb1⟩
      go_wp2_with fail
      go_ret
      exact ⟨rfl, by (repeat' (first | (with_reducible exact Below.refl _ _) | (with_reducible assumption) | (with_reducible refine Below.alloc ?_ ?_ _) | (with_reducible refine Below.drew ?_) | (with_reducible refine Below_drewN ?_ _) | (with_reducible refine Below.setCell ?_ ?_ _) | (refine Below.step (B' := ?_) (b := ?_) ?_ ?_ ?_; rotate_left 2; (with_reducible assumption)) | go_size))⟩
  · go_enter Try.func14, Try.ntmps14
    go_wp2_with fail
    refine (awake4 _).mono ?_
    rintro e w1 ⟨rfl, hb1⟩
    go_wp2_with fail
    go_ret
    exact ⟨rfl, by (repeat' (first | (with_reducible exact Below.refl _ _) | (with_reducible assumption) | (with_reducible refine Below.alloc ?_ ?_ _) | (with_reducible refine Below.drew ?_) | (with_reducible refine Below_drewN ?_ _) | (with_reducible refine Below.setCell ?_ ?_ _) | (refine Below.step (B' := ?_) (b := ?_) ?_ ?_ ?_; rotate_left 2; (with_reducible assumption)) | go_size))⟩
end Go.Proofs.Try
