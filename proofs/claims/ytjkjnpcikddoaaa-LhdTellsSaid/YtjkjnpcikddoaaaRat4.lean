/- Contracts of ratio.Least. -/
import Derived.Test.YtjkjnpcikddoaaaRat2
import Derived.Test.YtjkjnpcikddoaaaOwn
import Derived.Test.YtjkjnpcikddoaaaLater
import Derived.LoopN
import Derived.WalkMore
import Derived.Deep.RegionWith
namespace Go.Proofs.Try
open Go.RowKit
set_option linter.unusedVariables false

theorem below_c (an ad bn bd : Int) (b : Bool) (hb : decide (rcV an ad bn bd < 0) = b) (h1 : 0 ≤ an) (h2 : 0 ≤ ad) (h3 : 0 ≤ bn) (h4 : 0 ≤ bd) (g1 : an < 18446744073709551616) (g2 : ad < 18446744073709551616) (g3 : bn < 18446744073709551616) (g4 : bd < 18446744073709551616) (w : World) :
    Calls Try.prog 92 #[.agg #[.int .u64 an, .int .u64 ad], .agg #[.int .u64 bn, .int .u64 bd]] w fun r w' => r = .returned (.bool b) ∧ Below w.heap.size w w' := by
  go_enter Try.func92, Try.ntmps92
  go_wp2_with fail
  with_reducible refine (rcmp_c _ _ _ _ h1 h2 h3 h4 g1 g2 g3 g4 _).mono ?_
  rintro e w1 ⟨rfl, hb1⟩
  have hz1 := hb1.size
  simp only [World.size_alloc] at hz1
  go_wp2_with fail
  go_ret
  exact ⟨by first | rfl | (simp; done), by (repeat' (first | (with_reducible exact Below.refl _ _) | (with_reducible assumption) | (with_reducible refine Below.alloc ?_ ?_ _) | (with_reducible refine Below.drew ?_) | (with_reducible refine Below_drewN ?_ _) | (with_reducible refine Below.setCell ?_ ?_ _) | (refine Below.step (B' := ?_) (b := ?_) ?_ ?_ ?_; rotate_left 2; (with_reducible assumption)) | go_size))⟩

/-- The cells of ratios, one behind the other. -/
def flat : List (Int × Int) → List Value
  | [] => []
  | p :: l => .int .u64 p.1 :: .int .u64 p.2 :: flat l
theorem flat_len (l : List (Int × Int)) : (flat l).length = 2 * l.length := by
  induction l with
  | nil => rfl
  | cons p l ih => simp [flat, ih]; omega
theorem flat_at (l : List (Int × Int)) (j : Nat) (h : j < l.length) : (flat l)[2 * j]? = some (.int .u64 (l.getD j (0, 0)).1) ∧ (flat l)[2 * j + 1]? = some (.int .u64 (l.getD j (0, 0)).2) := by
  induction l generalizing j with
  | nil => simp at h
  | cons p l ih =>
    cases j with
    | zero => simp [flat]
    | succ j =>
      have := ih j (by simpa using h)
      rw [show 2 * (j + 1) = 2 * j + 1 + 1 by omega]
      simpa [flat] using this
theorem Sees.pair {w : World} {n b off : Nat} {l : List (Int × Int)} (h : Sees w 2 (some ⟨b, off, none⟩) n (flat l)) {j : Nat} (hj : j < n) :
    w.cell? ⟨b, off + j * 2, none⟩ = some (.int .u64 (l.getD j (0, 0)).1) ∧ w.cell? ⟨b, off + j * 2 + 1, none⟩ = some (.int .u64 (l.getD j (0, 0)).2) ∧ b < w.heap.size := by
  have hl : l.length = n := by have := h.1; rw [flat_len] at this; omega
  obtain ⟨e1, e2⟩ := flat_at l j (by omega)
  obtain ⟨u, hu, hc⟩ := h.cell (j := 2 * j) (by omega)
  obtain ⟨v, hv, hd⟩ := h.cell (j := 2 * j + 1) (by omega)
  rw [e1] at hu
  rw [e2] at hv
  injection hu with hu
  injection hv with hv
  subst hu hv
  rw [Nat.mul_comm j 2]
  exact ⟨hc, hd, World.block_lt_of_cell? w _ hc⟩

/-- The place of the least ratio of the first k, and whether there is one. -/
def lstS (l : List (Int × Int)) : Nat → Nat × Bool
  | 0 => (0, false)
  | k + 1 => if (l.getD k (0, 0)).2 = 0 then lstS l k else if (lstS l k).2 = false then (k, true) else
      if rcV (l.getD k (0, 0)).1 (l.getD k (0, 0)).2 (l.getD (lstS l k).1 (0, 0)).1 (l.getD (lstS l k).1 (0, 0)).2 < 0 then (k, true) else lstS l k
def R64 (l : List (Int × Int)) : Prop := ∀ k, 0 ≤ (l.getD k (0, 0)).1 ∧ (l.getD k (0, 0)).1 < 18446744073709551616 ∧ 0 ≤ (l.getD k (0, 0)).2 ∧ (l.getD k (0, 0)).2 < 18446744073709551616
theorem lstS_lt (l : List (Int × Int)) (k : Nat) : (lstS l k).1 = 0 ∨ (lstS l k).1 < k := by
  induction k with
  | zero => exact .inl rfl
  | succ k ih =>
    unfold lstS
    split
    · omega
    · split
      · exact .inr (by simp)
      · split
        · exact .inr (by simp)
        · omega

theorem lstS_next (l : List (Int × Int)) (k a : Nat) (f : Bool) (h : lstS l k = (a, f)) :
    ((l.getD k (0, 0)).2 = 0 → lstS l (k + 1) = (a, f)) ∧ ((l.getD k (0, 0)).2 ≠ 0 → f = false → lstS l (k + 1) = (k, true)) ∧
    ((l.getD k (0, 0)).2 ≠ 0 → f = true → rcV (l.getD k (0, 0)).1 (l.getD k (0, 0)).2 (l.getD a (0, 0)).1 (l.getD a (0, 0)).2 < 0 → lstS l (k + 1) = (k, true)) ∧
    ((l.getD k (0, 0)).2 ≠ 0 → f = true → ¬ rcV (l.getD k (0, 0)).1 (l.getD k (0, 0)).2 (l.getD a (0, 0)).1 (l.getD a (0, 0)).2 < 0 → lstS l (k + 1) = (a, f)) := by
  refine ⟨fun h1 => ?_, fun h1 h2 => ?_, fun h1 h2 h3 => ?_, fun h1 h2 h3 => ?_⟩
  · rw [lstS, if_pos h1, h]
  · rw [lstS, if_neg h1, h, if_pos h2]
  · rw [lstS, if_neg h1, h, if_neg (by simp [h2]), if_pos h3]
  · rw [lstS, if_neg h1, h, if_neg (by simp [h2]), if_neg h3]

set_option maxRecDepth 100000 in
set_option maxHeartbeats 4000000 in
theorem least0_c (b off n c : Nat) (l : List (Int × Int)) (hr : R64 l) (hn : n ≤ 1000000) (w : World) (h : Sees w 2 (some ⟨b, off, none⟩) n (flat l)) :
    Calls Try.prog 94 #[.slice (some ⟨b, off, none⟩) n c, .func (.func 95) #[] #[], .func (.func 92) #[] #[]] w fun r w' => r = .returned (.tuple #[.int .i64 (lstS l n).1, .bool (lstS l n).2]) ∧ Below w.heap.size w w' := by
  have HR := Lib.hid hr
  clear hr
  go_enter Try.func94, Try.ntmps94
  go_wp2_with fail
  go_step3
  go_wp2_with fail
  go_step3
  go_wp2_with fail
  go_loopw [8, 9, 14] (fun at_ f_ i wr => ∃ (k a : Nat) (f : Bool), k ≤ n ∧ i = .int .i64 k ∧ at_ = .int .i64 a ∧ f_ = .bool f ∧ Hid (lstS l k = (a, f)) ∧ Below w.heap.size w wr) (fun _ _ i _ => n - (intOf i).toNat)
  case atStart => exact ⟨0, 0, false, by omega, rfl, rfl, rfl, rfl, Below.refl _ _⟩
  case round =>
    obtain ⟨k, a, f, hk, rfl, rfl, rfl, HL, hb⟩ := hrel
    by_cases hlt : k < n
    · have hw := h.below hb
      obtain ⟨c0, c1, hbl⟩ := hw.pair hlt
      obtain ⟨q0, q1, q2, q3⟩ := HR.out k
      have hz := hb.size
      have hak : a < n := by have := lstS_lt l k; rw [HL.out] at this; simp at this; omega
      have HS := Lib.hid (lstS_next l k a f HL.out)
      generalize (l.getD k (0, 0)).1 = x at c0 q0 q1 HS
      generalize (l.getD k (0, 0)).2 = y at c1 q2 q3 HS
      by_cases hy : y = 0
      · have HN := Lib.hid (HS.out.1 hy)
        subst hy
        clear HS
        go_wp2_with fail
        (refine region_later (by kernel_rfl) (by kernel_rfl) ?_); (intro hlat); (repeat (go_big_quiet_step ((go_at_call 95; exact later_call (some_n _ _))))); (refine wpQuiet_nil ?_); (intro W1 hb1); (clear hlat)
        all_goals
          go_wp2_with fail
          go_roundw
          case rel => exact ⟨k + 1, a, f, by omega, by go_num, rfl, rfl, HN.out, by (repeat' (first | (with_reducible exact Below.refl _ _) | (with_reducible assumption) | (with_reducible refine Below.alloc ?_ ?_ _) | (with_reducible refine Below.drew ?_) | (with_reducible refine Below_drewN ?_ _) | (with_reducible refine Below.setCell ?_ ?_ _) | (refine Below.step (B' := ?_) (b := ?_) ?_ ?_ ?_; rotate_left 2; (with_reducible assumption)) | go_size))⟩
          case measure => simp [intOf]; omega
      · have hy0 : 0 < y := by omega
        cases f
        · have HN := Lib.hid (HS.out.2.1 hy rfl)
          clear HS hy
          go_wp2_with fail
          (refine region_later (by kernel_rfl) (by kernel_rfl) ?_); (intro hlat); (repeat (go_big_quiet_step ((go_at_call 95; exact later_call (some_y _ _ hy0 _))))); (refine wpQuiet_nil ?_); (intro W1 hb1); (clear hlat)
          all_goals
            go_wp2_with fail
            go_roundw
            case rel => exact ⟨k + 1, k, true, by omega, by go_num, rfl, rfl, HN.out, by (repeat' (first | (with_reducible exact Below.refl _ _) | (with_reducible assumption) | (with_reducible refine Below.alloc ?_ ?_ _) | (with_reducible refine Below.drew ?_) | (with_reducible refine Below_drewN ?_ _) | (with_reducible refine Below.setCell ?_ ?_ _) | (refine Below.step (B' := ?_) (b := ?_) ?_ ?_ ?_; rotate_left 2; (with_reducible assumption)) | go_size))⟩
            case measure => simp [intOf]; omega
        · obtain ⟨d0, d1, _⟩ := hw.pair hak
          obtain ⟨p0, p1, p2, p3⟩ := HR.out a
          generalize (l.getD a (0, 0)).1 = u at d0 p0 p1 HS
          generalize (l.getD a (0, 0)).2 = v at d1 p2 p3 HS
          by_cases hv : rcV x y u v < 0
          · have HN := Lib.hid (HS.out.2.2.1 hy rfl hv)
            have HV := Lib.hid (show decide (rcV x y u v < 0) = true by simpa using hv)
            clear HS hy hv
            go_wp2_with fail
            (refine region_later (by kernel_rfl) (by kernel_rfl) ?_); (intro hlat); (repeat (go_big_quiet_step ((first | (go_at_call 95; exact later_call (some_y _ _ hy0 _)) | (go_at_call 92; exact later_call (below_c _ _ _ _ true HV.out q0 q2 p0 p2 q1 q3 p1 p3 _)))))); (refine wpQuiet_nil ?_); (intro W1 hb1); (clear hlat)
            all_goals
              go_wp2_with fail
              go_roundw
              case rel => exact ⟨k + 1, k, true, by omega, by go_num, rfl, rfl, HN.out, by (repeat' (first | (with_reducible exact Below.refl _ _) | (with_reducible assumption) | (with_reducible refine Below.alloc ?_ ?_ _) | (with_reducible refine Below.drew ?_) | (with_reducible refine Below_drewN ?_ _) | (with_reducible refine Below.setCell ?_ ?_ _) | (refine Below.step (B' := ?_) (b := ?_) ?_ ?_ ?_; rotate_left 2; (with_reducible assumption)) | go_size))⟩
              case measure => simp [intOf]; omega
          · have HN := Lib.hid (HS.out.2.2.2 hy rfl hv)
            have HV := Lib.hid (show decide (rcV x y u v < 0) = false by simpa using hv)
            clear HS hy hv
            go_wp2_with fail
            (refine region_later (by kernel_rfl) (by kernel_rfl) ?_); (intro hlat); (repeat (go_big_quiet_step ((first | (go_at_call 95; exact later_call (some_y _ _ hy0 _)) | (go_at_call 92; exact later_call (below_c _ _ _ _ false HV.out q0 q2 p0 p2 q1 q3 p1 p3 _)))))); (refine wpQuiet_nil ?_); (intro W1 hb1); (clear hlat)
            all_goals
              go_wp2_with fail
              go_roundw
              case rel => exact ⟨k + 1, a, true, by omega, by go_num, rfl, rfl, HN.out, by (repeat' (first | (with_reducible exact Below.refl _ _) | (with_reducible assumption) | (with_reducible refine Below.alloc ?_ ?_ _) | (with_reducible refine Below.drew ?_) | (with_reducible refine Below_drewN ?_ _) | (with_reducible refine Below.setCell ?_ ?_ _) | (refine Below.step (B' := ?_) (b := ?_) ?_ ?_ ?_; rotate_left 2; (with_reducible assumption)) | go_size))⟩
              case measure => simp [intOf]; omega
    · obtain rfl : k = n := by omega
      go_wp2_with fail
      rw [Exit.noGoto_ret]
      go_ret2
      exact ⟨by rw [HL.out]; rfl, hb⟩

theorem R64_of (l : List (Int × Int)) (h : ∀ p ∈ l, (0 ≤ p.1 ∧ p.1 < 18446744073709551616) ∧ 0 ≤ p.2 ∧ p.2 < 18446744073709551616) : R64 l := by
  intro k
  rw [List.getD_eq_getElem?_getD]
  cases hx : l[k]? with
  | none => simp
  | some x => have := h x (List.mem_of_getElem? hx); simp; omega
theorem Sees.new2 (w : World) (cs : Array Value) (t : TypeId) (n : Nat) (l : List (Int × Int)) (h : cs.toList = flat l) (hl : l.length = n) : Sees (w.alloc (.cells cs t)) 2 (some ⟨w.heap.size, 0, none⟩) n (flat l) := by
  refine ⟨by rw [flat_len, hl]; omega, .inr ⟨_, _, rfl, by simp, fun j hj => ?_⟩⟩
  rw [Nat.zero_add, cell_of_row _ _ j cs t (0, 0) (heap_alloc_new w _), ← h]
  simp
theorem least0_nil (A : Option Addr) (c : Nat) (l : List (Int × Int)) (w : World) :
    Calls Try.prog 94 #[.slice A 0 c, .func (.func 95) #[] #[], .func (.func 92) #[] #[]] w fun r w' => r = .returned (.tuple #[.int .i64 (lstS l 0).1, .bool (lstS l 0).2]) ∧ Below w.heap.size w w' := by
  go_enter Try.func94, Try.ntmps94
  go_wp2_with fail
  go_step3
  go_wp2_with fail
  go_step3
  go_wp2_with fail
  go_loop [8, 9, 14] (fun at_ f_ i => i = .int .i64 0 ∧ at_ = .int .i64 0 ∧ f_ = .bool false) (fun _ _ _ => 0)
  case atStart => exact ⟨rfl, rfl, rfl⟩
  case round =>
    obtain ⟨rfl, rfl, rfl⟩ := hrel
    go_wp2_with fail
    try rw [Exit.noGoto_ret]
    go_ret2
    exact ⟨rfl, Below.refl _ _⟩
theorem least_c (A : Option Addr) (n c : Nat) (l : List (Int × Int)) (hr : R64 l) (hn : n ≤ 1000000) (w : World) (h : Sees w 2 A n (flat l)) :
    Calls Try.prog 62 #[.slice A n c] w fun r w' => r = .returned (.tuple #[.int .i64 (lstS l n).1, .bool (lstS l n).2]) ∧ Below w.heap.size w w' := by
  have H : Calls Try.prog 94 #[.slice A n c, .func (.func 95) #[] #[], .func (.func 92) #[] #[]] w fun r w' => r = .returned (.tuple #[.int .i64 (lstS l n).1, .bool (lstS l n).2]) ∧ Below w.heap.size w w' := by
    rcases h.2 with h0 | ⟨b, off, rfl, _, _⟩
    · subst h0; exact least0_nil A c l w
    · exact least0_c b off n c l hr hn w h
  have HH := Lib.hid H
  clear H
  go_enter Try.func62, Try.ntmps62
  go_wp2_with fail
  refine (Hid.out HH).mono ?_
  rintro e w1 ⟨rfl, hb1⟩
  go_wp2_with fail
  go_ret2
  exact ⟨rfl, hb1⟩
theorem least_t (A : Option Addr) (n c : Nat) (l : List (Int × Int)) (a : Nat) (f : Bool) (hs : lstS l n = (a, f)) (hr : R64 l) (hn : n ≤ 1000000) (w : World) (h : Sees w 2 A n (flat l)) :
    Calls Try.prog 62 #[.slice A n c] w fun r w' => r = .returned (.tuple #[.int .i64 a, .bool f]) ∧ Below w.heap.size w w' := by
  have := least_c A n c l hr hn w h
  rw [hs] at this
  exact this
end Go.Proofs.Try
