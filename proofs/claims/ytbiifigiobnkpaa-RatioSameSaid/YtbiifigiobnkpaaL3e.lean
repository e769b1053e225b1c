/- The walk of RatioSame. -/
import Derived.Test.YtbiifigiobnkpaaL3f
namespace Go.Proofs.Try
open Go.RowKit
set_option linter.unusedVariables false

theorem scale (a b k : Int) (hk : 0 < k) : cmpI (a * k) (b * k) = cmpI a b := by
  rcases (by omega : a < b ∨ a = b ∨ b < a) with h | h | h
  · have := Int.mul_lt_mul_of_pos_right h hk
    rw [cmpI, if_pos this, cmpI, if_pos h]
  · subst h; unfold cmpI; simp
  · have := Int.mul_lt_mul_of_pos_right h hk
    rw [cmpI, if_neg (by omega), if_neg (by omega), cmpI, if_neg (by omega), if_neg (by omega)]

set_option maxRecDepth 100000 in
set_option maxHeartbeats 4000000 in
theorem walk_RatioSame (a0 a1 a2 a3 b3 : Int) (w0 : (Lit.int .u32 a0).wf = true) (w1 : (Lit.int .u32 a1).wf = true) (w2 : (Lit.int .u32 a2).wf = true) (w3 : (Lit.int .u64 a3).wf = true) (z3 : (Lit.int .u64 b3).wf = true) (w : World) :
    Calls Try.prog 5 #[.int .u32 a0, .int .u32 a1, .int .u32 a2, .agg #[.int .u64 a3, .int .u64 b3]] w fun e w' => e = .returned (.bool true) ∧ Below w.heap.size w w' := by
  obtain ⟨h0, h0'⟩ := bounds_u32 w0
  obtain ⟨h1, h1'⟩ := bounds_u32 w1
  obtain ⟨h2, h2'⟩ := bounds_u32 w2
  obtain ⟨h3, h3'⟩ := bounds_u64 w3
  obtain ⟨g3, g3'⟩ := bounds_u64 z3
  clear w0 w1 w2 w3 z3
  have p0 := Int.mul_nonneg h0 h2
  have p1 := Int.mul_nonneg h1 h2
  have p0' : a0 * a2 ≤ 4294967295 * 4294967295 := Int.mul_le_mul h0' h2' h2 (by omega)
  have p1' : a1 * a2 ≤ 4294967295 * 4294967295 := Int.mul_le_mul h1' h2' h2 (by omega)
  have hz : (a1 = 0 ∨ a2 = 0) → a1 * a2 = 0 := fun h => by rcases h with rfl | rfl <;> simp
  have hn : a1 ≠ 0 → a2 ≠ 0 → a1 * a2 ≠ 0 := fun h g => Int.mul_ne_zero h g
  have q1 : a1 ≠ 0 → a2 ≠ 0 → rcV a0 a1 (a0 * a2) (a1 * a2) = 0 := fun h g => by
    rw [rcV_at _ _ _ _ h (hn h g), cmpI_eq, Int.mul_comm a1 a2, ← Int.mul_assoc]
  have q2 : a1 ≠ 0 → a2 ≠ 0 → rcV (a0 * a2) (a1 * a2) a3 b3 = rcV a0 a1 a3 b3 := fun h g => by
    by_cases hb : b3 = 0
    · unfold rcV; rw [if_pos (.inr hb), if_pos (.inr hb)]
    · rw [rcV_at _ _ _ _ (hn h g) hb, rcV_at _ _ _ _ h hb, ← scale (a0 * b3) (a3 * a1) a2 (by omega)]
      rw [show a0 * a2 * b3 = a0 * b3 * a2 by rw [Int.mul_assoc, Int.mul_comm a2, ← Int.mul_assoc], show a3 * (a1 * a2) = a3 * a1 * a2 by rw [Int.mul_assoc]]
  have q3 : a1 ≠ 0 → a2 ≠ 0 → rcE (a1 * a2) b3 = rcE a1 b3 := fun h g => by
    by_cases hb : b3 = 0
    · unfold rcE; rw [if_pos (.inr hb), if_pos (.inr hb)]
    · have := hn h g
      unfold rcE; rw [if_neg (by omega), if_neg (by omega)]
  have hpp : a0 * a2 < 18446744073709551616 := by omega
  have hdd : a1 * a2 < 18446744073709551616 := by omega
  clear p0' p1'
  generalize hP : a0 * a2 = P at *
  generalize hD : a1 * a2 = D at *
  have EP : IntKind.u64.wrap P = P := by rw [IntKind.wrap_u64]; omega
  have ED : IntKind.u64.wrap D = D := by rw [IntKind.wrap_u64]; omega
  by_cases hc1 : a1 = 0
  · have hD0 := hz (.inl hc1)
    subst hD0
    subst hc1
    clear q1 q2 q3 hz hn
    have ED0 : IntKind.u64.wrap 0 = 0 := rfl
    go_enter Try.func5, Try.ntmps5
    go_wp2_with fail
    with_reducible refine (awake3 _).mono ?_
    rintro e w1 ⟨rfl, hb1⟩
    obtain ⟨hc_w1, hf_w1, hz_w1⟩ := kept hb1; (try have hzw0_w1 : w.heap.size < w1.heap.size := (by have := hz_w1; first | omega | (simp at this; omega)))
    have hz1 := hb1.size
    simp only [World.size_alloc] at hz1
    have hx1 : w.heap.size < w1.heap.size + 1 + 1 := by omega
    have hx2 : w.heap.size < w1.heap.size + 2 := by omega
    go_wp2_with fail
    with_reducible refine (rcmp_n1 _ _ _ _).mono ?_
    rintro e w2 ⟨rfl, hb2⟩
    obtain ⟨hc_w2, hf_w2, hz_w2⟩ := kept hb2; (try have hzw0_w2 : w.heap.size < w2.heap.size := (by have := hz_w2; first | omega | (simp at this; omega))); (try have hzw10_w2 : w1.heap.size < w2.heap.size := (by have := hz_w2; first | omega | (simp at this; omega))); (try have hzw11_w2 : w1.heap.size + 1 < w2.heap.size := (by have := hz_w2; first | omega | (simp at this; omega)))
    have hz2 := hb2.size
    go_wp2_with fail
    with_reducible refine (rcmp_n1 _ _ _ _).mono ?_
    rintro e w3 ⟨rfl, hb3⟩
    obtain ⟨hc_w3, hf_w3, hz_w3⟩ := kept hb3; (try have hzw0_w3 : w.heap.size < w3.heap.size := (by have := hz_w3; first | omega | (simp at this; omega))); (try have hzw10_w3 : w1.heap.size < w3.heap.size := (by have := hz_w3; first | omega | (simp at this; omega))); (try have hzw11_w3 : w1.heap.size + 1 < w3.heap.size := (by have := hz_w3; first | omega | (simp at this; omega)))
    have hz3 := hb3.size
    go_wp2_with fail
    with_reducible refine (rcmp_n1 _ _ _ _).mono ?_
    rintro e w4 ⟨rfl, hb4⟩
    obtain ⟨hc_w4, hf_w4, hz_w4⟩ := kept hb4; (try have hzw0_w4 : w.heap.size < w4.heap.size := (by have := hz_w4; first | omega | (simp at this; omega))); (try have hzw10_w4 : w1.heap.size < w4.heap.size := (by have := hz_w4; first | omega | (simp at this; omega))); (try have hzw11_w4 : w1.heap.size + 1 < w4.heap.size := (by have := hz_w4; first | omega | (simp at this; omega)))
    have hz4 := hb4.size
    go_wp2_with fail
    go_ret
    exact ⟨by first | rfl | (simp; done), by (repeat' (first | (with_reducible exact Below.refl _ _) | (with_reducible assumption) | (with_reducible refine Below.alloc ?_ ?_ _) | (with_reducible refine Below.drew ?_) | (with_reducible refine Below_drewN ?_ _) | (with_reducible refine Below.setCell ?_ ?_ _) | (refine Below.step (B' := ?_) (b := ?_) ?_ ?_ ?_; rotate_left 2; (with_reducible assumption)) | go_size))⟩
  by_cases hc2 : a2 = 0
  · have hD0 := hz (.inr hc2)
    subst hD0
    subst hc2
    have hP0 : P = 0 := by rw [← hP]; simp
    subst hP0
    clear q1 q2 q3 hz hn hP hD
    have e1 : (a1 == 0) = false := by simpa using hc1
    have e2 : 0 < a1 := by omega
    clear hc1
    go_enter Try.func5, Try.ntmps5
    go_wp2_with fail
    with_reducible refine (awake3 _).mono ?_
    rintro e w1 ⟨rfl, hb1⟩
    obtain ⟨hc_w1, hf_w1, hz_w1⟩ := kept hb1; (try have hzw0_w1 : w.heap.size < w1.heap.size := (by have := hz_w1; first | omega | (simp at this; omega)))
    have hz1 := hb1.size
    simp only [World.size_alloc] at hz1
    have hx1 : w.heap.size < w1.heap.size + 1 + 1 := by omega
    have hx2 : w.heap.size < w1.heap.size + 2 := by omega
    go_wp2_with fail
    with_reducible refine (rcmp_n2 _ _ _ e2 _).mono ?_
    rintro e w2 ⟨rfl, hb2⟩
    obtain ⟨hc_w2, hf_w2, hz_w2⟩ := kept hb2; (try have hzw0_w2 : w.heap.size < w2.heap.size := (by have := hz_w2; first | omega | (simp at this; omega))); (try have hzw10_w2 : w1.heap.size < w2.heap.size := (by have := hz_w2; first | omega | (simp at this; omega))); (try have hzw11_w2 : w1.heap.size + 1 < w2.heap.size := (by have := hz_w2; first | omega | (simp at this; omega)))
    have hz2 := hb2.size
    go_wp2_with fail
    with_reducible refine (rcmp_c _ _ _ _ (by omega) (by omega) (by omega) (by omega) (by omega) (by omega) (by omega) (by omega) _).mono ?_
    rintro e w3 ⟨rfl, hb3⟩
    obtain ⟨hc_w3, hf_w3, hz_w3⟩ := kept hb3; (try have hzw0_w3 : w.heap.size < w3.heap.size := (by have := hz_w3; first | omega | (simp at this; omega))); (try have hzw10_w3 : w1.heap.size < w3.heap.size := (by have := hz_w3; first | omega | (simp at this; omega))); (try have hzw11_w3 : w1.heap.size + 1 < w3.heap.size := (by have := hz_w3; first | omega | (simp at this; omega)))
    have hz3 := hb3.size
    go_wp2_with fail
    with_reducible refine (rcmp_n1 _ _ _ _).mono ?_
    rintro e w4 ⟨rfl, hb4⟩
    obtain ⟨hc_w4, hf_w4, hz_w4⟩ := kept hb4; (try have hzw0_w4 : w.heap.size < w4.heap.size := (by have := hz_w4; first | omega | (simp at this; omega))); (try have hzw10_w4 : w1.heap.size < w4.heap.size := (by have := hz_w4; first | omega | (simp at this; omega))); (try have hzw11_w4 : w1.heap.size + 1 < w4.heap.size := (by have := hz_w4; first | omega | (simp at this; omega)))
    have hz4 := hb4.size
    go_wp2_with fail
    go_ret
    exact ⟨by first | rfl | (simp; done), by (repeat' (first | (with_reducible exact Below.refl _ _) | (with_reducible assumption) | (with_reducible refine Below.alloc ?_ ?_ _) | (with_reducible refine Below.drew ?_) | (with_reducible refine Below_drewN ?_ _) | (with_reducible refine Below.setCell ?_ ?_ _) | (refine Below.step (B' := ?_) (b := ?_) ?_ ?_ ?_; rotate_left 2; (with_reducible assumption)) | go_size))⟩
  · have hc : ¬ (a1 = 0 ∨ a2 = 0) := by omega
    have n1 : a1 ≠ 0 := by omega
    have n2 : a2 ≠ 0 := by omega
    have HE1 := Lib.hid (show rcE a1 D = 0 by have := hn n1 n2; unfold rcE; rw [if_neg (by omega)])
    have HE2 := Lib.hid (q1 n1 n2)
    have HE3 := Lib.hid (q2 n1 n2)
    have HE4 := Lib.hid (q3 n1 n2)
    have c1 : (a1 == 0) = false := by simpa using n1
    have c2 : (a2 == 0) = false := by simpa using n2
    clear q1 q2 q3 hz hn hc n1 n2
    go_enter Try.func5, Try.ntmps5
    go_wp2_with fail
    with_reducible refine (awake3 _).mono ?_
    rintro e w1 ⟨rfl, hb1⟩
    obtain ⟨hc_w1, hf_w1, hz_w1⟩ := kept hb1; (try have hzw0_w1 : w.heap.size < w1.heap.size := (by have := hz_w1; first | omega | (simp at this; omega)))
    have hz1 := hb1.size
    simp only [World.size_alloc] at hz1
    have hx1 : w.heap.size < w1.heap.size + 1 + 1 := by omega
    have hx2 : w.heap.size < w1.heap.size + 2 := by omega
    go_wp2_with fail
    with_reducible refine (rcmp_t _ _ _ _ _ _ HE2.out HE1.out (by omega) (by omega) (by omega) (by omega) (by omega) (by omega) (by omega) (by omega) _).mono ?_
    rintro e w2 ⟨rfl, hb2⟩
    obtain ⟨hc_w2, hf_w2, hz_w2⟩ := kept hb2; (try have hzw0_w2 : w.heap.size < w2.heap.size := (by have := hz_w2; first | omega | (simp at this; omega))); (try have hzw10_w2 : w1.heap.size < w2.heap.size := (by have := hz_w2; first | omega | (simp at this; omega))); (try have hzw11_w2 : w1.heap.size + 1 < w2.heap.size := (by have := hz_w2; first | omega | (simp at this; omega)))
    have hz2 := hb2.size
    go_wp2_with fail
    with_reducible refine (rcmp_c _ _ _ _ (by omega) (by omega) (by omega) (by omega) (by omega) (by omega) (by omega) (by omega) _).mono ?_
    rintro e w3 ⟨rfl, hb3⟩
    obtain ⟨hc_w3, hf_w3, hz_w3⟩ := kept hb3; (try have hzw0_w3 : w.heap.size < w3.heap.size := (by have := hz_w3; first | omega | (simp at this; omega))); (try have hzw10_w3 : w1.heap.size < w3.heap.size := (by have := hz_w3; first | omega | (simp at this; omega))); (try have hzw11_w3 : w1.heap.size + 1 < w3.heap.size := (by have := hz_w3; first | omega | (simp at this; omega)))
    have hz3 := hb3.size
    go_wp2_with fail
    with_reducible refine (rcmp_t _ _ _ _ _ _ HE3.out HE4.out (by omega) (by omega) (by omega) (by omega) (by omega) (by omega) (by omega) (by omega) _).mono ?_
    rintro e w4 ⟨rfl, hb4⟩
    obtain ⟨hc_w4, hf_w4, hz_w4⟩ := kept hb4; (try have hzw0_w4 : w.heap.size < w4.heap.size := (by have := hz_w4; first | omega | (simp at this; omega))); (try have hzw10_w4 : w1.heap.size < w4.heap.size := (by have := hz_w4; first | omega | (simp at this; omega))); (try have hzw11_w4 : w1.heap.size + 1 < w4.heap.size := (by have := hz_w4; first | omega | (simp at this; omega)))
    have hz4 := hb4.size
    go_wp2_with fail
    go_ret
    exact ⟨by first | rfl | (simp; done), by (repeat' (first | (with_reducible exact Below.refl _ _) | (with_reducible assumption) | (with_reducible refine Below.alloc ?_ ?_ _) | (with_reducible refine Below.drew ?_) | (with_reducible refine Below_drewN ?_ _) | (with_reducible refine Below.setCell ?_ ?_ _) | (refine Below.step (B' := ?_) (b := ?_) ?_ ?_ ?_; rotate_left 2; (with_reducible assumption)) | go_size))⟩
end Go.Proofs.Try
