/- The walk of WideDivides. -/

import Derived.Test.YthjjogmcpkpekaaW2
import Derived.ProofKit
import Derived.OpenShut
namespace Go.Proofs.Try
open Go.RowKit
set_option linter.unusedVariables false

theorem div_math (xh xl d : Int) (h1 : 0 ≤ xh) (h2 : 0 ≤ xl) (h3 : 0 < d) (g1 : xh ≤ 18446744073709551615) (g2 : xl ≤ 18446744073709551615) (g3 : d ≤ 18446744073709551615) :
    (0 ≤ dHi xh d ∧ dHi xh d < 18446744073709551616 ∧ 0 ≤ dLo xh xl d ∧ dLo xh xl d < 18446744073709551616 ∧ 0 ≤ dRest xh xl d ∧ dRest xh xl d < d) ∧
    (0 ≤ dHi xh d * d ∧ dHi xh d * d < 18446744073709551616 ∧ 0 ≤ dLo xh xl d * d ∧ dLo xh xl d * d < 340282366920938463463374607431768211456) ∧
    dHi xh d * d / 18446744073709551616 = 0 ∧ dHi xh d * d % 18446744073709551616 = dHi xh d * d ∧
    aOv (dLo xh xl d * d / 18446744073709551616) (dLo xh xl d * d % 18446744073709551616) (dHi xh d * d) 0 = false ∧
    aHi (dLo xh xl d * d / 18446744073709551616) (dLo xh xl d * d % 18446744073709551616) (dHi xh d * d) 0 = dLo xh xl d * d / 18446744073709551616 + dHi xh d * d ∧
    aLo (dLo xh xl d * d % 18446744073709551616) 0 = dLo xh xl d * d % 18446744073709551616 ∧
    aHi (dLo xh xl d * d / 18446744073709551616 + dHi xh d * d) (dLo xh xl d * d % 18446744073709551616) 0 (dRest xh xl d) = xh ∧
    aLo (dLo xh xl d * d % 18446744073709551616) (dRest xh xl d) = xl ∧
    aOv (dLo xh xl d * d / 18446744073709551616 + dHi xh d * d) (dLo xh xl d * d % 18446744073709551616) 0 (dRest xh xl d) = false ∧ 0 ≤ dLo xh xl d * d / 18446744073709551616 + dHi xh d * d ∧ dLo xh xl d * d / 18446744073709551616 + dHi xh d * d < 18446744073709551616 := by
  have e1 := Int.mul_ediv_add_emod xh d
  have r0 := Int.emod_nonneg xh (show d ≠ 0 by omega)
  have r1 := Int.emod_lt_of_pos xh h3
  have e2 := Int.mul_ediv_add_emod (xh % d * 18446744073709551616 + xl) d
  have s0 := Int.emod_nonneg (xh % d * 18446744073709551616 + xl) (show d ≠ 0 by omega)
  have s1 := Int.emod_lt_of_pos (xh % d * 18446744073709551616 + xl) h3
  have q0 : 0 ≤ xh / d := Int.ediv_nonneg h1 (by omega)
  have q1 : xh / d ≤ xh := Int.ediv_le_self _ h1
  have t0 : 0 ≤ (xh % d * 18446744073709551616 + xl) / d := Int.ediv_nonneg (by omega) (by omega)
  have t1 : (xh % d * 18446744073709551616 + xl) / d < 18446744073709551616 := dv_lt (xh % d) xl d 18446744073709551616 (by omega) (by omega) r1 h3
  have A0 : 0 ≤ xh / d * d := Int.mul_nonneg q0 (by omega)
  have B0 : 0 ≤ (xh % d * 18446744073709551616 + xl) / d * d := Int.mul_nonneg t0 (by omega)
  rw [Int.mul_comm] at e1 e2
  unfold dHi dLo dRest aHi aLo aOv
  rw [if_neg (by omega)]
  generalize xh / d * d = A at *
  generalize (xh % d * 18446744073709551616 + xl) / d * d = B at *
  generalize (xh % d * 18446744073709551616 + xl) % d = R at *
  generalize xh % d = r at *
  simp only [decide_eq_false_iff_not]
  refine ⟨⟨q0, by omega, t0, t1, s0, s1⟩, ⟨A0, by omega, B0, by omega⟩, by omega, by omega, by omega, by omega, by omega, by omega, by omega, by omega, by omega, by omega⟩

set_option maxRecDepth 100000 in
set_option maxHeartbeats 2000000 in
theorem walk_WideDivides (a0 b0 a1 : Int) (w0 : (Lit.int .u64 a0).wf = true) (z0 : (Lit.int .u64 b0).wf = true) (w1 : (Lit.int .u64 a1).wf = true) (w : World) :
    Calls Try.prog 10 #[.agg #[.int .u64 a0, .int .u64 b0], .int .u64 a1] w fun e w' => e = .returned (.bool true) ∧ Below w.heap.size w w' := by
  obtain ⟨h0, h0'⟩ := bounds_u64 w0
  obtain ⟨g0, g0'⟩ := bounds_u64 z0
  obtain ⟨h1, h1'⟩ := bounds_u64 w1
  clear w0 z0 w1
  by_cases hd : a1 = 0
  · subst hd
    have e1 : dHi a0 0 = 0 := by simp [dHi]
    have e2 : dLo a0 b0 0 = 0 := by simp [dLo]
    have e3 : dRest a0 b0 0 = 0 := by simp [dRest]
    have e4 : dE 0 = 20 := by simp [dE]
    go_enter Try.func10, Try.ntmps10
    go_wp2_with fail
    refine (awake2 _).mono ?_
    rintro e w1 ⟨rfl, hb1⟩
    obtain ⟨hc_w1, hf_w1, hz_w1⟩ := kept hb1; (try simp only [World.size_drew] at hc_w1 hf_w1 hz_w1); (try have hzw0_w1 : w.heap.size < w1.heap.size := (by have := hz_w1; first | omega | (simp at this; omega))); (try have hyw0_w1 := Nat.le_of_lt hzw0_w1)
    go_wp2_with fail
    refine (wdiv_c _ _ _ (by omega) (by omega) (by omega) (by omega) (by omega) (by omega) _).mono ?_
    rintro e w2 ⟨rfl, hb2⟩
    obtain ⟨hc_w2, hf_w2, hz_w2⟩ := kept hb2; (try simp only [World.size_drew] at hc_w2 hf_w2 hz_w2); (try have hzw0_w2 : w.heap.size < w2.heap.size := (by have := hz_w2; first | omega | (simp at this; omega))); (try have hyw0_w2 := Nat.le_of_lt hzw0_w2)
    go_wp2_with fail
    go_ret
    exact ⟨rfl, by (repeat' (first | (with_reducible exact Below.refl _ _) | (with_reducible assumption) | (with_reducible refine Below.alloc ?_ ?_ _) | (with_reducible refine Below.drew ?_) | (with_reducible refine Below_drewN ?_ _) | (with_reducible refine Below.setCell ?_ ?_ _) | (refine Below.step (B' := ?_) (b := ?_) ?_ ?_ ?_; rotate_left 2; (with_reducible assumption)) | go_size))⟩
  · obtain ⟨⟨i1, i2, i3, i4, i5, i6⟩, ⟨j1, j2, j3, j4⟩, m1, m2, m3, m4, m5, m6, m7, m8, m9, m10⟩ := div_math a0 b0 a1 h0 g0 (by omega) h0' g0' h1'
    have hd1 : 1 ≤ a1 := by omega
    have e0 : (a1 == 0) = false := by simp; omega
    have e4 : dE a1 = 0 := by rw [dE, if_neg hd]
    obtain ⟨B, EB⟩ : ∃ B, dLo a0 b0 a1 * a1 = B := ⟨_, rfl⟩
    obtain ⟨A, EA⟩ : ∃ A, dHi a0 a1 * a1 = A := ⟨_, rfl⟩
    rw [EB] at j3 j4 m3 m4 m5 m6 m7 m8 m9 m10
    rw [EA] at j1 j2 m1 m2 m3 m4 m6 m8 m9 m10
    go_enter Try.func10, Try.ntmps10
    go_wp2_with fail
    refine (awake2 _).mono ?_
    rintro e w1 ⟨rfl, hb1⟩
    obtain ⟨hc_w1, hf_w1, hz_w1⟩ := kept hb1; (try simp only [World.size_drew] at hc_w1 hf_w1 hz_w1); (try have hzw0_w1 : w.heap.size < w1.heap.size := (by have := hz_w1; first | omega | (simp at this; omega))); (try have hyw0_w1 := Nat.le_of_lt hzw0_w1)
    go_wp2_with fail
    refine (wdiv_c _ _ _ (by omega) (by omega) (by omega) (by omega) (by omega) (by omega) _).mono ?_
    rintro e w2 ⟨rfl, hb2⟩
    obtain ⟨hc_w2, hf_w2, hz_w2⟩ := kept hb2; (try simp only [World.size_drew] at hc_w2 hf_w2 hz_w2); (try have hzw0_w2 : w.heap.size < w2.heap.size := (by have := hz_w2; first | omega | (simp at this; omega))); (try have hyw0_w2 := Nat.le_of_lt hzw0_w2)
    go_wp2_with fail
    refine (wmul_c _ _ (by omega) (by omega) (by omega) (by omega) _).mono ?_
    rintro e w3 ⟨rfl, hb3⟩
    obtain ⟨hc_w3, hf_w3, hz_w3⟩ := kept hb3; (try simp only [World.size_drew] at hc_w3 hf_w3 hz_w3); (try have hzw0_w3 : w.heap.size < w3.heap.size := (by have := hz_w3; first | omega | (simp at this; omega))); (try have hyw0_w3 := Nat.le_of_lt hzw0_w3); (try have hzw20_w3 : w2.heap.size < w3.heap.size := (by have := hz_w3; first | omega | (simp at this; omega))); (try have hyw20_w3 := Nat.le_of_lt hzw20_w3)
    go_wp2_with fail
    refine (wmul_c _ _ (by omega) (by omega) (by omega) (by omega) _).mono ?_
    rintro e w4 ⟨rfl, hb4⟩
    obtain ⟨hc_w4, hf_w4, hz_w4⟩ := kept hb4; (try simp only [World.size_drew] at hc_w4 hf_w4 hz_w4); (try have hzw0_w4 : w.heap.size < w4.heap.size := (by have := hz_w4; first | omega | (simp at this; omega))); (try have hyw0_w4 := Nat.le_of_lt hzw0_w4); (try have hzw20_w4 : w2.heap.size < w4.heap.size := (by have := hz_w4; first | omega | (simp at this; omega))); (try have hyw20_w4 := Nat.le_of_lt hzw20_w4); (try have hzw30_w4 : w3.heap.size < w4.heap.size := (by have := hz_w4; first | omega | (simp at this; omega))); (try have hyw30_w4 := Nat.le_of_lt hzw30_w4)
    go_wp2_with fail
    refine (wadd_c _ _ _ _ (by omega) (by omega) (by omega) (by omega) (by omega) (by omega) (by omega) (by omega) _).mono ?_
    rintro e w5 ⟨rfl, hb5⟩
    obtain ⟨hc_w5, hf_w5, hz_w5⟩ := kept hb5; (try simp only [World.size_drew] at hc_w5 hf_w5 hz_w5); (try have hzw0_w5 : w.heap.size < w5.heap.size := (by have := hz_w5; first | omega | (simp at this; omega))); (try have hyw0_w5 := Nat.le_of_lt hzw0_w5); (try have hzw20_w5 : w2.heap.size < w5.heap.size := (by have := hz_w5; first | omega | (simp at this; omega))); (try have hyw20_w5 := Nat.le_of_lt hzw20_w5); (try have hzw30_w5 : w3.heap.size < w5.heap.size := (by have := hz_w5; first | omega | (simp at this; omega))); (try have hyw30_w5 := Nat.le_of_lt hzw30_w5); (try have hzw40_w5 : w4.heap.size < w5.heap.size := (by have := hz_w5; first | omega | (simp at this; omega))); (try have hyw40_w5 := Nat.le_of_lt hzw40_w5)
    go_upto_region 8 with fail
    have HC_A : Hid (∀ W W' : World, Below W.heap.size W W' → (W.cell? ⟨w.heap.size, 0, none⟩ = some (.int .u64 a0) ∧ W.cell? ⟨w.heap.size, 1, none⟩ = some (.int .u64 b0) ∧ W.cell? ⟨w4.heap.size, 0, none⟩ = some (.int .u64 0) ∧ W.cell? ⟨w4.heap.size, 1, none⟩ = some (.int .u64 A) ∧ w.heap.size < W.heap.size ∧ w4.heap.size < W.heap.size ∧ Below w.heap.size w W) → (W'.cell? ⟨w.heap.size, 0, none⟩ = some (.int .u64 a0) ∧ W'.cell? ⟨w.heap.size, 1, none⟩ = some (.int .u64 b0) ∧ W'.cell? ⟨w4.heap.size, 0, none⟩ = some (.int .u64 0) ∧ W'.cell? ⟨w4.heap.size, 1, none⟩ = some (.int .u64 A) ∧ w.heap.size < W'.heap.size ∧ w4.heap.size < W'.heap.size ∧ Below w.heap.size w W')) := fun W W' hb ⟨c0, c1, c2, c3, l0, l1, h⟩ => ⟨(hb.cell (p := ⟨w.heap.size, 0, none⟩) l0).trans c0, (hb.cell (p := ⟨w.heap.size, 1, none⟩) l0).trans c1, (hb.cell (p := ⟨w4.heap.size, 0, none⟩) l1).trans c2, (hb.cell (p := ⟨w4.heap.size, 1, none⟩) l1).trans c3, Nat.lt_of_lt_of_le l0 hb.size, Nat.lt_of_lt_of_le l1 hb.size, h.trans (hb.mono h.size)⟩
    have HA_A : Hid (∀ (W : World) (o : Obj), (W.cell? ⟨w.heap.size, 0, none⟩ = some (.int .u64 a0) ∧ W.cell? ⟨w.heap.size, 1, none⟩ = some (.int .u64 b0) ∧ W.cell? ⟨w4.heap.size, 0, none⟩ = some (.int .u64 0) ∧ W.cell? ⟨w4.heap.size, 1, none⟩ = some (.int .u64 A) ∧ w.heap.size < W.heap.size ∧ w4.heap.size < W.heap.size ∧ Below w.heap.size w W) → ((W.alloc o).cell? ⟨w.heap.size, 0, none⟩ = some (.int .u64 a0) ∧ (W.alloc o).cell? ⟨w.heap.size, 1, none⟩ = some (.int .u64 b0) ∧ (W.alloc o).cell? ⟨w4.heap.size, 0, none⟩ = some (.int .u64 0) ∧ (W.alloc o).cell? ⟨w4.heap.size, 1, none⟩ = some (.int .u64 A) ∧ w.heap.size < (W.alloc o).heap.size ∧ w4.heap.size < (W.alloc o).heap.size ∧ Below w.heap.size w (W.alloc o))) := fun W o => HC_A.out W (W.alloc o) ((Below.refl _ _).alloc (Nat.le_refl _) _)
    have HD_A : Hid (∀ (W : World), (W.cell? ⟨w.heap.size, 0, none⟩ = some (.int .u64 a0) ∧ W.cell? ⟨w.heap.size, 1, none⟩ = some (.int .u64 b0) ∧ W.cell? ⟨w4.heap.size, 0, none⟩ = some (.int .u64 0) ∧ W.cell? ⟨w4.heap.size, 1, none⟩ = some (.int .u64 A) ∧ w.heap.size < W.heap.size ∧ w4.heap.size < W.heap.size ∧ Below w.heap.size w W) → (W.drew.cell? ⟨w.heap.size, 0, none⟩ = some (.int .u64 a0) ∧ W.drew.cell? ⟨w.heap.size, 1, none⟩ = some (.int .u64 b0) ∧ W.drew.cell? ⟨w4.heap.size, 0, none⟩ = some (.int .u64 0) ∧ W.drew.cell? ⟨w4.heap.size, 1, none⟩ = some (.int .u64 A) ∧ w.heap.size < W.drew.heap.size ∧ w4.heap.size < W.drew.heap.size ∧ Below w.heap.size w W.drew)) := fun W => HC_A.out W W.drew (Below.refl _ _).drew
    have HR_A : Hid (∀ (W : World) (o o' : Obj), (w.heap.size < W.heap.size ∧ w4.heap.size < W.heap.size) → ((W.alloc o).cell? ⟨w.heap.size, 0, none⟩ = some (.int .u64 a0) ∧ (W.alloc o).cell? ⟨w.heap.size, 1, none⟩ = some (.int .u64 b0) ∧ (W.alloc o).cell? ⟨w4.heap.size, 0, none⟩ = some (.int .u64 0) ∧ (W.alloc o).cell? ⟨w4.heap.size, 1, none⟩ = some (.int .u64 A) ∧ w.heap.size < (W.alloc o).heap.size ∧ w4.heap.size < (W.alloc o).heap.size ∧ Below w.heap.size w (W.alloc o)) → ((W.alloc o').cell? ⟨w.heap.size, 0, none⟩ = some (.int .u64 a0) ∧ (W.alloc o').cell? ⟨w.heap.size, 1, none⟩ = some (.int .u64 b0) ∧ (W.alloc o').cell? ⟨w4.heap.size, 0, none⟩ = some (.int .u64 0) ∧ (W.alloc o').cell? ⟨w4.heap.size, 1, none⟩ = some (.int .u64 A) ∧ w.heap.size < (W.alloc o').heap.size ∧ w4.heap.size < (W.alloc o').heap.size ∧ Below w.heap.size w (W.alloc o'))) := fun W o o' ⟨m0, m1⟩ ⟨c0, c1, c2, c3, l0, l1, h⟩ => ⟨(World.cell?_alloc_past _ _ _ m0).trans ((World.cell?_alloc_past _ _ _ m0).symm.trans c0), (World.cell?_alloc_past _ _ _ m0).trans ((World.cell?_alloc_past _ _ _ m0).symm.trans c1), (World.cell?_alloc_past _ _ _ m1).trans ((World.cell?_alloc_past _ _ _ m1).symm.trans c2), (World.cell?_alloc_past _ _ _ m1).trans ((World.cell?_alloc_past _ _ _ m1).symm.trans c3), (by have := m0; simp; omega), (by have := m1; simp; omega), Below.realloc h (by have := h.size; simp at this; omega)⟩
    have HC_C : Hid (∀ W W' : World, Below W.heap.size W W' → (W.cell? ⟨w.heap.size, 0, none⟩ = some (.int .u64 a0) ∧ W.cell? ⟨w.heap.size, 1, none⟩ = some (.int .u64 b0) ∧ W.cell? ⟨w4.heap.size, 0, none⟩ = some (.int .u64 0) ∧ W.cell? ⟨w4.heap.size, 1, none⟩ = some (.int .u64 A) ∧ W.cell? ⟨w5.heap.size, 0, none⟩ = some (.int .u64 (B / 18446744073709551616 + A)) ∧ W.cell? ⟨w5.heap.size, 1, none⟩ = some (.int .u64 (B % 18446744073709551616)) ∧ w.heap.size < W.heap.size ∧ w4.heap.size < W.heap.size ∧ w5.heap.size < W.heap.size ∧ Below w.heap.size w W) → (W'.cell? ⟨w.heap.size, 0, none⟩ = some (.int .u64 a0) ∧ W'.cell? ⟨w.heap.size, 1, none⟩ = some (.int .u64 b0) ∧ W'.cell? ⟨w4.heap.size, 0, none⟩ = some (.int .u64 0) ∧ W'.cell? ⟨w4.heap.size, 1, none⟩ = some (.int .u64 A) ∧ W'.cell? ⟨w5.heap.size, 0, none⟩ = some (.int .u64 (B / 18446744073709551616 + A)) ∧ W'.cell? ⟨w5.heap.size, 1, none⟩ = some (.int .u64 (B % 18446744073709551616)) ∧ w.heap.size < W'.heap.size ∧ w4.heap.size < W'.heap.size ∧ w5.heap.size < W'.heap.size ∧ Below w.heap.size w W')) := fun W W' hb ⟨c0, c1, c2, c3, c4, c5, l0, l1, l2, h⟩ => ⟨(hb.cell (p := ⟨w.heap.size, 0, none⟩) l0).trans c0, (hb.cell (p := ⟨w.heap.size, 1, none⟩) l0).trans c1, (hb.cell (p := ⟨w4.heap.size, 0, none⟩) l1).trans c2, (hb.cell (p := ⟨w4.heap.size, 1, none⟩) l1).trans c3, (hb.cell (p := ⟨w5.heap.size, 0, none⟩) l2).trans c4, (hb.cell (p := ⟨w5.heap.size, 1, none⟩) l2).trans c5, Nat.lt_of_lt_of_le l0 hb.size, Nat.lt_of_lt_of_le l1 hb.size, Nat.lt_of_lt_of_le l2 hb.size, h.trans (hb.mono h.size)⟩
    have HA_C : Hid (∀ (W : World) (o : Obj), (W.cell? ⟨w.heap.size, 0, none⟩ = some (.int .u64 a0) ∧ W.cell? ⟨w.heap.size, 1, none⟩ = some (.int .u64 b0) ∧ W.cell? ⟨w4.heap.size, 0, none⟩ = some (.int .u64 0) ∧ W.cell? ⟨w4.heap.size, 1, none⟩ = some (.int .u64 A) ∧ W.cell? ⟨w5.heap.size, 0, none⟩ = some (.int .u64 (B / 18446744073709551616 + A)) ∧ W.cell? ⟨w5.heap.size, 1, none⟩ = some (.int .u64 (B % 18446744073709551616)) ∧ w.heap.size < W.heap.size ∧ w4.heap.size < W.heap.size ∧ w5.heap.size < W.heap.size ∧ Below w.heap.size w W) → ((W.alloc o).cell? ⟨w.heap.size, 0, none⟩ = some (.int .u64 a0) ∧ (W.alloc o).cell? ⟨w.heap.size, 1, none⟩ = some (.int .u64 b0) ∧ (W.alloc o).cell? ⟨w4.heap.size, 0, none⟩ = some (.int .u64 0) ∧ (W.alloc o).cell? ⟨w4.heap.size, 1, none⟩ = some (.int .u64 A) ∧ (W.alloc o).cell? ⟨w5.heap.size, 0, none⟩ = some (.int .u64 (B / 18446744073709551616 + A)) ∧ (W.alloc o).cell? ⟨w5.heap.size, 1, none⟩ = some (.int .u64 (B % 18446744073709551616)) ∧ w.heap.size < (W.alloc o).heap.size ∧ w4.heap.size < (W.alloc o).heap.size ∧ w5.heap.size < (W.alloc o).heap.size ∧ Below w.heap.size w (W.alloc o))) := fun W o => HC_C.out W (W.alloc o) ((Below.refl _ _).alloc (Nat.le_refl _) _)
    have HD_C : Hid (∀ (W : World), (W.cell? ⟨w.heap.size, 0, none⟩ = some (.int .u64 a0) ∧ W.cell? ⟨w.heap.size, 1, none⟩ = some (.int .u64 b0) ∧ W.cell? ⟨w4.heap.size, 0, none⟩ = some (.int .u64 0) ∧ W.cell? ⟨w4.heap.size, 1, none⟩ = some (.int .u64 A) ∧ W.cell? ⟨w5.heap.size, 0, none⟩ = some (.int .u64 (B / 18446744073709551616 + A)) ∧ W.cell? ⟨w5.heap.size, 1, none⟩ = some (.int .u64 (B % 18446744073709551616)) ∧ w.heap.size < W.heap.size ∧ w4.heap.size < W.heap.size ∧ w5.heap.size < W.heap.size ∧ Below w.heap.size w W) → (W.drew.cell? ⟨w.heap.size, 0, none⟩ = some (.int .u64 a0) ∧ W.drew.cell? ⟨w.heap.size, 1, none⟩ = some (.int .u64 b0) ∧ W.drew.cell? ⟨w4.heap.size, 0, none⟩ = some (.int .u64 0) ∧ W.drew.cell? ⟨w4.heap.size, 1, none⟩ = some (.int .u64 A) ∧ W.drew.cell? ⟨w5.heap.size, 0, none⟩ = some (.int .u64 (B / 18446744073709551616 + A)) ∧ W.drew.cell? ⟨w5.heap.size, 1, none⟩ = some (.int .u64 (B % 18446744073709551616)) ∧ w.heap.size < W.drew.heap.size ∧ w4.heap.size < W.drew.heap.size ∧ w5.heap.size < W.drew.heap.size ∧ Below w.heap.size w W.drew)) := fun W => HC_C.out W W.drew (Below.refl _ _).drew
    have HR_C : Hid (∀ (W : World) (o o' : Obj), (w.heap.size < W.heap.size ∧ w4.heap.size < W.heap.size ∧ w5.heap.size < W.heap.size) → ((W.alloc o).cell? ⟨w.heap.size, 0, none⟩ = some (.int .u64 a0) ∧ (W.alloc o).cell? ⟨w.heap.size, 1, none⟩ = some (.int .u64 b0) ∧ (W.alloc o).cell? ⟨w4.heap.size, 0, none⟩ = some (.int .u64 0) ∧ (W.alloc o).cell? ⟨w4.heap.size, 1, none⟩ = some (.int .u64 A) ∧ (W.alloc o).cell? ⟨w5.heap.size, 0, none⟩ = some (.int .u64 (B / 18446744073709551616 + A)) ∧ (W.alloc o).cell? ⟨w5.heap.size, 1, none⟩ = some (.int .u64 (B % 18446744073709551616)) ∧ w.heap.size < (W.alloc o).heap.size ∧ w4.heap.size < (W.alloc o).heap.size ∧ w5.heap.size < (W.alloc o).heap.size ∧ Below w.heap.size w (W.alloc o)) → ((W.alloc o').cell? ⟨w.heap.size, 0, none⟩ = some (.int .u64 a0) ∧ (W.alloc o').cell? ⟨w.heap.size, 1, none⟩ = some (.int .u64 b0) ∧ (W.alloc o').cell? ⟨w4.heap.size, 0, none⟩ = some (.int .u64 0) ∧ (W.alloc o').cell? ⟨w4.heap.size, 1, none⟩ = some (.int .u64 A) ∧ (W.alloc o').cell? ⟨w5.heap.size, 0, none⟩ = some (.int .u64 (B / 18446744073709551616 + A)) ∧ (W.alloc o').cell? ⟨w5.heap.size, 1, none⟩ = some (.int .u64 (B % 18446744073709551616)) ∧ w.heap.size < (W.alloc o').heap.size ∧ w4.heap.size < (W.alloc o').heap.size ∧ w5.heap.size < (W.alloc o').heap.size ∧ Below w.heap.size w (W.alloc o'))) := fun W o o' ⟨m0, m1, m2⟩ ⟨c0, c1, c2, c3, c4, c5, l0, l1, l2, h⟩ => ⟨(World.cell?_alloc_past _ _ _ m0).trans ((World.cell?_alloc_past _ _ _ m0).symm.trans c0), (World.cell?_alloc_past _ _ _ m0).trans ((World.cell?_alloc_past _ _ _ m0).symm.trans c1), (World.cell?_alloc_past _ _ _ m1).trans ((World.cell?_alloc_past _ _ _ m1).symm.trans c2), (World.cell?_alloc_past _ _ _ m1).trans ((World.cell?_alloc_past _ _ _ m1).symm.trans c3), (World.cell?_alloc_past _ _ _ m2).trans ((World.cell?_alloc_past _ _ _ m2).symm.trans c4), (World.cell?_alloc_past _ _ _ m2).trans ((World.cell?_alloc_past _ _ _ m2).symm.trans c5), (by have := m0; simp; omega), (by have := m1; simp; omega), (by have := m2; simp; omega), Below.realloc h (by have := h.size; simp at this; omega)⟩
    refine let_go (G := Code.wp _ _ _ _) (fun W => (W.cell? ⟨w.heap.size, 0, none⟩ = some (.int .u64 a0) ∧ W.cell? ⟨w.heap.size, 1, none⟩ = some (.int .u64 b0) ∧ W.cell? ⟨w4.heap.size, 0, none⟩ = some (.int .u64 0) ∧ W.cell? ⟨w4.heap.size, 1, none⟩ = some (.int .u64 A) ∧ W.cell? ⟨w5.heap.size, 0, none⟩ = some (.int .u64 (B / 18446744073709551616 + A)) ∧ W.cell? ⟨w5.heap.size, 1, none⟩ = some (.int .u64 (B % 18446744073709551616)) ∧ w.heap.size < W.heap.size ∧ w4.heap.size < W.heap.size ∧ w5.heap.size < W.heap.size ∧ Below w.heap.size w W)) ?_ ?_
    · (refine ⟨?_, ?_, ?_, ?_, ?_, ?_, ?_, ?_, ?_, ?_⟩ <;> first | (go_simp; done) | omega | (simp; done) | (simp; omega) | (repeat' (first | (with_reducible exact Below.refl _ _) | (with_reducible assumption) | (with_reducible refine Below.alloc ?_ ?_ _) | (with_reducible refine Below.drew ?_) | (with_reducible refine Below_drewN ?_ _) | (with_reducible refine Below.setCell ?_ ?_ _) | (refine Below.step (B' := ?_) (b := ?_) ?_ ?_ ?_; rotate_left 2; (with_reducible assumption)) | go_size)))
    intro W1 ⟨c0, c1, c2, c3, c4, c5, l0, l1, l2, hbW⟩
    clear hc_w1 hf_w1 hz_w1 hc_w2 hf_w2 hz_w2 hc_w3 hf_w3 hz_w3 hc_w4 hf_w4 hz_w4 hc_w5 hf_w5 hz_w5 hb1 hb2 hb3 hb4 hb5 HC_A HA_A HD_A HR_A HC_C HA_C HD_C HR_C
    have l0' := Nat.le_of_lt l0
    have l1' := Nat.le_of_lt l1
    have l2' := Nat.le_of_lt l2
    go_cut [13, 14] (fun s13 s14 wx => ∃ g : Nat, s13 = .pointer (some ⟨g, 0, none⟩) ∧ s14 = .bool false ∧ wx.cell? ⟨g, 0, none⟩ = some (.int .u64 a0) ∧ wx.cell? ⟨g, 1, none⟩ = some (.int .u64 b0) ∧ (wx.cell? ⟨w.heap.size, 0, none⟩ = some (.int .u64 a0) ∧ wx.cell? ⟨w.heap.size, 1, none⟩ = some (.int .u64 b0) ∧ wx.cell? ⟨w4.heap.size, 0, none⟩ = some (.int .u64 0) ∧ wx.cell? ⟨w4.heap.size, 1, none⟩ = some (.int .u64 A) ∧ w.heap.size < wx.heap.size ∧ w4.heap.size < wx.heap.size ∧ Below w.heap.size w wx))
    case first =>
      go_region_with (first
        | (go_at_call 46; refine (wof_c _ _).mono ?_; rintro e w6 ⟨rfl, hb6⟩; obtain ⟨hc_w6, hf_w6, hz_w6⟩ := kept hb6; (try simp only [World.size_drew] at hc_w6 hf_w6 hz_w6); (try have hzw0_w6 : w.heap.size < w6.heap.size := (by have := hz_w6; first | omega | (simp at this; omega))); (try have hyw0_w6 := Nat.le_of_lt hzw0_w6); (try have hzw40_w6 : w4.heap.size < w6.heap.size := (by have := hz_w6; first | omega | (simp at this; omega))); (try have hyw40_w6 := Nat.le_of_lt hzw40_w6); (try have hzw50_w6 : w5.heap.size < w6.heap.size := (by have := hz_w6; first | omega | (simp at this; omega))); (try have hyw50_w6 := Nat.le_of_lt hzw50_w6); (try have hzW10_w6 : W1.heap.size < w6.heap.size := (by have := hz_w6; first | omega | (simp at this; omega))); (try have hyW10_w6 := Nat.le_of_lt hzW10_w6))
        | (go_at_call 34; refine (wadd_c _ _ _ _ (by omega) (by omega) (by omega) (by omega) (by omega) (by omega) (by omega) (by omega) _).mono ?_; rintro e w7 ⟨rfl, hb7⟩; obtain ⟨hc_w7, hf_w7, hz_w7⟩ := kept hb7; (try simp only [World.size_drew] at hc_w7 hf_w7 hz_w7); (try have hzw0_w7 : w.heap.size < w7.heap.size := (by have := hz_w7; first | omega | (simp at this; omega))); (try have hyw0_w7 := Nat.le_of_lt hzw0_w7); (try have hzw40_w7 : w4.heap.size < w7.heap.size := (by have := hz_w7; first | omega | (simp at this; omega))); (try have hyw40_w7 := Nat.le_of_lt hzw40_w7); (try have hzw50_w7 : w5.heap.size < w7.heap.size := (by have := hz_w7; first | omega | (simp at this; omega))); (try have hyw50_w7 := Nat.le_of_lt hzw50_w7); (try have hzW10_w7 : W1.heap.size < w7.heap.size := (by have := hz_w7; first | omega | (simp at this; omega))); (try have hyW10_w7 := Nat.le_of_lt hzW10_w7); (try have hzw60_w7 : w6.heap.size < w7.heap.size := (by have := hz_w7; first | omega | (simp at this; omega))); (try have hyw60_w7 := Nat.le_of_lt hzw60_w7)))
      all_goals
        go_wp2_with fail
        go_meet
        refine ⟨_, rfl, rfl, ?_, ?_, ?_, ?_, ?_, ?_, ?_, ?_, ?_⟩ <;> first | (go_simp; done) | omega | (simp; done) | (simp; omega) | (repeat' (first | (with_reducible exact Below.refl _ _) | (with_reducible assumption) | (with_reducible refine Below.alloc ?_ ?_ _) | (with_reducible refine Below.drew ?_) | (with_reducible refine Below_drewN ?_ _) | (with_reducible refine Below.setCell ?_ ?_ _) | (refine Below.step (B' := ?_) (b := ?_) ?_ ?_ ?_; rotate_left 2; (with_reducible assumption)) | go_size))
    case rest =>
      obtain ⟨g, rfl, rfl, d0, d1, e0, e1, e2, e3, k0, k1, hb9⟩ := hcut
      go_wp2_with fail
      go_ret
      exact ⟨rfl, hb9⟩
end Go.Proofs.Try
