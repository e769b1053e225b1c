/- The walk of WideShifts. -/
import Derived.Test.YthjjogmcpkpekaaW2
import Derived.ProofKit
import Derived.OpenShut
namespace Go.Proofs.Try
open Go.RowKit
set_option linter.unusedVariables false

theorem sh_in (xh xl n : Int) (h1 : 0 ≤ xh) (h2 : 0 ≤ xl) (g1 : xh ≤ 18446744073709551615) (g2 : xl ≤ 18446744073709551615) : 0 ≤ shHi xh xl n ∧ shHi xh xl n < 18446744073709551616 ∧ 0 ≤ shLo xh xl n ∧ shLo xh xl n < 18446744073709551616 ∧ shHi xh xl n * 18446744073709551616 + shLo xh xl n = wN xh xl n := by
  have p := pow_pos' n.toNat
  have a : 0 ≤ wN xh xl n := Int.ediv_nonneg (by omega) (by omega)
  have b : wN xh xl n ≤ xh * 18446744073709551616 + xl := Int.ediv_le_self _ (by omega)
  unfold shHi shLo; omega
theorem sh_sh (xh xl k m : Int) (h1 : 0 ≤ xh) (h2 : 0 ≤ xl) (g1 : xh ≤ 18446744073709551615) (g2 : xl ≤ 18446744073709551615) (hk : 0 ≤ k) (hm : 0 ≤ m) : shHi (shHi xh xl k) (shLo xh xl k) m = shHi xh xl (k + m) ∧ shLo (shHi xh xl k) (shLo xh xl k) m = shLo xh xl (k + m) := by
  obtain ⟨_, _, _, _, e⟩ := sh_in xh xl k h1 h2 g1 g2
  have f : wN (shHi xh xl k) (shLo xh xl k) m = wN xh xl (k + m) := by
    rw [wN_add xh xl k m hk hm, ← e]; rfl
  constructor
  · show wN (shHi xh xl k) (shLo xh xl k) m / _ = _
    rw [f]; rfl
  · show wN (shHi xh xl k) (shLo xh xl k) m % _ = _
    rw [f]; rfl
theorem sh_half (xh xl k : Int) (h1 : 0 ≤ xh) (h2 : 0 ≤ xl) (g1 : xh ≤ 18446744073709551615) (g2 : xl ≤ 18446744073709551615) (hk : 0 ≤ k) : dHi (shHi xh xl k) 2 = shHi xh xl (k + 1) ∧ dLo (shHi xh xl k) (shLo xh xl k) 2 = shLo xh xl (k + 1) := by
  obtain ⟨a, b, c, d, e⟩ := sh_in xh xl k h1 h2 g1 g2
  have f : wN xh xl (k + 1) = wN xh xl k / 2 := by rw [wN_add xh xl k 1 hk (by omega)]; rfl
  unfold dHi dLo
  constructor
  · show _ = wN xh xl (k + 1) / _
    rw [f, ← e]; omega
  · show _ = wN xh xl (k + 1) % _
    rw [f, ← e]; omega
theorem sh_zero (xh xl : Int) (h2 : 0 ≤ xl) (g2 : xl ≤ 18446744073709551615) : shHi xh xl 0 = xh ∧ shLo xh xl 0 = xl := by
  unfold shHi shLo; rw [wN_zero]; omega

set_option maxRecDepth 100000 in
set_option maxHeartbeats 4000000 in
theorem walk_WideShifts (a0 b0 a1 a2 : Int) (w0 : (Lit.int .u64 a0).wf = true) (z0 : (Lit.int .u64 b0).wf = true) (w1 : (Lit.int .u8 a1).wf = true) (w2 : (Lit.int .u8 a2).wf = true) (w : World) :
    Calls Try.prog 13 #[.agg #[.int .u64 a0, .int .u64 b0], .int .u8 a1, .int .u8 a2] w fun e w' => e = .returned (.bool true) ∧ Below w.heap.size w w' := by
  obtain ⟨h0, h0'⟩ := bounds_u64 w0
  obtain ⟨g0, g0'⟩ := bounds_u64 z0
  obtain ⟨h1, h1'⟩ := bounds_u8 w1
  obtain ⟨h2, h2'⟩ := bounds_u8 w2
  clear w0 z0 w1 w2
  obtain ⟨i1, i2, i3, i4, i5⟩ := sh_in a0 b0 a1 h0 g0 h0' g0'
  obtain ⟨m1, m2⟩ := sh_sh a0 b0 a1 a2 h0 g0 h0' g0' h1 h2
  obtain ⟨m3, m4⟩ := sh_half a0 b0 a1 h0 g0 h0' g0' h1
  obtain ⟨m5, m6⟩ := sh_zero a0 b0 g0 g0'
  have m7 : dE 2 = 0 := by decide +kernel
  have W3 : IntKind.u64.wrap (a1 + a2) = a1 + a2 := by rw [IntKind.wrap_u64]; omega
  have W4 : IntKind.u64.wrap (a1 + 1) = a1 + 1 := by rw [IntKind.wrap_u64]; omega
  have W5 : IntKind.u64.wrap a2 = a2 := by rw [IntKind.wrap_u64]; omega
  have W6 : IntKind.u64.wrap a1 = a1 := by rw [IntKind.wrap_u64]; omega
  clear i5
  go_enter Try.func13, Try.ntmps13
  go_wp2_with fail
  refine (awake2 _).mono ?_
  rintro e w1 ⟨rfl, hb1⟩
  obtain ⟨hc_w1, hf_w1, hz_w1⟩ := kept hb1; (try have hzw0_w1 : w.heap.size < w1.heap.size := (by have := hz_w1; first | omega | (simp at this; omega)))
  go_wp2_with fail
  refine (wshr_c _ _ _ (by omega) (by omega) (by omega) (by omega) (by omega) (by omega) _).mono ?_
  rintro e w2 ⟨rfl, hb2⟩
  obtain ⟨hc_w2, hf_w2, hz_w2⟩ := kept hb2; (try have hzw0_w2 : w.heap.size < w2.heap.size := (by have := hz_w2; first | omega | (simp at this; omega)))
  go_wp2_with fail
  refine (wdiv_c _ _ _ (by omega) (by omega) (by omega) (by omega) (by omega) (by omega) _).mono ?_
  rintro e w3 ⟨rfl, hb3⟩
  obtain ⟨hc_w3, hf_w3, hz_w3⟩ := kept hb3; (try have hzw0_w3 : w.heap.size < w3.heap.size := (by have := hz_w3; first | omega | (simp at this; omega)))
  go_wp2_with fail
  have HC_B : Hid (∀ W W' : World, Below W.heap.size W W' → (W.cell? ⟨w.heap.size, 0, none⟩ = some (.int .u64 a0) ∧ W.cell? ⟨w.heap.size, 1, none⟩ = some (.int .u64 b0) ∧ W.cell? ⟨w3.heap.size, 0, none⟩ = some (.int .u64 (shHi a0 b0 (a1 + 1))) ∧ W.cell? ⟨w3.heap.size, 1, none⟩ = some (.int .u64 (shLo a0 b0 (a1 + 1))) ∧ w.heap.size < W.heap.size ∧ w3.heap.size < W.heap.size ∧ Below w.heap.size w W) → (W'.cell? ⟨w.heap.size, 0, none⟩ = some (.int .u64 a0) ∧ W'.cell? ⟨w.heap.size, 1, none⟩ = some (.int .u64 b0) ∧ W'.cell? ⟨w3.heap.size, 0, none⟩ = some (.int .u64 (shHi a0 b0 (a1 + 1))) ∧ W'.cell? ⟨w3.heap.size, 1, none⟩ = some (.int .u64 (shLo a0 b0 (a1 + 1))) ∧ w.heap.size < W'.heap.size ∧ w3.heap.size < W'.heap.size ∧ Below w.heap.size w W')) := fun W W' hb ⟨c0, c1, c2, c3, l0, l1, h⟩ => ⟨(hb.cell (p := ⟨w.heap.size, 0, none⟩) l0).trans c0, (hb.cell (p := ⟨w.heap.size, 1, none⟩) l0).trans c1, (hb.cell (p := ⟨w3.heap.size, 0, none⟩) l1).trans c2, (hb.cell (p := ⟨w3.heap.size, 1, none⟩) l1).trans c3, Nat.lt_of_lt_of_le l0 hb.size, Nat.lt_of_lt_of_le l1 hb.size, h.trans (hb.mono h.size)⟩
  have HA_B : Hid (∀ (W : World) (o : Obj), (W.cell? ⟨w.heap.size, 0, none⟩ = some (.int .u64 a0) ∧ W.cell? ⟨w.heap.size, 1, none⟩ = some (.int .u64 b0) ∧ W.cell? ⟨w3.heap.size, 0, none⟩ = some (.int .u64 (shHi a0 b0 (a1 + 1))) ∧ W.cell? ⟨w3.heap.size, 1, none⟩ = some (.int .u64 (shLo a0 b0 (a1 + 1))) ∧ w.heap.size < W.heap.size ∧ w3.heap.size < W.heap.size ∧ Below w.heap.size w W) → ((W.alloc o).cell? ⟨w.heap.size, 0, none⟩ = some (.int .u64 a0) ∧ (W.alloc o).cell? ⟨w.heap.size, 1, none⟩ = some (.int .u64 b0) ∧ (W.alloc o).cell? ⟨w3.heap.size, 0, none⟩ = some (.int .u64 (shHi a0 b0 (a1 + 1))) ∧ (W.alloc o).cell? ⟨w3.heap.size, 1, none⟩ = some (.int .u64 (shLo a0 b0 (a1 + 1))) ∧ w.heap.size < (W.alloc o).heap.size ∧ w3.heap.size < (W.alloc o).heap.size ∧ Below w.heap.size w (W.alloc o))) := fun W o => HC_B.out W (W.alloc o) ((Below.refl _ _).alloc (Nat.le_refl _) _)
  have HD_B : Hid (∀ (W : World), (W.cell? ⟨w.heap.size, 0, none⟩ = some (.int .u64 a0) ∧ W.cell? ⟨w.heap.size, 1, none⟩ = some (.int .u64 b0) ∧ W.cell? ⟨w3.heap.size, 0, none⟩ = some (.int .u64 (shHi a0 b0 (a1 + 1))) ∧ W.cell? ⟨w3.heap.size, 1, none⟩ = some (.int .u64 (shLo a0 b0 (a1 + 1))) ∧ w.heap.size < W.heap.size ∧ w3.heap.size < W.heap.size ∧ Below w.heap.size w W) → (W.drew.cell? ⟨w.heap.size, 0, none⟩ = some (.int .u64 a0) ∧ W.drew.cell? ⟨w.heap.size, 1, none⟩ = some (.int .u64 b0) ∧ W.drew.cell? ⟨w3.heap.size, 0, none⟩ = some (.int .u64 (shHi a0 b0 (a1 + 1))) ∧ W.drew.cell? ⟨w3.heap.size, 1, none⟩ = some (.int .u64 (shLo a0 b0 (a1 + 1))) ∧ w.heap.size < W.drew.heap.size ∧ w3.heap.size < W.drew.heap.size ∧ Below w.heap.size w W.drew)) := fun W => HC_B.out W W.drew (Below.refl _ _).drew
  have HR_B : Hid (∀ (W : World) (o o' : Obj), (w.heap.size < W.heap.size ∧ w3.heap.size < W.heap.size) → ((W.alloc o).cell? ⟨w.heap.size, 0, none⟩ = some (.int .u64 a0) ∧ (W.alloc o).cell? ⟨w.heap.size, 1, none⟩ = some (.int .u64 b0) ∧ (W.alloc o).cell? ⟨w3.heap.size, 0, none⟩ = some (.int .u64 (shHi a0 b0 (a1 + 1))) ∧ (W.alloc o).cell? ⟨w3.heap.size, 1, none⟩ = some (.int .u64 (shLo a0 b0 (a1 + 1))) ∧ w.heap.size < (W.alloc o).heap.size ∧ w3.heap.size < (W.alloc o).heap.size ∧ Below w.heap.size w (W.alloc o)) → ((W.alloc o').cell? ⟨w.heap.size, 0, none⟩ = some (.int .u64 a0) ∧ (W.alloc o').cell? ⟨w.heap.size, 1, none⟩ = some (.int .u64 b0) ∧ (W.alloc o').cell? ⟨w3.heap.size, 0, none⟩ = some (.int .u64 (shHi a0 b0 (a1 + 1))) ∧ (W.alloc o').cell? ⟨w3.heap.size, 1, none⟩ = some (.int .u64 (shLo a0 b0 (a1 + 1))) ∧ w.heap.size < (W.alloc o').heap.size ∧ w3.heap.size < (W.alloc o').heap.size ∧ Below w.heap.size w (W.alloc o'))) := fun W o o' ⟨m0, m1⟩ ⟨c0, c1, c2, c3, l0, l1, h⟩ => ⟨(World.cell?_alloc_past _ _ _ m0).trans ((World.cell?_alloc_past _ _ _ m0).symm.trans c0), (World.cell?_alloc_past _ _ _ m0).trans ((World.cell?_alloc_past _ _ _ m0).symm.trans c1), (World.cell?_alloc_past _ _ _ m1).trans ((World.cell?_alloc_past _ _ _ m1).symm.trans c2), (World.cell?_alloc_past _ _ _ m1).trans ((World.cell?_alloc_past _ _ _ m1).symm.trans c3), (by have := m0; simp; omega), (by have := m1; simp; omega), Below.realloc h (by have := h.size; simp at this; omega)⟩
  refine let_go (G := Code.wp _ _ _ _) (fun W => (W.cell? ⟨w.heap.size, 0, none⟩ = some (.int .u64 a0) ∧ W.cell? ⟨w.heap.size, 1, none⟩ = some (.int .u64 b0) ∧ W.cell? ⟨w3.heap.size, 0, none⟩ = some (.int .u64 (shHi a0 b0 (a1 + 1))) ∧ W.cell? ⟨w3.heap.size, 1, none⟩ = some (.int .u64 (shLo a0 b0 (a1 + 1))) ∧ w.heap.size < W.heap.size ∧ w3.heap.size < W.heap.size ∧ Below w.heap.size w W)) ?_ ?_
  · (refine ⟨?_, ?_, ?_, ?_, ?_, ?_, ?_⟩ <;> first | (go_simp; done) | omega | (simp; done) | (simp; omega) | (repeat' (first | (with_reducible exact Below.refl _ _) | (with_reducible assumption) | (with_reducible refine Below.alloc ?_ ?_ _) | (with_reducible refine Below.drew ?_) | (with_reducible refine Below_drewN ?_ _) | (with_reducible refine Below.setCell ?_ ?_ _) | (refine Below.step (B' := ?_) (b := ?_) ?_ ?_ ?_; rotate_left 2; (with_reducible assumption)) | go_size)))
  intro W1 hS
  clear hc_w1 hf_w1 hz_w1 hc_w2 hf_w2 hz_w2 hc_w3 hf_w3 hz_w3 hb1 hb2 hb3
  (try simp only [List.append_eq, List.cons_append, List.nil_append])
  go_region_held3 (fun W => (W.cell? ⟨w.heap.size, 0, none⟩ = some (.int .u64 a0) ∧ W.cell? ⟨w.heap.size, 1, none⟩ = some (.int .u64 b0) ∧ W.cell? ⟨w3.heap.size, 0, none⟩ = some (.int .u64 (shHi a0 b0 (a1 + 1))) ∧ W.cell? ⟨w3.heap.size, 1, none⟩ = some (.int .u64 (shLo a0 b0 (a1 + 1))) ∧ w.heap.size < W.heap.size ∧ w3.heap.size < W.heap.size ∧ Below w.heap.size w W)) ((first | (with_reducible refine HD_B.out _ ?_; (with_reducible assumption)) | (with_reducible refine HA_B.out _ _ ?_; (with_reducible assumption)) | (with_reducible refine HC_B.out ?_ _ ?_ ?_; rotate_left 1; (with_reducible assumption); (with_reducible assumption)) | (with_reducible refine HR_B.out _ ?_ _ ?_ ?_; rotate_left 2; (with_reducible assumption); (first | omega | (refine ⟨?_, ?_⟩ <;> omega) | (refine ⟨?_, ?_, ?_⟩ <;> omega) | (refine ⟨?_, ?_, ?_, ?_⟩ <;> omega)))))
    (first
      | (go_at_call 44; refine (wshr_c _ _ _ (by omega) (by omega) (by omega) (by omega) (by omega) (by omega) _).mono ?_; rintro e w1 ⟨rfl, hb⟩))
  go_wp2_with fail
  go_ret
  exact ⟨rfl, by go_keep⟩
end Go.Proofs.Try
