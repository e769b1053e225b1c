/- Contracts of linhayref02: Mul. -/
import Derived.Test.YtjcclobnpbgmcaaDoorRef2
namespace Go.Proofs.Tryd
open Go.RowKit
set_option linter.unusedVariables false

/-- A world is let go but for what is told of it. -/
theorem world_cut {G : World → Prop} {W : World} (F : World → Prop) (h : F W) (k : ∀ W', F W' → G W') : G W := k W h

/-- How the product stands: the result's block, the digits so far, and those of both factors. -/
structure MulAt (w : World) (x0 x1 y0 y1 o0 o1 o2 o3 : Int) (W : World) : Prop where
  below : Below w.heap.size w W
  size : w.heap.size + 1 + 1 + 1 < W.heap.size
  r0 : W.cell? ⟨w.heap.size, 0, none⟩ = some (.int .u64 0)
  r1 : W.cell? ⟨w.heap.size, 1, none⟩ = some (.int .u64 0)
  c0 : W.cell? ⟨w.heap.size + 1, 0, none⟩ = some (.int .u64 o0)
  c1 : W.cell? ⟨w.heap.size + 1, 1, none⟩ = some (.int .u64 o1)
  c2 : W.cell? ⟨w.heap.size + 1, 2, none⟩ = some (.int .u64 o2)
  c3 : W.cell? ⟨w.heap.size + 1, 3, none⟩ = some (.int .u64 o3)
  f0 : W.frozen? ⟨w.heap.size, 0, none⟩ = false
  f1 : W.frozen? ⟨w.heap.size, 1, none⟩ = false
  g1 : W.frozen? ⟨w.heap.size + 1, 1, none⟩ = false
  g2 : W.frozen? ⟨w.heap.size + 1, 2, none⟩ = false
  g3 : W.frozen? ⟨w.heap.size + 1, 3, none⟩ = false
  a0 : W.cell? ⟨w.heap.size + 1 + 1, 0, none⟩ = some (.int .u64 x0)
  a1 : W.cell? ⟨w.heap.size + 1 + 1, 1, none⟩ = some (.int .u64 x1)
  b0 : W.cell? ⟨w.heap.size + 1 + 1 + 1, 0, none⟩ = some (.int .u64 y0)
  b1 : W.cell? ⟨w.heap.size + 1 + 1 + 1, 1, none⟩ = some (.int .u64 y1)

theorem mul_end (a b x0 x1 y0 y1 p00 p01 p10 p11 : Int) (h : a * b = p11 * 18446744073709551616 + (p10 + p01) * 4294967296 + p00)
    (o0 o1 o2 : Int) (k0 : 0 ≤ o0) (k1 : 0 ≤ o1) (k2 : 0 ≤ o2) (l0 : o0 < 4294967296) (l1 : o1 < 4294967296) (l2 : o2 < 4294967296) (e : o2 * 18446744073709551616 + o1 * 4294967296 + o0 = p01 * 4294967296 + p00)
    (p10a : 0 ≤ p10) (p10b : p10 ≤ 18446744065119617025) (p11a : 0 ≤ p11) (p11b : p11 ≤ 18446744065119617025) :
    (p11 + o2 + (p10 + o1) / 4294967296) / 4294967296 * 4294967296 + (p11 + o2 + (p10 + o1) / 4294967296) % 4294967296 = a * b / 18446744073709551616 ∧
    (p10 + o1) % 4294967296 * 4294967296 + o0 = a * b % 18446744073709551616 := by
  rw [h]
  clear h
  constructor <;> omega

set_option maxHeartbeats 1000000 in
theorem rmul2_c (a b : Int) (ha : 0 ≤ a) (hb : 0 ≤ b) (ha' : a < 18446744073709551616) (hb' : b < 18446744073709551616) (w : World) :
    Calls Tryd.prog 67 #[.int .u64 a, .int .u64 b] w fun r w' => r = .returned (.agg #[.int .u64 (a * b / 18446744073709551616), .int .u64 (a * b % 18446744073709551616)]) ∧ Below w.heap.size w w' := by
  obtain ⟨x0, E0⟩ : ∃ x0, a % 4294967296 = x0 := ⟨_, rfl⟩
  obtain ⟨x1, E1⟩ : ∃ x1, a / 4294967296 = x1 := ⟨_, rfl⟩
  obtain ⟨y0, F0⟩ : ∃ y0, b % 4294967296 = y0 := ⟨_, rfl⟩
  obtain ⟨y1, F1⟩ : ∃ y1, b / 4294967296 = y1 := ⟨_, rfl⟩
  have x0a : 0 ≤ x0 ∧ x0 < 4294967296 := by omega
  have x1a : 0 ≤ x1 ∧ x1 < 4294967296 := by omega
  have y0a : 0 ≤ y0 ∧ y0 < 4294967296 := by omega
  have y1a : 0 ≤ y1 ∧ y1 < 4294967296 := by omega
  have hab : a * b = x1 * y1 * 18446744073709551616 + (x1 * y0 + x0 * y1) * 4294967296 + x0 * y0 := by
    have ea : a = x1 * 4294967296 + x0 := by omega
    have eb : b = y1 * 4294967296 + y0 := by omega
    have r : (x1 * 4294967296 + x0) * (y1 * 4294967296 + y0) = x1 * y1 * (4294967296 * 4294967296) + (x1 * y0 + x0 * y1) * 4294967296 + x0 * y0 := by
      generalize (4294967296 : Int) = B
      rw [Int.mul_add, Int.add_mul, Int.add_mul, Int.add_mul]
      have e1 : x1 * B * (y1 * B) = x1 * y1 * (B * B) := by rw [Int.mul_assoc, Int.mul_left_comm B y1, ← Int.mul_assoc]
      have e2 : x0 * (y1 * B) = x0 * y1 * B := by rw [Int.mul_assoc]
      have e3 : x1 * B * y0 = x1 * y0 * B := by rw [Int.mul_right_comm]
      rw [e1, e2, e3]; omega
    rw [ea, eb, r]
    generalize x1 * y1 = p
    generalize x1 * y0 = q
    generalize x0 * y1 = r
    generalize x0 * y0 = s
    omega
  obtain ⟨x0a, x0b⟩ := x0a
  obtain ⟨x1a, x1b⟩ := x1a
  obtain ⟨y0a, y0b⟩ := y0a
  obtain ⟨y1a, y1b⟩ := y1a
  have pr : ∀ p q : Int, 0 ≤ p → p < 4294967296 → 0 ≤ q → q < 4294967296 → 0 ≤ p * q ∧ p * q ≤ 18446744065119617025 := fun p q h1 h2 h3 h4 => by
    refine ⟨Int.mul_nonneg h1 h3, ?_⟩
    have a1 : p * q ≤ 4294967295 * q := Int.mul_le_mul_of_nonneg_right (by omega) h3
    omega
  obtain ⟨p1, p1'⟩ := pr x0 y0 x0a x0b y0a y0b
  obtain ⟨p2, p2'⟩ := pr x0 y1 x0a x0b y1a y1b
  obtain ⟨p3, p3'⟩ := pr x1 y0 x1a x1b y0a y0b
  obtain ⟨p4, p4'⟩ := pr x1 y1 x1a x1b y1a y1b
  clear pr
  have HAB := Lib.hid hab
  clear hab
  go_enter Tryd.func67, Tryd.ntmps67
  go_wp2_with fail
  refine wp_loop_rounds 3 ?_
  rw [rounds_succ]
  go_wp2_with fail
  refine wp_loop_rounds 3 ?_
  rw [rounds_succ]
  go_wp2_with fail
  go_quiet (fail)
  go_wp2_with fail
  rw [rounds_succ]
  go_wp2_with fail
  go_quiet (fail)
  go_wp2_with fail
  rw [rounds_succ]
  go_wp2_with fail
  refine world_cut (G := Code.rounds _ _ _ _ _) (MulAt w x0 x1 y0 y1 (x0 * y0 % 4294967296) ((x0 * y1 + x0 * y0 / 4294967296) % 4294967296) ((x0 * y1 + x0 * y0 / 4294967296) / 4294967296) 0) ?_ ?_
  · constructor <;> first | (go_simp; done) | (repeat' (first | (with_reducible exact Below.refl _ _) | (with_reducible assumption) | (with_reducible refine Below.alloc ?_ ?_ _) | (with_reducible refine Below.drew ?_) | (with_reducible refine Below_drewN ?_ _) | (with_reducible refine Below.setCell ?_ ?_ _) | (with_reducible refine Below.trans ?_ (Below.mono (by with_reducible assumption) ?_)) | go_size))
  intro W hM
  obtain ⟨hb1, hz, r0, r1, c0, c1, c2, c3, f0, f1, g1, g2, g3, a0, a1, b0, b1⟩ := hM
  have hz0 : w.heap.size < W.heap.size := by omega
  have hz1 : w.heap.size + 1 < W.heap.size := by omega
  have hz2 : w.heap.size + 1 + 1 < W.heap.size := by omega
  have hb0 : Below W.heap.size W W := Below.refl _ _
  obtain ⟨o0, O0⟩ : ∃ o0, x0 * y0 % 4294967296 = o0 := ⟨_, rfl⟩
  obtain ⟨o1, O1⟩ : ∃ o1, (x0 * y1 + x0 * y0 / 4294967296) % 4294967296 = o1 := ⟨_, rfl⟩
  obtain ⟨o2, O2⟩ : ∃ o2, (x0 * y1 + x0 * y0 / 4294967296) / 4294967296 = o2 := ⟨_, rfl⟩
  have k : (0 ≤ o0 ∧ 0 ≤ o1 ∧ 0 ≤ o2) ∧ (o0 < 4294967296 ∧ o1 < 4294967296 ∧ o2 < 4294967296) ∧ o2 * 18446744073709551616 + o1 * 4294967296 + o0 = x0 * y1 * 4294967296 + x0 * y0 := by
    rw [← O0, ← O1, ← O2]
    clear HAB r0 r1 c0 c1 c2 c3 a0 a1 b0 b1 E0 E1 F0 F1 O0 O1 O2
    omega
  rw [O0] at c0
  rw [O1] at c1
  rw [O2] at c2
  obtain ⟨⟨k0, k1, k2⟩, ⟨l0, l1, l2⟩, hE⟩ := k
  have HE := Lib.hid (mul_end a b x0 x1 y0 y1 _ _ _ _ HAB.out o0 o1 o2 k0 k1 k2 l0 l1 l2 hE p3 p3' p4 p4')
  clear hE O0 O1 O2
  rw [rounds_succ]
  go_wp2_with fail
  refine wp_loop_rounds 3 ?_
  rw [rounds_succ]
  go_wp2_with fail
  go_quiet (fail)
  go_wp2_with fail
  rw [rounds_succ]
  go_wp2_with fail
  go_quiet (fail)
  go_wp2_with fail
  rw [rounds_succ]
  go_wp2_with fail
  refine world_cut (G := Code.rounds _ _ _ _ _) (MulAt w x0 x1 y0 y1 o0 ((x1 * y0 + o1) % 4294967296) ((x1 * y1 + o2 + (x1 * y0 + o1) / 4294967296) % 4294967296) ((x1 * y1 + o2 + (x1 * y0 + o1) / 4294967296) / 4294967296)) ?_ ?_
  · constructor <;> first | (go_simp; done) | (repeat' (first | (with_reducible exact Below.refl _ _) | (with_reducible assumption) | (with_reducible refine Below.alloc ?_ ?_ _) | (with_reducible refine Below.drew ?_) | (with_reducible refine Below_drewN ?_ _) | (with_reducible refine Below.setCell ?_ ?_ _) | (with_reducible refine Below.trans ?_ (Below.mono (by with_reducible assumption) ?_)) | go_size))
  clear hb1 hz r0 r1 c0 c1 c2 c3 f0 f1 g1 g2 g3 a0 a1 b0 b1 hz0 hz1 hz2 hb0
  intro W2 hM
  obtain ⟨hb1, hz, r0, r1, c0, c1, c2, c3, f0, f1, g1, g2, g3, a0, a1, b0, b1⟩ := hM
  have hz0 : w.heap.size < W2.heap.size := by omega
  have hz1 : w.heap.size + 1 < W2.heap.size := by omega
  rw [rounds_succ]
  go_wp2_with fail
  refine (whole_c _ _ _ _ k0 (Int.emod_nonneg _ (by decide)) (Int.emod_nonneg _ (by decide)) (by omega) l0 (Int.emod_lt_of_pos _ (by decide)) (Int.emod_lt_of_pos _ (by decide)) (by omega) _).mono ?_
  rintro e w3 ⟨rfl, hb3⟩
  obtain ⟨hc_w3, hf_w3, hz_w3⟩ := kept hb3; (try have hzw0_w3 : w.heap.size < w3.heap.size := (by have := hz_w3; first | omega | (simp at this; omega)))
  have cc0_w3 : w3.cell? ⟨w.heap.size, 0, none⟩ = some (.int .u64 0) := (by go_simp); have cc1_w3 : w3.cell? ⟨w.heap.size, 1, none⟩ = some (.int .u64 0) := (by go_simp)
  go_wp2_with fail
  refine bodyPost_ret (by simp [results, Tryd.results67, go_sem, cc0_w3, cc1_w3]; try rfl) rfl ?_
  refine ⟨ret_a ?_ ?_, by (repeat' (first | (with_reducible exact Below.refl _ _) | (with_reducible assumption) | (with_reducible refine Below.alloc ?_ ?_ _) | (with_reducible refine Below.drew ?_) | (with_reducible refine Below_drewN ?_ _) | (with_reducible refine Below.setCell ?_ ?_ _) | (with_reducible refine Below.trans ?_ (Below.mono (by with_reducible assumption) ?_)) | go_size))⟩
  · exact HE.out.1
  · exact HE.out.2
end Go.Proofs.Tryd
