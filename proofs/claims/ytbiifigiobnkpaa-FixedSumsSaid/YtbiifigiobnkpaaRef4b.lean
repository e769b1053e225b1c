/- Contracts of linhayref04. -/
import Derived.Test.YtbiifigiobnkpaaRef4
namespace Go.Proofs.Try
open Go.RowKit
set_option linter.unusedVariables false

theorem rfof_c (a b : Int) (ha : 0 ≤ a) (hb : 0 ≤ b) (ha' : a < 18446744073709551616) (hb' : b < 18446744073709551616) (w : World) :
    Calls Try.prog 28 #[.int .u64 a, .int .u64 b] w fun r w' => r = .returned (.tuple #[.int .u64 (fl a 4294967296 b), .int .i64 (flE a 4294967296 b)]) ∧ Below w.heap.size w w' := by
  go_enter Try.func28, Try.ntmps28
  go_wp2_with fail
  refine (rfloor_c _ _ _ (by omega) (by omega) (by omega) (by omega) (by omega) (by omega) _).mono ?_
  rintro e w2 ⟨rfl, hb2⟩
  go_wp2_with fail
  go_ret2
  exact ⟨rfl, hb2⟩

theorem rfdiv_c (a b : Int) (ha : 0 ≤ a) (hb : 0 ≤ b) (ha' : a < 18446744073709551616) (hb' : b < 18446744073709551616) (w : World) :
    Calls Try.prog 30 #[.int .u64 a, .int .u64 b] w fun r w' => r = .returned (.tuple #[.int .u64 (fl a 4294967296 b), .int .i64 (flE a 4294967296 b)]) ∧ Below w.heap.size w w' := by
  go_enter Try.func30, Try.ntmps30
  go_wp2_with fail
  refine (rfloor_c _ _ _ (by omega) (by omega) (by omega) (by omega) (by omega) (by omega) _).mono ?_
  rintro e w2 ⟨rfl, hb2⟩
  go_wp2_with fail
  go_ret2
  exact ⟨rfl, hb2⟩

theorem rfmul_c (a b : Int) (ha : 0 ≤ a) (hb : 0 ≤ b) (ha' : a < 18446744073709551616) (hb' : b < 18446744073709551616) (w : World) :
    Calls Try.prog 32 #[.int .u64 a, .int .u64 b] w fun r w' => r = .returned (.int .u64 (fMul a b)) ∧ Below w.heap.size w w' := by
  by_cases h : a * b / 4294967296 < 18446744073709551616
  · have q1 : fMul a b = fl a b 4294967296 := by rw [fMul, fl, if_pos h, if_neg (by omega), if_pos h]
    have e1 : flE a b 4294967296 = 0 := by rw [flE, if_neg (by omega), if_pos h]
    go_enter Try.func32, Try.ntmps32
    go_wp2_with fail
    refine (rfloor_c _ _ _ (by omega) (by omega) (by omega) (by omega) (by omega) (by omega) _).mono ?_
    rintro e w2 ⟨rfl, hb2⟩
    go_wp2_with fail
    go_ret
    exact ⟨ret_i (by rw [q1]), hb2⟩
  · have q1 : fMul a b = 18446744073709551615 := by rw [fMul, if_neg h]
    have e1 : flE a b 4294967296 = 10 := by rw [flE, if_neg (by omega), if_neg h]
    go_enter Try.func32, Try.ntmps32
    go_wp2_with fail
    refine (rfloor_c _ _ _ (by omega) (by omega) (by omega) (by omega) (by omega) (by omega) _).mono ?_
    rintro e w2 ⟨rfl, hb2⟩
    go_wp2_with fail
    go_ret
    exact ⟨ret_i (by rw [q1]), hb2⟩

theorem rfwhole_c (a : Int) (ha : 0 ≤ a) (ha' : a < 18446744073709551616) (w : World) :
    Calls Try.prog 34 #[.int .u64 a] w fun r w' => r = .returned (.int .u64 (a / 4294967296)) ∧ w = w' := by
  go_enter Try.func34, Try.ntmps34
  go_wp2_with fail
  go_ret
  exact ⟨rfl, rfl⟩

theorem rfpart_c (a : Int) (ha : 0 ≤ a) (ha' : a < 18446744073709551616) (w : World) :
    Calls Try.prog 36 #[.int .u64 a] w fun r w' => r = .returned (.int .u64 (a % 4294967296)) ∧ w = w' := by
  go_enter Try.func36, Try.ntmps36
  go_wp2_with fail
  go_ret
  exact ⟨rfl, rfl⟩

theorem rmix_math (a b m : Int) (ha : 0 ≤ a) (hb : 0 ≤ b) (ha' : a < 18446744073709551616) (hb' : b < 18446744073709551616) (hm0 : 0 ≤ m) (hm1 : m ≤ 4294967296) :
    dLo ((a * (4294967296 - m) + b * m) / 18446744073709551616) ((a * (4294967296 - m) + b * m) % 18446744073709551616) 4294967296 = (a * (4294967296 - m) + b * m) / 4294967296 ∧ 0 ≤ b * m ∧ b * m < 340282366920938463463374607431768211456 := by
  have p0 : 0 ≤ a * (4294967296 - m) := Int.mul_nonneg ha (by omega)
  have r0 : 0 ≤ b * m := Int.mul_nonneg hb hm0
  have p1 : a * (4294967296 - m) ≤ 18446744073709551615 * (4294967296 - m) := Int.mul_le_mul_of_nonneg_right (by omega) (by omega)
  have r1 : b * m ≤ 18446744073709551615 * m := Int.mul_le_mul_of_nonneg_right (by omega) (by omega)
  obtain ⟨_, e, _⟩ := part_math (a * (4294967296 - m) + b * m) 4294967296 (by omega) (by omega)
  rw [e]
  generalize a * (4294967296 - m) = P at *
  generalize b * m = R at *
  omega

set_option maxRecDepth 100000 in
set_option maxHeartbeats 4000000 in
theorem rfmix_c (a b v : Int) (ha : 0 ≤ a) (hb : 0 ≤ b) (hv : 0 ≤ v) (ha' : a < 18446744073709551616) (hb' : b < 18446744073709551616) (hv' : v < 18446744073709551616) (w : World) :
    Calls Try.prog 38 #[.int .u64 a, .int .u64 b, .int .u64 v] w fun r w' => r = .returned (.int .u64 (mixN a b v)) ∧ Below w.heap.size w w' := by
  obtain ⟨m, hm, hm0, hm1⟩ : ∃ m, min v 4294967296 = m ∧ 0 ≤ m ∧ m ≤ 4294967296 := ⟨_, rfl, by omega, by omega⟩
  obtain ⟨_, _, m3, m4, _, m6, m7, m8, m9⟩ := mix_math a b m ha hb ha' hb' hm0 hm1
  obtain ⟨m5, n1, n2⟩ := rmix_math a b m ha hb ha' hb' hm0 hm1
  have q1 : mixN a b v = (a * (4294967296 - m) + b * m) / 4294967296 := by rw [mixN, hm]
  by_cases h : 4294967296 < v
  · obtain rfl : m = 4294967296 := by omega
    have e1 : aHi 0 0 (b * 4294967296 / 18446744073709551616) (b * 4294967296 % 18446744073709551616) = b * 4294967296 / 18446744073709551616 := by unfold aHi; omega
    have e2 : aLo 0 (b * 4294967296 % 18446744073709551616) = b * 4294967296 % 18446744073709551616 := by unfold aLo; omega
    have e3 : dLo (b * 4294967296 / 18446744073709551616) (b * 4294967296 % 18446744073709551616) 4294967296 = b := by
      obtain ⟨_, e, _⟩ := part_math (b * 4294967296) 4294967296 (by omega) (by omega)
      rw [e]; omega
    have q2 : mixN a b v = b := by rw [q1]; omega
    clear hm m3 m4 m5 m6 m7 m8 m9 q1
    go_enter Try.func38, Try.ntmps38
    go_wp2_with (first
      | (go_at_call 44; refine (rmul2_c _ _ (by omega) (by omega) (by omega) (by omega) _).mono ?_; rintro e w1 ⟨rfl, hb1⟩; obtain ⟨hc_w1, hf_w1, hz_w1⟩ := kept hb1; have hs1 := hb1.size; (try simp only [World.size_alloc] at hs1))
      | (go_at_call 56; refine (radd2_c _ _ _ _ (by omega) (by omega) (by omega) (by omega) (by omega) (by omega) (by omega) (by omega) _).mono ?_; rintro e w2 ⟨rfl, hb2⟩; obtain ⟨hc_w2, hf_w2, hz_w2⟩ := kept hb2; have hs2 := hb2.size; (try simp only [World.size_alloc] at hs2))
      | (go_at_call 57; refine (rdiv2_c _ _ _ (by omega) (by omega) (by omega) (by omega) (by omega) (by omega) _).mono ?_; rintro e w3 ⟨rfl, hb3⟩; obtain ⟨hc_w3, hf_w3, hz_w3⟩ := kept hb3; have hs3 := hb3.size; (try simp only [World.size_alloc] at hs3)))
    go_ret
    exact ⟨by rw [q2]; try rfl, by (repeat' (first | (with_reducible exact Below.refl _ _) | (with_reducible assumption) | (with_reducible refine Below.alloc ?_ ?_ _) | (with_reducible refine Below.drew ?_) | (with_reducible refine Below_drewN ?_ _) | (with_reducible refine Below.setCell ?_ ?_ _) | (refine Below.step (B' := ?_) (b := ?_) ?_ ?_ ?_; rotate_left 2; (with_reducible assumption)) | go_size))⟩
  · obtain rfl : m = v := by omega
    clear hm
    go_enter Try.func38, Try.ntmps38
    go_wp2_with (first
      | (go_at_call 44; refine (rmul2_c _ _ (by omega) (by omega) (by omega) (by omega) _).mono ?_; rintro e w1 ⟨rfl, hb1⟩; obtain ⟨hc_w1, hf_w1, hz_w1⟩ := kept hb1; have hs1 := hb1.size; (try simp only [World.size_alloc] at hs1))
      | (go_at_call 56; refine (radd2_c _ _ _ _ (by omega) (by omega) (by omega) (by omega) (by omega) (by omega) (by omega) (by omega) _).mono ?_; rintro e w2 ⟨rfl, hb2⟩; obtain ⟨hc_w2, hf_w2, hz_w2⟩ := kept hb2; have hs2 := hb2.size; (try simp only [World.size_alloc] at hs2))
      | (go_at_call 57; refine (rdiv2_c _ _ _ (by omega) (by omega) (by omega) (by omega) (by omega) (by omega) _).mono ?_; rintro e w3 ⟨rfl, hb3⟩; obtain ⟨hc_w3, hf_w3, hz_w3⟩ := kept hb3; have hs3 := hb3.size; (try simp only [World.size_alloc] at hs3)))
    go_ret
    exact ⟨by rw [q1]; try rfl, by (repeat' (first | (with_reducible exact Below.refl _ _) | (with_reducible assumption) | (with_reducible refine Below.alloc ?_ ?_ _) | (with_reducible refine Below.drew ?_) | (with_reducible refine Below_drewN ?_ _) | (with_reducible refine Below.setCell ?_ ?_ _) | (refine Below.step (B' := ?_) (b := ?_) ?_ ?_ ?_; rotate_left 2; (with_reducible assumption)) | go_size))⟩

set_option maxRecDepth 100000 in
set_option maxHeartbeats 2000000 in
theorem rfsum_c (b off len cap : Nat) (zs : List Int) (hz : len ≤ zs.length) (hl : len ≤ 4611686018427387904) (hx : ∀ k, 0 ≤ zs.getD k 0) (hx' : ∀ k, zs.getD k 0 < 18446744073709551616) (w : World)
    (hc : ∀ j, j < zs.length → w.cell? ⟨b, off + j, none⟩ = some (.int .u64 (zs.getD j 0))) :
    Calls Try.prog 40 #[.slice (some ⟨b, off, none⟩) len cap] w fun r w' => r = .returned (.int .u64 (sN zs len)) ∧ w = w' := by
  go_enter Try.func40, Try.ntmps40
  go_wp2_with fail
  go_loop [3, 4] (fun v i => ∃ k : Nat, k ≤ len ∧ i = .int .i64 k ∧ v = .int .u64 (sN zs k)) (fun _ i => len - (intOf i).toNat)
  case atStart => exact ⟨0, by omega, rfl, rfl⟩
  case round =>
    obtain ⟨k, hk, rfl, rfl⟩ := hrel
    have hcell : k < len → w.cell? ⟨b, off + k, none⟩ = some (.int .u64 (zs.getD k 0)) := fun h => hc k (by omega)
    obtain ⟨s0, s1⟩ := sN_in zs hx k
    have x0 := hx k
    have x1 := hx' k
    have HE : Hid (wAdd (sN zs k) (zs.getD k 0) = sN zs (k + 1)) := rfl
    clear hc hx hx'
    by_cases hlt : k < len
    · have hcell := hcell hlt
      go_wp2_with (go_at_call 59; refine (radd_c _ _ (by assumption) (by assumption) (by assumption) (by assumption) _).mono ?_; rintro e w' ⟨rfl, rfl⟩)
      go_round
      case rel => exact ⟨k + 1, by omega, by go_num, by first | rfl | (rw [← HE.out]; rfl)⟩
      case measure => simp [intOf]; omega
    · have hke : k = len := by omega
      subst hke
      go_wp2_with fail
      go_ret
      exact ⟨rfl, rfl⟩
/-- None at all. -/
theorem rfsum_nil (w : World) : Calls Try.prog 40 #[.slice none 0 0] w fun r w' => r = .returned (.int .u64 0) ∧ w = w' := by
  go_enter Try.func40, Try.ntmps40
  go_wp2_with fail
  go_loop [3, 4] (fun v i => i = .int .i64 0 ∧ v = .int .u64 0) (fun _ i => 0)
  case atStart => exact ⟨rfl, rfl⟩
  case round =>
    obtain ⟨rfl, rfl⟩ := hrel
    go_wp2_with fail
    go_ret
    exact ⟨rfl, rfl⟩
end Go.Proofs.Try
