/- Contracts of linhayref03's parts and of linhayref04. -/
import Derived.Test.YtjcclobnpbgmcaaDoorFix2
import Derived.Test.YtjcclobnpbgmcaaDoorFix3
import Derived.Test.YtjcclobnpbgmcaaDoorRef2b
import Derived.Test.YtjcclobnpbgmcaaDoorRef2d
import Derived.Test.YtjcclobnpbgmcaaDoorRef2e
namespace Go.Proofs.Tryd
open Go.RowKit
set_option linter.unusedVariables false

/-- A quotient with something added ahead of it. -/
def rp (a b c d : Int) : Int := if c = 0 then 0 else if (a * b + d) / c < 18446744073709551616 then (a * b + d) / c else 0
def rpE (a b c d : Int) : Int := if c = 0 then 20 else if (a * b + d) / c < 18446744073709551616 then 0 else 10

theorem plus_math (P d : Int) (h0 : 0 ≤ P) (h1 : P ≤ 340282366920938463426481119284349108225) (h2 : 0 ≤ d) (h3 : d ≤ 18446744073709551615) :
    aHi (P / 18446744073709551616) (P % 18446744073709551616) 0 d = (P + d) / 18446744073709551616 ∧ aLo (P % 18446744073709551616) d = (P + d) % 18446744073709551616 ∧ aOv (P / 18446744073709551616) (P % 18446744073709551616) 0 d = false := by
  unfold aHi aLo aOv
  simp only [decide_eq_false_iff_not]
  refine ⟨by omega, by omega, by omega⟩

set_option maxRecDepth 100000 in
set_option maxHeartbeats 2000000 in
theorem rpart_c (a b c d : Int) (ha : 0 ≤ a) (hb : 0 ≤ b) (hc : 0 ≤ c) (hd : 0 ≤ d) (ha' : a < 18446744073709551616) (hb' : b < 18446744073709551616) (hc' : c < 18446744073709551616) (hd' : d < 18446744073709551616) (w : World) :
    Calls Tryd.prog 69 #[.int .u64 a, .int .u64 b, .int .u64 c, .int .u64 d] w fun r w' => r = .returned (.tuple #[.int .u64 (rp a b c d), .int .i64 (rpE a b c d)]) ∧ Below w.heap.size w w' := by
  have hp := Int.mul_nonneg ha hb
  have hp' : a * b ≤ 18446744073709551615 * 18446744073709551615 := Int.mul_le_mul (by omega) (by omega) hb (by omega)
  obtain ⟨s1, s2, s3⟩ := plus_math (a * b) d hp (by omega) hd (by omega)
  by_cases h0 : c = 0
  · subst h0
    have k1 : dE 0 = 20 := by decide +kernel
    have q1 : rp a b 0 d = 0 := by rw [rp, if_pos rfl]
    have q2 : rpE a b 0 d = 20 := by rw [rpE, if_pos rfl]
    go_enter Tryd.func69, Tryd.ntmps69
    go_wp2_with (first
      | (go_at_call 67; refine (rmul2_c _ _ (by omega) (by omega) (by omega) (by omega) _).mono ?_; rintro e w1 ⟨rfl, hb1⟩; obtain ⟨hc_w1, hf_w1, hz_w1⟩ := kept hb1; have hs1 := hb1.size; (try simp only [World.size_alloc] at hs1))
      | (go_at_call 77; refine (radd2_c _ _ _ _ (by omega) (by omega) (by omega) (by omega) (by omega) (by omega) (by omega) (by omega) _).mono ?_; rintro e w2 ⟨rfl, hb2⟩; obtain ⟨hc_w2, hf_w2, hz_w2⟩ := kept hb2; have hs2 := hb2.size; (try simp only [World.size_alloc] at hs2))
      | (go_at_call 78; refine (rdiv2_c _ _ _ (by omega) (by omega) (by omega) (by omega) (by omega) (by omega) _).mono ?_; rintro e w3 ⟨rfl, hb3⟩; obtain ⟨hc_w3, hf_w3, hz_w3⟩ := kept hb3; have hs3 := hb3.size; (try simp only [World.size_alloc] at hs3)))
    go_ret2
    exact ⟨by rw [q1, q2]; try rfl, by (repeat' (first | (with_reducible exact Below.refl _ _) | (with_reducible assumption) | (with_reducible refine Below.alloc ?_ ?_ _) | (with_reducible refine Below.drew ?_) | (with_reducible refine Below_drewN ?_ _) | (with_reducible refine Below.setCell ?_ ?_ _) | (refine Below.step (B' := ?_) (b := ?_) ?_ ?_ ?_; rotate_left 2; (with_reducible assumption)) | go_size))⟩
  · obtain ⟨m1, m2, m3, m4, m5⟩ := part_math (a * b + d) c (by omega) (by omega)
    by_cases h1 : (a * b + d) / c < 18446744073709551616
    · have q1 : rp a b c d = (a * b + d) / c := by rw [rp, if_neg h0, if_pos h1]
      have q2 : rpE a b c d = 0 := by rw [rpE, if_neg h0, if_pos h1]
      have e1 : (a * b + d) / c / 18446744073709551616 = 0 := by omega
      have e2 : (a * b + d) / c % 18446744073709551616 = (a * b + d) / c := by omega
      rw [e1] at m1
      rw [e2] at m2
      go_enter Tryd.func69, Tryd.ntmps69
      go_wp2_with (first
        | (go_at_call 67; refine (rmul2_c _ _ (by omega) (by omega) (by omega) (by omega) _).mono ?_; rintro e w1 ⟨rfl, hb1⟩; obtain ⟨hc_w1, hf_w1, hz_w1⟩ := kept hb1; have hs1 := hb1.size; (try simp only [World.size_alloc] at hs1))
        | (go_at_call 77; refine (radd2_c _ _ _ _ (by omega) (by omega) (by omega) (by omega) (by omega) (by omega) (by omega) (by omega) _).mono ?_; rintro e w2 ⟨rfl, hb2⟩; obtain ⟨hc_w2, hf_w2, hz_w2⟩ := kept hb2; have hs2 := hb2.size; (try simp only [World.size_alloc] at hs2))
        | (go_at_call 78; refine (rdiv2_c _ _ _ (by omega) (by omega) (by omega) (by omega) (by omega) (by omega) _).mono ?_; rintro e w3 ⟨rfl, hb3⟩; obtain ⟨hc_w3, hf_w3, hz_w3⟩ := kept hb3; have hs3 := hb3.size; (try simp only [World.size_alloc] at hs3)))
      go_ret2
      exact ⟨by rw [q1, q2]; try rfl, by (repeat' (first | (with_reducible exact Below.refl _ _) | (with_reducible assumption) | (with_reducible refine Below.alloc ?_ ?_ _) | (with_reducible refine Below.drew ?_) | (with_reducible refine Below_drewN ?_ _) | (with_reducible refine Below.setCell ?_ ?_ _) | (refine Below.step (B' := ?_) (b := ?_) ?_ ?_ ?_; rotate_left 2; (with_reducible assumption)) | go_size))⟩
    · have q1 : rp a b c d = 0 := by rw [rp, if_neg h0, if_neg h1]
      have q2 : rpE a b c d = 10 := by rw [rpE, if_neg h0, if_neg h1]
      have e1 : 1 ≤ (a * b + d) / c / 18446744073709551616 := by omega
      have e2 : decide (0 < (a * b + d) / c / 18446744073709551616) = true := by simp; omega
      go_enter Tryd.func69, Tryd.ntmps69
      go_wp2_with (first
        | (go_at_call 67; refine (rmul2_c _ _ (by omega) (by omega) (by omega) (by omega) _).mono ?_; rintro e w1 ⟨rfl, hb1⟩; obtain ⟨hc_w1, hf_w1, hz_w1⟩ := kept hb1; have hs1 := hb1.size; (try simp only [World.size_alloc] at hs1))
        | (go_at_call 77; refine (radd2_c _ _ _ _ (by omega) (by omega) (by omega) (by omega) (by omega) (by omega) (by omega) (by omega) _).mono ?_; rintro e w2 ⟨rfl, hb2⟩; obtain ⟨hc_w2, hf_w2, hz_w2⟩ := kept hb2; have hs2 := hb2.size; (try simp only [World.size_alloc] at hs2))
        | (go_at_call 78; refine (rdiv2_c _ _ _ (by omega) (by omega) (by omega) (by omega) (by omega) (by omega) _).mono ?_; rintro e w3 ⟨rfl, hb3⟩; obtain ⟨hc_w3, hf_w3, hz_w3⟩ := kept hb3; have hs3 := hb3.size; (try simp only [World.size_alloc] at hs3)))
      go_ret2
      exact ⟨by rw [q1, q2]; try rfl, by (repeat' (first | (with_reducible exact Below.refl _ _) | (with_reducible assumption) | (with_reducible refine Below.alloc ?_ ?_ _) | (with_reducible refine Below.drew ?_) | (with_reducible refine Below_drewN ?_ _) | (with_reducible refine Below.setCell ?_ ?_ _) | (refine Below.step (B' := ?_) (b := ?_) ?_ ?_ ?_; rotate_left 2; (with_reducible assumption)) | go_size))⟩

theorem rp_zero (a b c : Int) : rp a b c 0 = fl a b c ∧ rpE a b c 0 = flE a b c := by unfold rp fl rpE flE; simp

theorem rfloor_c (a b c : Int) (ha : 0 ≤ a) (hb : 0 ≤ b) (hc : 0 ≤ c) (ha' : a < 18446744073709551616) (hb' : b < 18446744073709551616) (hc' : c < 18446744073709551616) (w : World) :
    Calls Tryd.prog 53 #[.int .u64 a, .int .u64 b, .int .u64 c] w fun r w' => r = .returned (.tuple #[.int .u64 (fl a b c), .int .i64 (flE a b c)]) ∧ Below w.heap.size w w' := by
  obtain ⟨q1, q2⟩ := rp_zero a b c
  go_enter Tryd.func53, Tryd.ntmps53
  go_wp2_with fail
  refine (rpart_c _ _ _ _ ha hb hc (by omega) ha' hb' hc' (by omega) _).mono ?_
  rintro e w2 ⟨rfl, hb2⟩
  go_wp2_with fail
  go_ret2
  exact ⟨by first | rfl | (rw [← q1, ← q2]; rfl), hb2⟩
end Go.Proofs.Tryd
