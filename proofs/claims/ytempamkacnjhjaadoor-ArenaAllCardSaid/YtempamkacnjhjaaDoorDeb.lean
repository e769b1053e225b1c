/- math/bits.TrailingZeros64 of what is turned about (its Go text, over its table, which is laid: Deb). -/
import Derived.Test.YtempamkacnjhjaaDoorAr
import Derived.Laws.Bits64
import Derived.Laws.Bits64b
import Derived.WalkMore
import Derived.Lib.Hide
namespace Go.Proofs.Tryd
open Go.RowKit
set_option linter.unusedVariables false
set_option linter.unusedSimpArgs false
def debr : List Nat := [0,1,56,2,57,49,28,3,61,58,42,50,38,29,17,4,62,47,59,36,45,43,51,22,53,39,33,30,24,18,12,5,63,55,48,27,60,41,37,16,46,35,44,21,52,32,23,11,54,26,40,15,34,20,31,10,25,14,19,9,13,8,7,6]
theorem debr_at : ∀ k, k < 64 → debr.getD (2 ^ k * 285870213051353865 % 18446744073709551616 / 288230376151711744) 64 = k := by decide +kernel
theorem debr_in : ∀ k, k < 64 → 2 ^ k * 285870213051353865 % 18446744073709551616 / 288230376151711744 < 64 := by decide +kernel
/-- The lowest place that is not 1 makes a lone 1. -/
theorem low_one (u : Nat) (hu : u < 18446744073709551616) (hk : lz u 64 < 64) : (18446744073709551615 - u) &&& (u + 1) = 2 ^ lz u 64 := by
  have hf := lz_free u 64 (by omega) hk
  have hb := lz_below u 64 (by omega)
  obtain ⟨k, hk'⟩ : ∃ k, lz u 64 = k := ⟨_, rfl⟩
  rw [hk'] at hf hb hk ⊢
  apply Nat.eq_of_testBit_eq
  intro j
  have hv : (18446744073709551615 - u).testBit j = (decide (j < 64) && !u.testBit j) := by
    have := Nat.testBit_two_pow_sub_succ (x := u) (n := 64) (by omega) j
    rwa [show 2 ^ 64 - (u + 1) = 18446744073709551615 - u by omega] at this
  have hm : u % 2 ^ (k + 1) = 2 ^ k - 1 := by
    apply Nat.eq_of_testBit_eq
    intro i
    rw [Nat.testBit_mod_two_pow, Nat.testBit_two_pow_sub_one]
    by_cases hi : i < k
    · rw [hb i (by omega) hi]; simp [hi]; omega
    · by_cases he : i = k
      · subst he; simp [hf]
      · simp [hi]; omega
  have hd := Nat.div_add_mod u (2 ^ (k + 1))
  rw [hm] at hd
  have hp := Nat.two_pow_pos k
  have h1 : u + 1 = 2 ^ (k + 1) * (u / 2 ^ (k + 1)) + 2 ^ k := by omega
  have h2 : u = 2 ^ (k + 1) * (u / 2 ^ (k + 1)) + (2 ^ k - 1) := by omega
  have hlt : 2 ^ k < 2 ^ (k + 1) := Nat.pow_lt_pow_right (by omega) (by omega)
  have t1 : (u + 1).testBit j = if j < k + 1 then (2 ^ k).testBit j else (u / 2 ^ (k + 1)).testBit (j - (k + 1)) := by
    rw [h1]; exact Nat.testBit_two_pow_mul_add _ hlt j
  have t2 : u.testBit j = if j < k + 1 then (2 ^ k - 1).testBit j else (u / 2 ^ (k + 1)).testBit (j - (k + 1)) := by
    have := Nat.testBit_two_pow_mul_add (u / 2 ^ (k + 1)) (show 2 ^ k - 1 < 2 ^ (k + 1) by omega) j
    rwa [← h2] at this
  rw [Nat.testBit_and, hv, t1, t2, Nat.testBit_two_pow]
  by_cases hj : j < k + 1
  · rw [if_pos hj, if_pos hj, Nat.testBit_two_pow_sub_one]
    by_cases he : k = j
    · subst he; simp; omega
    · simp [he]
  · rw [if_neg hj, if_neg hj]
    have : k ≠ j := by omega
    simp [this]
theorem lz_full (u : Nat) (hu : u < 18446744073709551616) : (lz u 64 < 64) ∨ u = 18446744073709551615 := by
  by_cases h : lz u 64 < 64
  · exact .inl h
  · right
    have := lz_le u 64 (by omega)
    have hb := lz_below u 64 (by omega)
    apply Nat.eq_of_testBit_eq
    intro j
    have e : (18446744073709551615 : Nat) = 2 ^ 64 - 1 := by decide
    rw [e, Nat.testBit_two_pow_sub_one]
    by_cases hj : j < 64
    · rw [hb j (by omega) (by omega)]; simp [hj]
    · rw [Nat.testBit_lt_two_pow (Nat.lt_of_lt_of_le (show u < 2 ^ 64 by omega) (Nat.pow_le_pow_right (by omega) (by omega)))]; simp [hj]
/-- The table, in memory. -/
def Deb (w : World) : Prop := 0 < w.heap.size ∧ ∀ k, k < 64 → w.cell? ⟨0, k, none⟩ = some (.int .u8 ((debr.getD k 64 : Nat) : Int))
theorem Deb.below {w w' : World} (h : Deb w) (hb : Below w.heap.size w w') : Deb w' :=
  ⟨Nat.lt_of_lt_of_le h.1 hb.size, fun k hk => (hb.cell (p := ⟨0, k, none⟩) h.1).trans (h.2 k hk)⟩
set_option maxRecDepth 100000 in
set_option maxHeartbeats 2000000 in
theorem tz_c (u : Nat) (hu : u < 18446744073709551616) (w : World) (hT : Deb w) :
    Calls Tryd.prog 21 #[.int .u64 (18446744073709551615 - (u : Int))] w fun r w' => r = .returned (.int .i64 (lz u 64 : Int)) ∧ w = w' := by
  have HT := Lib.hid hT
  clear hT
  obtain ⟨v, hv⟩ : ∃ v : Nat, 18446744073709551615 - u = v := ⟨_, rfl⟩
  have hvi : (18446744073709551615 : Int) - (u : Int) = (v : Int) := by omega
  rw [hvi]
  rcases lz_full u hu with hk | hk
  · have h1 := low_one u hu hk
    rw [hv] at h1
    have hv0 : v ≠ 0 := fun e => by rw [e, Nat.zero_and] at h1; have := Nat.two_pow_pos (lz u 64); omega
    have hvd : ((v : Int) == 0) = false := by simp; omega
    have hvd2 : (v == 0) = false := by simp; omega
    have hvn : (v : Int) ≠ 0 := by omega
    obtain ⟨y, hy⟩ : ∃ y, u + 1 = y := ⟨_, rfl⟩
    have hneg : IntKind.u64.wrap (-(v : Int)) = (y : Int) := by rw [IntKind.wrap_u64]; omega
    have hand := bits_and_u64_nat v y (by omega) (by omega)
    rw [hy] at h1
    rw [h1] at hand
    have hd := debr_at _ hk
    have hdi := debr_in _ hk
    obtain ⟨k, hkk⟩ : ∃ k, lz u 64 = k := ⟨_, rfl⟩
    rw [hkk] at hand hd hdi hk ⊢
    obtain ⟨q, hq⟩ : ∃ q, 2 ^ k = q := ⟨_, rfl⟩
    have hq64 : q < 18446744073709551616 := by rw [← hq]; exact Nat.pow_lt_pow_right (a := 2) (by omega) hk
    rw [hq] at hand hd hdi
    obtain ⟨m, hm⟩ : ∃ m, q * 285870213051353865 % 18446744073709551616 = m := ⟨_, rfl⟩
    have hmul : IntKind.u64.wrap ((q : Int) * 285870213051353865) = (m : Int) := by rw [IntKind.wrap_u64]; omega
    rw [hm] at hd hdi
    obtain ⟨x, hx⟩ : ∃ x, m / 288230376151711744 = x := ⟨_, rfl⟩
    have hxi : (m : Int) / 288230376151711744 = (x : Int) := by omega
    have hxi2 : (m : Int) / 2 ^ 58 = (x : Int) := by omega
    rw [hx] at hd hdi
    have hcell := HT.out.2 x hdi
    rw [hd] at hcell
    have hx64 : (x : Int) < 64 := by omega
    have hk64 : (k : Int) < 64 := by omega
    clear hv hkk hq hm hx hd h1 hvi hy
    go_enter Tryd.func21, Tryd.ntmps21
    go_wp2_with fail
    go_ret
    exact ⟨rfl, rfl⟩
  · have hv0 : v = 0 := by omega
    subst hv0
    have e : lz u 64 = 64 := by rw [hk]; decide +kernel
    rw [e]
    go_enter Tryd.func21, Tryd.ntmps21
    go_wp2_with fail
    go_ret
    exact ⟨rfl, rfl⟩
end Go.Proofs.Tryd
