/- Plain arithmetic of a division of two words by one. -/
import Derived.WalkKit
import Derived.Lib.ItoaNum
namespace Go.Proofs.Tryd
set_option linter.unusedVariables false

/-- A guess that is not too great: the quotient digit. -/
theorem dv_low (u d y1 y0 q r B : Int) (hy : 0 < y1 * B + y0) (e : q * y1 + r = u) (h : q * y0 ≤ B * r + d) : q ≤ (u * B + d) / (y1 * B + y0) := by
  rw [Int.le_ediv_iff_mul_le hy]
  have e1 : q * (y1 * B + y0) = (q * y1) * B + q * y0 := by rw [Int.mul_add, Int.mul_assoc]
  have e2 : u * B = (q * y1) * B + B * r := by rw [← e, Int.add_mul, Int.mul_comm r B]
  rw [e1, e2]; omega
theorem dv_high (u d y1 y0 q r B : Int) (hy : 0 < y1 * B + y0) (e : q * y1 + r = u) (h : B * r + d < q * y0) : (u * B + d) / (y1 * B + y0) ≤ q - 1 := by
  have : (u * B + d) / (y1 * B + y0) < q := by
    rw [Int.ediv_lt_iff_lt_mul hy]
    have e1 : q * (y1 * B + y0) = (q * y1) * B + q * y0 := by rw [Int.mul_add, Int.mul_assoc]
    have e2 : u * B = (q * y1) * B + B * r := by rw [← e, Int.add_mul, Int.mul_comm r B]
    rw [e1, e2]; omega
  omega
theorem dv_lt (u d y B : Int) (hB : 0 < B) (hd' : d < B) (hu : u < y) (hy : 0 < y) : (u * B + d) / y < B := by
  rw [Int.ediv_lt_iff_lt_mul hy]
  have : (u + 1) * B ≤ y * B := Int.mul_le_mul_of_nonneg_right (by omega) (by omega)
  rw [Int.add_mul, Int.mul_comm y B] at this; omega
theorem dv_start (u d y1 y0 : Int) (h1 : 2147483648 ≤ y1) (h2 : y1 < 4294967296) (h3 : 0 ≤ y0) (h4 : y0 < 4294967296) (hu0 : 0 ≤ u) (hu : u < y1 * 4294967296 + y0) (hd : 0 ≤ d) (hd' : d < 4294967296) :
    (u * 4294967296 + d) / (y1 * 4294967296 + y0) ≤ u / y1 ∧ u / y1 ≤ 4294967297 ∧ 0 ≤ u / y1 ∧ u / y1 * y1 + u % y1 = u ∧ 0 ≤ u % y1 ∧ u % y1 < y1 := by
  have hm := Int.mul_ediv_add_emod u y1
  rw [Int.mul_comm] at hm
  have hr0 := Int.emod_nonneg u (show y1 ≠ 0 by omega)
  have hr1 := Int.emod_lt_of_pos u (show 0 < y1 by omega)
  have hq0 : 0 ≤ u / y1 := Int.ediv_nonneg hu0 (by omega)
  refine ⟨?_, ?_, hq0, hm, hr0, hr1⟩
  · rw [Int.le_ediv_iff_mul_le (by omega)]
    have hy : 0 < y1 * 4294967296 + y0 := by omega
    have hQ := Int.ediv_mul_le (u * 4294967296 + d) (show y1 * 4294967296 + y0 ≠ 0 by omega)
    have hQ0 : 0 ≤ (u * 4294967296 + d) / (y1 * 4294967296 + y0) := Int.ediv_nonneg (by omega) (by omega)
    generalize (u * 4294967296 + d) / (y1 * 4294967296 + y0) = Q at *
    have h5 : 0 ≤ Q * y0 := Int.mul_nonneg hQ0 h3
    have h6 : Q * (y1 * 4294967296 + y0) = Q * y1 * 4294967296 + Q * y0 := by rw [Int.mul_add, Int.mul_assoc]
    rw [h6] at hQ
    omega
  · have : u / y1 < 4294967298 := by
      rw [Int.ediv_lt_iff_lt_mul (by omega)]; omega
    omega
theorem dv_end (B q y0 r d : Int) (hB : 0 < B) (hq : q ≤ B) (h0 : 0 ≤ y0) (hy : y0 < B) (hr : B ≤ r) (hd : 0 ≤ d) : q * y0 ≤ B * r + d := by
  have h1 : q * y0 ≤ B * y0 := Int.mul_le_mul_of_nonneg_right hq h0
  have h2 : B * y0 ≤ B * r := Int.mul_le_mul_of_nonneg_left (by omega) (by omega)
  omega
theorem dv_prod (q y0 : Int) (hq : 0 ≤ q) (hq' : q ≤ 4294967297) (h0 : 0 ≤ y0) (hy : y0 < 4294967296) : 0 ≤ q * y0 ∧ q * y0 < 18446744073709551616 := by
  refine ⟨Int.mul_nonneg hq h0, ?_⟩
  have h1 : q * y0 ≤ 4294967297 * y0 := Int.mul_le_mul_of_nonneg_right hq' h0
  omega

theorem wrapM (n : Int) : IntKind.u64.wrap n = n % 18446744073709551616 := IntKind.wrap_u64 n

/-- What is left over, reckoned with words that go round. -/
theorem dv_rest (u d y q : Int) (hy : 0 < y) (hy' : y < 18446744073709551616) (hq : q = (u * 4294967296 + d) / y) :
    IntKind.u64.wrap (IntKind.u64.wrap (IntKind.u64.wrap (u * 4294967296) + d) - IntKind.u64.wrap (q * y)) = (u * 4294967296 + d) % y := by
  have hm := Int.mul_ediv_add_emod (u * 4294967296 + d) y
  have h0 := Int.emod_nonneg (u * 4294967296 + d) (show y ≠ 0 by omega)
  have h1 := Int.emod_lt_of_pos (u * 4294967296 + d) hy
  rw [Int.mul_comm, ← hq] at hm
  simp only [wrapM]
  omega

theorem bitLen_in (x : Nat) (h0 : x ≠ 0) (h : x < 18446744073709551616) : 1 ≤ Lib.bitLen x ∧ Lib.bitLen x ≤ 64 ∧ 2 ^ (Lib.bitLen x - 1) ≤ x ∧ x < 2 ^ Lib.bitLen x := by
  have h1 := Lib.bitLenAux_bounds 64 x (by omega) h0
  have h2 : Lib.bitLen x ≤ 64 := Lib.bitLen_le x 64 (by omega) (by omega)
  exact ⟨h1.1, h2, h1.2.1, h1.2.2⟩

/-- How far a number must be shifted up till its highest bit is the 64th. -/
def lzN (y : Int) : Nat := 64 - Lib.bitLen y.toNat

theorem lzN_in (y : Int) (h0 : 0 < y) (h1 : y < 18446744073709551616) : lzN y ≤ 63 ∧ 9223372036854775808 ≤ y * 2 ^ lzN y ∧ y * 2 ^ lzN y < 18446744073709551616 := by
  obtain ⟨n, rfl⟩ := Int.eq_ofNat_of_zero_le (Int.le_of_lt h0)
  have hb := bitLen_in n (by omega) (by omega)
  unfold lzN
  rw [Int.toNat_natCast]
  generalize Lib.bitLen n = b at hb
  obtain ⟨b1, b2, b3, b4⟩ := hb
  have e1 : 2 ^ (b - 1) * 2 ^ (64 - b) = 9223372036854775808 := by
    rw [← Nat.pow_add, show b - 1 + (64 - b) = 63 by omega]
  have e2 : 2 ^ b * 2 ^ (64 - b) = 18446744073709551616 := by
    rw [← Nat.pow_add, show b + (64 - b) = 64 by omega]
  have p : 0 < 2 ^ (64 - b) := Nat.pow_pos (by omega)
  have c1 : 2 ^ (b - 1) * 2 ^ (64 - b) ≤ n * 2 ^ (64 - b) := Nat.mul_le_mul_right _ b3
  have c2 : n * 2 ^ (64 - b) < 2 ^ b * 2 ^ (64 - b) := Nat.mul_lt_mul_of_pos_right b4 p
  have e3 : ((n : Int) * 2 ^ (64 - b)) = ((n * 2 ^ (64 - b) : Nat) : Int) := by simp
  rw [e3]
  omega

theorem bits_mask (a : Int) (h0 : 0 ≤ a) (h1 : a < 18446744073709551616) : bits .and .u64 a 4294967295 = a % 4294967296 := by
  obtain ⟨n, rfl⟩ := Int.eq_ofNat_of_zero_le h0
  have h := bits_and_u64_nat n 4294967295 (by omega) (by omega)
  have e : n &&& 4294967295 = n % 4294967296 := Nat.and_two_pow_sub_one_eq_mod n 32
  rw [e] at h
  rw [show (4294967295 : Int) = ((4294967295 : Nat) : Int) from rfl, h]
  omega

theorem or_add (a b s : Nat) (h : b < 2 ^ s) : a * 2 ^ s ||| b = a * 2 ^ s + b := by
  rw [Nat.mul_comm, ← Nat.two_pow_add_eq_or_of_lt h]

theorem cast_e (a l p M : Nat) : ((a : Int) * M + l) * p = ((a * p * M + l * p : Nat) : Int) := by
  push_cast; rw [Int.add_mul, Int.mul_right_comm]

theorem dv_shift (hi lo y : Int) (s : Nat) (hs : s ≤ 63) (h0 : 0 ≤ hi) (h1 : hi < y) (h2 : 0 ≤ lo) (h3 : lo < 18446744073709551616) (hy : y * 2 ^ s < 18446744073709551616) :
    ∃ U : Int, bits .or .u64 (IntKind.u64.wrap (hi * 2 ^ s)) (lo / 2 ^ (64 - s)) = U ∧ 0 ≤ U ∧ U < y * 2 ^ s ∧ U * 18446744073709551616 + IntKind.u64.wrap (lo * 2 ^ s) = (hi * 18446744073709551616 + lo) * 2 ^ s := by
  obtain ⟨a, rfl⟩ := Int.eq_ofNat_of_zero_le h0
  obtain ⟨l, rfl⟩ := Int.eq_ofNat_of_zero_le h2
  obtain ⟨Y, rfl⟩ := Int.eq_ofNat_of_zero_le (show 0 ≤ y by omega)
  have p1 : 0 < 2 ^ s := Nat.pow_pos (by omega)
  have p2 : 0 < 2 ^ (64 - s) := Nat.pow_pos (by omega)
  have p3 : 2 ^ s * 2 ^ (64 - s) = 18446744073709551616 := by rw [← Nat.pow_add, show s + (64 - s) = 64 by omega]
  have c1 : ((a : Int) * 2 ^ s) = ((a * 2 ^ s : Nat) : Int) := by simp
  have c2 : ((l : Int) * 2 ^ s) = ((l * 2 ^ s : Nat) : Int) := by simp
  have c3 : ((Y : Int) * 2 ^ s) = ((Y * 2 ^ s : Nat) : Int) := by simp
  have c4 : ((l : Int) / 2 ^ (64 - s)) = ((l / 2 ^ (64 - s) : Nat) : Int) := by simp
  rw [c3] at hy
  have d1 : (a + 1) * 2 ^ s ≤ Y * 2 ^ s := Nat.mul_le_mul_right _ (by omega)
  rw [Nat.add_mul] at d1
  have d2 : l / 2 ^ (64 - s) < 2 ^ s := by
    rw [Nat.div_lt_iff_lt_mul p2, p3]; omega
  have d3 := Nat.div_add_mod l (2 ^ (64 - s))
  have d4 := Nat.mod_lt l p2
  have e1 : IntKind.u64.wrap ((a : Int) * 2 ^ s) = ((a * 2 ^ s : Nat) : Int) := by rw [c1, IntKind.wrap_u64]; omega
  have e2 : l * 2 ^ s = l / 2 ^ (64 - s) * 18446744073709551616 + l % 2 ^ (64 - s) * 2 ^ s := by
    conv => lhs; rw [← d3, Nat.add_mul, Nat.mul_comm (2 ^ (64 - s)), Nat.mul_assoc, Nat.mul_comm (2 ^ (64 - s)), p3]
  have e3 : l % 2 ^ (64 - s) * 2 ^ s < 18446744073709551616 := by
    have := Nat.mul_lt_mul_of_pos_right d4 p1
    rw [Nat.mul_comm (2 ^ (64 - s)), p3] at this; exact this
  refine ⟨((a * 2 ^ s + l / 2 ^ (64 - s) : Nat) : Int), ?_, by omega, ?_, ?_⟩
  · rw [e1, c4, bits_or_u64_nat _ _ (by omega) (by omega), or_add _ _ _ d2]
  · rw [c3]; omega
  · rw [c2, IntKind.wrap_u64, e2]
    have e4 : (((a : Int) * 18446744073709551616 + l) * 2 ^ s) = ((a * 2 ^ s * 18446744073709551616 + l * 2 ^ s : Nat) : Int) := by
      rw [show (18446744073709551616 : Int) = ((18446744073709551616 : Nat) : Int) from rfl, show (2 : Int) ^ s = ((2 ^ s : Nat) : Int) by simp]
      exact cast_e a l (2 ^ s) 18446744073709551616
    rw [e4, e2]
    omega

/-- Both digits of the quotient, and what is left over, told of the whole. -/
theorem dv_both (N Y U L Q1 R1 Q0 R0 : Int) (hY : 0 < Y) (hN : U * 18446744073709551616 + L = N) (hQ1 : Q1 = (U * 4294967296 + L / 4294967296) / Y) (hR1 : R1 = (U * 4294967296 + L / 4294967296) % Y)
    (hQ0 : Q0 = (R1 * 4294967296 + L % 4294967296) / Y) (hR0 : R0 = (R1 * 4294967296 + L % 4294967296) % Y) : Q1 * 4294967296 + Q0 = N / Y ∧ R0 = N % Y := by
  have m1 := Int.mul_ediv_add_emod (U * 4294967296 + L / 4294967296) Y
  have m0 := Int.mul_ediv_add_emod (R1 * 4294967296 + L % 4294967296) Y
  have r0 := Int.emod_nonneg (R1 * 4294967296 + L % 4294967296) (show Y ≠ 0 by omega)
  have r1 := Int.emod_lt_of_pos (R1 * 4294967296 + L % 4294967296) hY
  rw [← hQ1, ← hR1] at m1
  rw [← hQ0, ← hR0] at m0
  rw [← hR0] at r0 r1
  have e : N = R0 + Y * (Q1 * 4294967296 + Q0) := by
    rw [Int.mul_add, ← Int.mul_assoc]; omega
  constructor
  · rw [e, Int.add_mul_ediv_left _ _ (by omega), Int.ediv_eq_zero_of_lt r0 r1]; omega
  · rw [e, Int.add_mul_emod_self_left, Int.emod_eq_of_lt r0 r1]

theorem dv_back (N y : Int) (s : Nat) (hy : 0 < y) : N * 2 ^ s / (y * 2 ^ s) = N / y ∧ N * 2 ^ s % (y * 2 ^ s) / 2 ^ s = N % y := by
  have p : (0 : Int) < 2 ^ s := Int.pow_pos (by omega)
  constructor
  · rw [Int.mul_ediv_mul_of_pos_left _ _ p]
  · rw [Int.mul_comm N, Int.mul_comm y, Int.mul_emod_mul_of_pos _ _ p, Int.mul_ediv_cancel_left _ (by omega)]

/-- Where the search for a digit stands. -/
def DvInv (u Q y1 q r : Int) : Prop := Q ≤ q ∧ 0 ≤ q ∧ q ≤ 4294967297 ∧ q * y1 + r = u ∧ 0 ≤ r ∧ r < 4294967296

theorem DvInv.prod {u Q y1 q r y0 : Int} (h : DvInv u Q y1 q r) (h0 : 0 ≤ y0) (hy : y0 < 4294967296) : 0 ≤ q * y0 ∧ q * y0 < 18446744073709551616 := dv_prod q y0 h.2.1 h.2.2.1 h0 hy
theorem DvInv.stop {u Q y1 y0 q r d : Int} (h : DvInv u Q y1 q r) (hy : 0 < y1 * 4294967296 + y0) (hQ : Q = (u * 4294967296 + d) / (y1 * 4294967296 + y0)) (c2 : q * y0 ≤ 4294967296 * r + d) : q = Q := by
  have := dv_low u d y1 y0 q r 4294967296 hy h.2.2.2.1 c2
  have := h.1
  omega
theorem DvInv.less {u Q y1 y0 q r d : Int} (h : DvInv u Q y1 q r) (hy : 0 < y1 * 4294967296 + y0) (hQ : Q = (u * 4294967296 + d) / (y1 * 4294967296 + y0)) (hQB : Q < 4294967296) (hQ0 : 0 ≤ Q) (c : 4294967296 ≤ q ∨ 4294967296 * r + d < q * y0) : Q ≤ q - 1 := by
  rcases c with c | c
  · omega
  · have := dv_high u d y1 y0 q r 4294967296 hy h.2.2.2.1 c
    omega
theorem DvInv.next {u Q y1 q r : Int} (h : DvInv u Q y1 q r) (hl : Q ≤ q - 1) (hQ0 : 0 ≤ Q) (hy1 : 0 ≤ y1) (c3 : r + y1 < 4294967296) : DvInv u Q y1 (q - 1) (r + y1) := by
  obtain ⟨a, b, c, d, e, f⟩ := h
  refine ⟨hl, by omega, by omega, ?_, by omega, c3⟩
  rw [Int.sub_mul]; omega
theorem DvInv.last {u Q y1 y0 q r d : Int} (h : DvInv u Q y1 q r) (hl : Q ≤ q - 1) (hy : 0 < y1 * 4294967296 + y0) (hQ : Q = (u * 4294967296 + d) / (y1 * 4294967296 + y0)) (h0 : 0 ≤ y0) (h0' : y0 < 4294967296) (hd : 0 ≤ d) (c3 : 4294967296 ≤ r + y1) : q - 1 = Q := by
  obtain ⟨a, b, c, e, f, g⟩ := h
  have e2 : (q - 1) * y1 + (r + y1) = u := by rw [Int.sub_mul]; omega
  have := dv_low u d y1 y0 (q - 1) (r + y1) 4294967296 hy e2 (dv_end 4294967296 (q - 1) y0 (r + y1) d (by omega) (by omega) h0 h0' c3 hd)
  omega
theorem DvInv.start {u d y1 y0 : Int} (h1 : 2147483648 ≤ y1) (h2 : y1 < 4294967296) (h3 : 0 ≤ y0) (h4 : y0 < 4294967296) (hu0 : 0 ≤ u) (hu : u < y1 * 4294967296 + y0) (hd : 0 ≤ d) (hd' : d < 4294967296) :
    DvInv u ((u * 4294967296 + d) / (y1 * 4294967296 + y0)) y1 (u / y1) (u % y1) := by
  obtain ⟨a, b, c, e, f, g⟩ := dv_start u d y1 y0 h1 h2 h3 h4 hu0 hu hd hd'
  exact ⟨a, c, b, e, f, by omega⟩
/-- The first guess's rest, as the walk reckons it. -/
theorem dv_first (u y1 : Int) (h1 : 2147483648 ≤ y1) (h2 : y1 < 4294967296) (hu0 : 0 ≤ u) (hu' : u < 18446744073709551616) : IntKind.u64.wrap (u - IntKind.u64.wrap (u / y1 * y1)) = u % y1 := by
  have hm := Int.mul_ediv_add_emod u y1
  rw [Int.mul_comm] at hm
  have hr0 := Int.emod_nonneg u (show y1 ≠ 0 by omega)
  have hr1 := Int.emod_lt_of_pos u (show 0 < y1 by omega)
  simp only [wrapM]
  omega
end Go.Proofs.Tryd
