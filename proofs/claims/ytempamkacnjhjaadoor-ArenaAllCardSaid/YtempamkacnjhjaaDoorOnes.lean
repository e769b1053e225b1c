/- math/bits.OnesCount64: its Go text counts. (The theory is written by tools/gen/ones.py.) -/
import Derived.Test.YtempamkacnjhjaaDoorAr
import Derived.Laws.Bits64
import Derived.Laws.Bits64b
import Derived.WalkMore
import Derived.Lib.Hide
namespace Go.Proofs.Tryd
open Go.RowKit
set_option linter.unusedVariables false
set_option linter.unusedSimpArgs false
theorem and_part (b m M x : Nat) (k : Nat) (hb : b = 2 ^ k) (hm : m < b) : x &&& (m + b * M) = (x % b &&& m) + b * (x / b &&& M) := by
  subst hb
  apply Nat.eq_of_testBit_eq
  intro j
  have h1 : (x % 2 ^ k &&& m) < 2 ^ k := Nat.and_lt_two_pow _ hm
  rw [Nat.testBit_and, Nat.add_comm (x % 2 ^ k &&& m), Nat.testBit_two_pow_mul_add _ h1, Nat.add_comm m, Nat.testBit_two_pow_mul_add _ hm]
  by_cases hj : j < k
  · rw [if_pos hj, if_pos hj, Nat.testBit_and, Nat.testBit_mod_two_pow]
    simp [hj]
  · rw [if_neg hj, if_neg hj, Nat.testBit_and, Nat.testBit_div_two_pow, show j - k + k = j by omega]
def M5 : Nat → Nat
  | 0 => 0
  | n + 1 => 5 + 16 * M5 n
def M3 : Nat → Nat
  | 0 => 0
  | n + 1 => 3 + 16 * M3 n
def g1 (r : Nat) : Nat := (r / 2 &&& 5) + (r &&& 5)
def g2 (r : Nat) : Nat := (r / 4 &&& 3) + (r &&& 3)
def S1 (n x : Nat) : Nat := (x / 2 &&& M5 n) + (x &&& M5 n)
def S2 (n x : Nat) : Nat := (x / 4 &&& M3 n) + (x &&& M3 n)
theorem g1_lt : ∀ r, r < 16 → g1 r < 16 := by decide
theorem g1_cut : ∀ r, r < 16 → ∀ t, t < 2 → (r / 2 + 8 * t &&& 5) = (r / 2 &&& 5) := by decide
theorem g2_cut : ∀ r, r < 16 → ∀ t, t < 4 → (r / 4 + 4 * t &&& 3) = (r / 4 &&& 3) := by decide
theorem S1_rec (n x : Nat) : S1 (n + 1) x = g1 (x % 16) + 16 * S1 n (x / 16) := by
  unfold S1 g1
  rw [show M5 (n + 1) = 5 + 16 * M5 n from rfl, and_part 16 5 _ (x / 2) 4 rfl (by omega), and_part 16 5 _ x 4 rfl (by omega)]
  have e1 : x / 2 % 16 = x % 16 / 2 + 8 * (x / 16 % 2) := by omega
  have e2 : x / 2 / 16 = x / 16 / 2 := by omega
  rw [e1, e2, g1_cut _ (by omega) _ (by omega)]
  omega
theorem S2_rec (n x : Nat) : S2 (n + 1) x = g2 (x % 16) + 16 * S2 n (x / 16) := by
  unfold S2 g2
  rw [show M3 (n + 1) = 3 + 16 * M3 n from rfl, and_part 16 3 _ (x / 4) 4 rfl (by omega), and_part 16 3 _ x 4 rfl (by omega)]
  have e1 : x / 4 % 16 = x % 16 / 4 + 4 * (x / 16 % 4) := by omega
  have e2 : x / 4 / 16 = x / 16 / 4 := by omega
  rw [e1, e2, g2_cut _ (by omega) _ (by omega)]
  omega
def pop4 (r : Nat) : Nat := g2 (g1 r)
theorem pop4_le : ∀ r, r < 16 → pop4 r ≤ 4 := by decide
theorem pop4_pc : ∀ r, r < 16 → pc r 4 = pop4 r := by decide
def PP (n x : Nat) : Nat := S2 n (S1 n x)
theorem PP_rec (n x : Nat) : PP (n + 1) x = pop4 (x % 16) + 16 * PP n (x / 16) := by
  unfold PP pop4
  have h := g1_lt (x % 16) (by omega)
  rw [S2_rec, S1_rec]
  rw [show (g1 (x % 16) + 16 * S1 n (x / 16)) % 16 = g1 (x % 16) by omega, show (g1 (x % 16) + 16 * S1 n (x / 16)) / 16 = S1 n (x / 16) by omega]
theorem pc_mod (u : Nat) : ∀ n, n ≤ 4 → pc u n = pc (u % 16) n
  | 0, _ => rfl
  | n + 1, h => by
    rw [pc, pc, pc_mod u n (by omega), show (16 : Nat) = 2 ^ 4 from rfl, Nat.testBit_mod_two_pow]
    simp [show n < 4 by omega]
theorem pc_shift (u : Nat) : ∀ n, pc u (4 + n) = pc u 4 + pc (u / 16) n
  | 0 => by simp [pc]
  | n + 1 => by
    rw [← Nat.add_assoc, pc, pc_shift u n, pc.eq_2 (u / 16) n, show (16 : Nat) = 2 ^ 4 from rfl, Nat.testBit_div_two_pow, Nat.add_comm n 4]
    omega
theorem pc_rec (u n : Nat) : pc u (4 + n) = pop4 (u % 16) + pc (u / 16) n := by
  rw [pc_shift, pc_mod u 4 (by omega), pop4_pc _ (by omega)]
theorem M5_16 : M5 16 = 6148914691236517205 := by decide
theorem M3_16 : M3 16 = 3689348814741910323 := by decide
def M8 : Nat → Nat
  | 0 => 0
  | n + 1 => 15 + 256 * M8 n
theorem M8_8 : M8 8 = 1085102592571150095 := by decide
theorem and15 (r : Nat) : r % 256 &&& 15 = r % 16 := by
  have := Nat.and_two_pow_sub_one_eq_mod (r % 256) 4
  rw [show 2 ^ 4 - 1 = 15 by decide] at this
  rw [this]
  omega
theorem M8_rec (n v : Nat) : v &&& M8 (n + 1) = v % 16 + 256 * (v / 256 &&& M8 n) := by
  rw [M8, and_part 256 15 _ v 8 rfl (by omega), and15]
theorem digits (x : Nat) (hx : x < 18446744073709551616) : ∃ p0 p1 p2 p3 p4 p5 p6 p7 p8 p9 p10 p11 p12 p13 p14 p15 : Nat, p0 ≤ 4 ∧ p1 ≤ 4 ∧ p2 ≤ 4 ∧ p3 ≤ 4 ∧ p4 ≤ 4 ∧ p5 ≤ 4 ∧ p6 ≤ 4 ∧ p7 ≤ 4 ∧ p8 ≤ 4 ∧ p9 ≤ 4 ∧ p10 ≤ 4 ∧ p11 ≤ 4 ∧ p12 ≤ 4 ∧ p13 ≤ 4 ∧ p14 ≤ 4 ∧ p15 ≤ 4 ∧ PP 16 x = p0 + 16 * (p1 + 16 * (p2 + 16 * (p3 + 16 * (p4 + 16 * (p5 + 16 * (p6 + 16 * (p7 + 16 * (p8 + 16 * (p9 + 16 * (p10 + 16 * (p11 + 16 * (p12 + 16 * (p13 + 16 * (p14 + 16 * (p15))))))))))))))) ∧ pc x 64 = p0 + p1 + p2 + p3 + p4 + p5 + p6 + p7 + p8 + p9 + p10 + p11 + p12 + p13 + p14 + p15 := by
  have r0 := PP_rec 15 (x)
  have c0 := pc_rec (x) 60
  have l0 := pop4_le (x % 16) (by omega)
  have r1 := PP_rec 14 (x / 16)
  have c1 := pc_rec (x / 16) 56
  have l1 := pop4_le (x / 16 % 16) (by omega)
  have r2 := PP_rec 13 (x / 16 / 16)
  have c2 := pc_rec (x / 16 / 16) 52
  have l2 := pop4_le (x / 16 / 16 % 16) (by omega)
  have r3 := PP_rec 12 (x / 16 / 16 / 16)
  have c3 := pc_rec (x / 16 / 16 / 16) 48
  have l3 := pop4_le (x / 16 / 16 / 16 % 16) (by omega)
  have r4 := PP_rec 11 (x / 16 / 16 / 16 / 16)
  have c4 := pc_rec (x / 16 / 16 / 16 / 16) 44
  have l4 := pop4_le (x / 16 / 16 / 16 / 16 % 16) (by omega)
  have r5 := PP_rec 10 (x / 16 / 16 / 16 / 16 / 16)
  have c5 := pc_rec (x / 16 / 16 / 16 / 16 / 16) 40
  have l5 := pop4_le (x / 16 / 16 / 16 / 16 / 16 % 16) (by omega)
  have r6 := PP_rec 9 (x / 16 / 16 / 16 / 16 / 16 / 16)
  have c6 := pc_rec (x / 16 / 16 / 16 / 16 / 16 / 16) 36
  have l6 := pop4_le (x / 16 / 16 / 16 / 16 / 16 / 16 % 16) (by omega)
  have r7 := PP_rec 8 (x / 16 / 16 / 16 / 16 / 16 / 16 / 16)
  have c7 := pc_rec (x / 16 / 16 / 16 / 16 / 16 / 16 / 16) 32
  have l7 := pop4_le (x / 16 / 16 / 16 / 16 / 16 / 16 / 16 % 16) (by omega)
  have r8 := PP_rec 7 (x / 16 / 16 / 16 / 16 / 16 / 16 / 16 / 16)
  have c8 := pc_rec (x / 16 / 16 / 16 / 16 / 16 / 16 / 16 / 16) 28
  have l8 := pop4_le (x / 16 / 16 / 16 / 16 / 16 / 16 / 16 / 16 % 16) (by omega)
  have r9 := PP_rec 6 (x / 16 / 16 / 16 / 16 / 16 / 16 / 16 / 16 / 16)
  have c9 := pc_rec (x / 16 / 16 / 16 / 16 / 16 / 16 / 16 / 16 / 16) 24
  have l9 := pop4_le (x / 16 / 16 / 16 / 16 / 16 / 16 / 16 / 16 / 16 % 16) (by omega)
  have r10 := PP_rec 5 (x / 16 / 16 / 16 / 16 / 16 / 16 / 16 / 16 / 16 / 16)
  have c10 := pc_rec (x / 16 / 16 / 16 / 16 / 16 / 16 / 16 / 16 / 16 / 16) 20
  have l10 := pop4_le (x / 16 / 16 / 16 / 16 / 16 / 16 / 16 / 16 / 16 / 16 % 16) (by omega)
  have r11 := PP_rec 4 (x / 16 / 16 / 16 / 16 / 16 / 16 / 16 / 16 / 16 / 16 / 16)
  have c11 := pc_rec (x / 16 / 16 / 16 / 16 / 16 / 16 / 16 / 16 / 16 / 16 / 16) 16
  have l11 := pop4_le (x / 16 / 16 / 16 / 16 / 16 / 16 / 16 / 16 / 16 / 16 / 16 % 16) (by omega)
  have r12 := PP_rec 3 (x / 16 / 16 / 16 / 16 / 16 / 16 / 16 / 16 / 16 / 16 / 16 / 16)
  have c12 := pc_rec (x / 16 / 16 / 16 / 16 / 16 / 16 / 16 / 16 / 16 / 16 / 16 / 16) 12
  have l12 := pop4_le (x / 16 / 16 / 16 / 16 / 16 / 16 / 16 / 16 / 16 / 16 / 16 / 16 % 16) (by omega)
  have r13 := PP_rec 2 (x / 16 / 16 / 16 / 16 / 16 / 16 / 16 / 16 / 16 / 16 / 16 / 16 / 16)
  have c13 := pc_rec (x / 16 / 16 / 16 / 16 / 16 / 16 / 16 / 16 / 16 / 16 / 16 / 16 / 16) 8
  have l13 := pop4_le (x / 16 / 16 / 16 / 16 / 16 / 16 / 16 / 16 / 16 / 16 / 16 / 16 / 16 % 16) (by omega)
  have r14 := PP_rec 1 (x / 16 / 16 / 16 / 16 / 16 / 16 / 16 / 16 / 16 / 16 / 16 / 16 / 16 / 16)
  have c14 := pc_rec (x / 16 / 16 / 16 / 16 / 16 / 16 / 16 / 16 / 16 / 16 / 16 / 16 / 16 / 16) 4
  have l14 := pop4_le (x / 16 / 16 / 16 / 16 / 16 / 16 / 16 / 16 / 16 / 16 / 16 / 16 / 16 / 16 % 16) (by omega)
  have r15 := PP_rec 0 (x / 16 / 16 / 16 / 16 / 16 / 16 / 16 / 16 / 16 / 16 / 16 / 16 / 16 / 16 / 16)
  have c15 := pc_rec (x / 16 / 16 / 16 / 16 / 16 / 16 / 16 / 16 / 16 / 16 / 16 / 16 / 16 / 16 / 16) 0
  have l15 := pop4_le (x / 16 / 16 / 16 / 16 / 16 / 16 / 16 / 16 / 16 / 16 / 16 / 16 / 16 / 16 / 16 % 16) (by omega)
  have z1 : PP 0 (x / 16 / 16 / 16 / 16 / 16 / 16 / 16 / 16 / 16 / 16 / 16 / 16 / 16 / 16 / 16 / 16) = 0 := by unfold PP S2 M3; simp
  have z2 : pc (x / 16 / 16 / 16 / 16 / 16 / 16 / 16 / 16 / 16 / 16 / 16 / 16 / 16 / 16 / 16 / 16) 0 = 0 := rfl
  generalize pop4 (x % 16) = q0 at *
  generalize pop4 (x / 16 % 16) = q1 at *
  generalize pop4 (x / 16 / 16 % 16) = q2 at *
  generalize pop4 (x / 16 / 16 / 16 % 16) = q3 at *
  generalize pop4 (x / 16 / 16 / 16 / 16 % 16) = q4 at *
  generalize pop4 (x / 16 / 16 / 16 / 16 / 16 % 16) = q5 at *
  generalize pop4 (x / 16 / 16 / 16 / 16 / 16 / 16 % 16) = q6 at *
  generalize pop4 (x / 16 / 16 / 16 / 16 / 16 / 16 / 16 % 16) = q7 at *
  generalize pop4 (x / 16 / 16 / 16 / 16 / 16 / 16 / 16 / 16 % 16) = q8 at *
  generalize pop4 (x / 16 / 16 / 16 / 16 / 16 / 16 / 16 / 16 / 16 % 16) = q9 at *
  generalize pop4 (x / 16 / 16 / 16 / 16 / 16 / 16 / 16 / 16 / 16 / 16 % 16) = q10 at *
  generalize pop4 (x / 16 / 16 / 16 / 16 / 16 / 16 / 16 / 16 / 16 / 16 / 16 % 16) = q11 at *
  generalize pop4 (x / 16 / 16 / 16 / 16 / 16 / 16 / 16 / 16 / 16 / 16 / 16 / 16 % 16) = q12 at *
  generalize pop4 (x / 16 / 16 / 16 / 16 / 16 / 16 / 16 / 16 / 16 / 16 / 16 / 16 / 16 % 16) = q13 at *
  generalize pop4 (x / 16 / 16 / 16 / 16 / 16 / 16 / 16 / 16 / 16 / 16 / 16 / 16 / 16 / 16 % 16) = q14 at *
  generalize pop4 (x / 16 / 16 / 16 / 16 / 16 / 16 / 16 / 16 / 16 / 16 / 16 / 16 / 16 / 16 / 16 % 16) = q15 at *
  simp only [Nat.reduceAdd] at r0 c0 r1 c1 r2 c2 r3 c3 r4 c4 r5 c5 r6 c6 r7 c7 r8 c8 r9 c9 r10 c10 r11 c11 r12 c12 r13 c13 r14 c14 r15 c15
  refine ⟨q0, q1, q2, q3, q4, q5, q6, q7, q8, q9, q10, q11, q12, q13, q14, q15, l0, l1, l2, l3, l4, l5, l6, l7, l8, l9, l10, l11, l12, l13, l14, l15, ?_, ?_⟩
  · rw [r0, r1, r2, r3, r4, r5, r6, r7, r8, r9, r10, r11, r12, r13, r14, r15, z1, Nat.mul_zero, Nat.add_zero]
  · rw [c0, c1, c2, c3, c4, c5, c6, c7, c8, c9, c10, c11, c12, c13, c14, c15, z2]
    simp only [Nat.add_assoc, Nat.add_zero]
theorem m8 (n a b V : Nat) (ha : a < 16) (hb : b < 16) : (a + 16 * (b + 16 * V)) &&& M8 (n + 1) = a + 256 * (V &&& M8 n) := by
  rw [M8_rec, show (a + 16 * (b + 16 * V)) % 16 = a by omega, show (a + 16 * (b + 16 * V)) / 256 = V by omega]
theorem m8e (a b : Nat) (ha : a < 16) : (a + 16 * (0 + b)) &&& M8 1 = a := by
  rw [M8_rec, show M8 0 = 0 from rfl, Nat.and_zero]
  omega
theorem sh1 (a T : Nat) (ha : a < 256) : (a + 256 * T) / 256 = T := by omega
theorem sh2 (a b T : Nat) (ha : a < 256) (hb : b < 256) : (a + 256 * (b + 256 * T)) / 65536 = T := by omega
theorem sh4 (a b c d T : Nat) (ha : a < 256) (hb : b < 256) (hc : c < 256) (hd : d < 256) : (a + 256 * (b + 256 * (c + 256 * (d + 256 * T)))) / 4294967296 = T := by omega
theorem ad256 (a b T U : Nat) : (a + 256 * T) + (b + 256 * U) = (a + b) + 256 * (T + U) := by omega
theorem shr16 (a T : Nat) (ha : a < 16) : (a + 16 * T) / 16 = T := by omega
theorem add16 (a b T U : Nat) : (b + 16 * T) + (a + 16 * U) = (a + b) + 16 * (T + U) := by omega
theorem step3 (p0 p1 p2 p3 p4 p5 p6 p7 p8 p9 p10 p11 p12 p13 p14 p15 z : Nat) (h0 : p0 ≤ 4) (h1 : p1 ≤ 4) (h2 : p2 ≤ 4) (h3 : p3 ≤ 4) (h4 : p4 ≤ 4) (h5 : p5 ≤ 4) (h6 : p6 ≤ 4) (h7 : p7 ≤ 4) (h8 : p8 ≤ 4) (h9 : p9 ≤ 4) (h10 : p10 ≤ 4) (h11 : p11 ≤ 4) (h12 : p12 ≤ 4) (h13 : p13 ≤ 4) (h14 : p14 ≤ 4) (h15 : p15 ≤ 4) (hz : z = p0 + 16 * (p1 + 16 * (p2 + 16 * (p3 + 16 * (p4 + 16 * (p5 + 16 * (p6 + 16 * (p7 + 16 * (p8 + 16 * (p9 + 16 * (p10 + 16 * (p11 + 16 * (p12 + 16 * (p13 + 16 * (p14 + 16 * (p15)))))))))))))))) : (z / 16 + z &&& 1085102592571150095) = (p0 + p1) + 256 * ((p2 + p3) + 256 * ((p4 + p5) + 256 * ((p6 + p7) + 256 * ((p8 + p9) + 256 * ((p10 + p11) + 256 * ((p12 + p13) + 256 * ((p14 + p15)))))))) := by
  have e : z / 16 = p1 + 16 * (p2 + 16 * (p3 + 16 * (p4 + 16 * (p5 + 16 * (p6 + 16 * (p7 + 16 * (p8 + 16 * (p9 + 16 * (p10 + 16 * (p11 + 16 * (p12 + 16 * (p13 + 16 * (p14 + 16 * (p15)))))))))))))) := by rw [hz]; exact shr16 _ _ (by omega)
  have e' : p1 + 16 * (p2 + 16 * (p3 + 16 * (p4 + 16 * (p5 + 16 * (p6 + 16 * (p7 + 16 * (p8 + 16 * (p9 + 16 * (p10 + 16 * (p11 + 16 * (p12 + 16 * (p13 + 16 * (p14 + 16 * (p15)))))))))))))) = p1 + 16 * (p2 + 16 * (p3 + 16 * (p4 + 16 * (p5 + 16 * (p6 + 16 * (p7 + 16 * (p8 + 16 * (p9 + 16 * (p10 + 16 * (p11 + 16 * (p12 + 16 * (p13 + 16 * (p14 + 16 * (p15 + 16 * (0))))))))))))))) := by simp only [Nat.mul_zero, Nat.add_zero]
  rw [e, e', hz]
  simp only [add16]
  rw [← M8_8]
  rw [m8 7 _ _ _ (by omega) (by omega)]
  rw [m8 6 _ _ _ (by omega) (by omega)]
  rw [m8 5 _ _ _ (by omega) (by omega)]
  rw [m8 4 _ _ _ (by omega) (by omega)]
  rw [m8 3 _ _ _ (by omega) (by omega)]
  rw [m8 2 _ _ _ (by omega) (by omega)]
  rw [m8 1 _ _ _ (by omega) (by omega)]
  rw [m8e _ _ (by omega)]
theorem step4 (b0 b1 b2 b3 b4 b5 b6 b7 y : Nat) (h0 : b0 ≤ 8) (h1 : b1 ≤ 8) (h2 : b2 ≤ 8) (h3 : b3 ≤ 8) (h4 : b4 ≤ 8) (h5 : b5 ≤ 8) (h6 : b6 ≤ 8) (h7 : b7 ≤ 8) (hy : y = b0 + 256 * (b1 + 256 * (b2 + 256 * (b3 + 256 * (b4 + 256 * (b5 + 256 * (b6 + 256 * (b7)))))))) : (y + y / 256 < 18446744073709551616) ∧ (y + y / 256 + (y + y / 256) / 65536 < 18446744073709551616) ∧ (y + y / 256 + (y + y / 256) / 65536 + (y + y / 256 + (y + y / 256) / 65536) / 4294967296 < 9223372036854775808) ∧ (y + y / 256 + (y + y / 256) / 65536 + (y + y / 256 + (y + y / 256) / 65536) / 4294967296) % 128 = b0 + b1 + b2 + b3 + b4 + b5 + b6 + b7 := by
  have e1 : y / 256 = b1 + 256 * (b2 + 256 * (b3 + 256 * (b4 + 256 * (b5 + 256 * (b6 + 256 * (b7)))))) := by rw [hy]; exact sh1 _ _ (by omega)
  obtain ⟨y1, hy1⟩ : ∃ y1, y + y / 256 = y1 := ⟨_, rfl⟩
  have f1 : y1 = (b0 + b1) + 256 * ((b1 + b2) + 256 * ((b2 + b3) + 256 * ((b3 + b4) + 256 * ((b4 + b5) + 256 * ((b5 + b6) + 256 * ((b6 + b7) + 256 * (b7))))))) := by omega
  rw [hy1]
  have e2 : y1 / 65536 = (b2 + b3) + 256 * ((b3 + b4) + 256 * ((b4 + b5) + 256 * ((b5 + b6) + 256 * ((b6 + b7) + 256 * (b7))))) := by rw [f1]; exact sh2 _ _ _ (by omega) (by omega)
  obtain ⟨y2, hy2⟩ : ∃ y2, y1 + y1 / 65536 = y2 := ⟨_, rfl⟩
  have f2 : y2 = (b0 + b1 + (b2 + b3)) + 256 * ((b1 + b2 + (b3 + b4)) + 256 * ((b2 + b3 + (b4 + b5)) + 256 * ((b3 + b4 + (b5 + b6)) + 256 * ((b4 + b5 + (b6 + b7)) + 256 * ((b5 + b6 + b7) + 256 * ((b6 + b7) + 256 * (b7))))))) := by omega
  rw [hy2]
  have e3 : y2 / 4294967296 = (b4 + b5 + (b6 + b7)) + 256 * ((b5 + b6 + b7) + 256 * ((b6 + b7) + 256 * (b7))) := by rw [f2]; exact sh4 _ _ _ _ _ (by omega) (by omega) (by omega) (by omega)
  have k1 : y1 < 18446744073709551616 := by rw [f1]; clear hy e1 hy1 f1 e2 hy2 f2 e3; omega
  have k2 : y2 < 18446744073709551616 := by rw [f2]; clear hy e1 hy1 f1 e2 hy2 f2 e3 k1; omega
  refine ⟨k1, k2, ?_⟩
  rw [e3, f2]
  clear hy e1 hy1 f1 e2 hy2 f2 e3
  refine ⟨?_, ?_⟩
  · clear k1 k2; omega
  · clear k1 k2; omega
theorem bits_and_i64_nat (a b : Nat) (ha : a < 9223372036854775808) (hb : b < 9223372036854775808) : bits .and .i64 (a : Int) (b : Int) = ((a &&& b : Nat) : Int) := by
  have hx : a &&& b ≤ a := Nat.and_le_left
  have h1 : (BitVec.ofInt 64 (a : Int)).toNat = a := by
    rw [BitVec.ofInt_natCast, BitVec.toNat_ofNat]; exact Nat.mod_eq_of_lt (by omega)
  have h2 : (BitVec.ofInt 64 (b : Int)).toNat = b := by
    rw [BitVec.ofInt_natCast, BitVec.toNat_ofNat]; exact Nat.mod_eq_of_lt (by omega)
  show IntKind.i64.wrap ((BitVec.ofInt 64 (a : Int) &&& BitVec.ofInt 64 (b : Int)).toNat : Int) = _
  rw [BitVec.toNat_and, h1, h2, IntKind.wrap_i64]
  omega
theorem hor {p T B : Nat} (hp : p ≤ 4) (h : T < B) : p + 16 * T < 16 * B := by omega
theorem ones_all (x : Nat) (hx : x < 18446744073709551616) : ∃ z y : Nat, S2 16 (S1 16 x) = z ∧ (z / 16 + z &&& 1085102592571150095) = y ∧ (y + y / 256 < 18446744073709551616) ∧ (y + y / 256 + (y + y / 256) / 65536 < 18446744073709551616) ∧ (y + y / 256 + (y + y / 256) / 65536 + (y + y / 256 + (y + y / 256) / 65536) / 4294967296 < 9223372036854775808) ∧ (y + y / 256 + (y + y / 256) / 65536 + (y + y / 256 + (y + y / 256) / 65536) / 4294967296) % 128 = pc x 64 ∧ z / 16 + z < 18446744073709551616 := by
  obtain ⟨p0, p1, p2, p3, p4, p5, p6, p7, p8, p9, p10, p11, p12, p13, p14, p15, h0, h1, h2, h3, h4, h5, h6, h7, h8, h9, h10, h11, h12, h13, h14, h15, hz, hp⟩ := digits x hx
  have s3 := step3 _ _ _ _ _ _ _ _ _ _ _ _ _ _ _ _ (PP 16 x) h0 h1 h2 h3 h4 h5 h6 h7 h8 h9 h10 h11 h12 h13 h14 h15 hz
  obtain ⟨a, b, c, d⟩ := step4 (p0 + p1) (p2 + p3) (p4 + p5) (p6 + p7) (p8 + p9) (p10 + p11) (p12 + p13) (p14 + p15) _ (Nat.add_le_add h0 h1) (Nat.add_le_add h2 h3) (Nat.add_le_add h4 h5) (Nat.add_le_add h6 h7) (Nat.add_le_add h8 h9) (Nat.add_le_add h10 h11) (Nat.add_le_add h12 h13) (Nat.add_le_add h14 h15) rfl
  have hl : PP 16 x < 9223372036854775808 := by
    rw [hz]
    clear hz hp s3 a b c d
    exact Nat.lt_of_lt_of_le (hor h0 (hor h1 (hor h2 (hor h3 (hor h4 (hor h5 (hor h6 (hor h7 (hor h8 (hor h9 (hor h10 (hor h11 (hor h12 (hor h13 (hor h14 ((by omega : p15 < 8))))))))))))))))) (by decide)
  refine ⟨PP 16 x, _, rfl, s3, a, b, c, ?_, by clear hz hp s3 a b c d; omega⟩
  rw [d, hp]
  simp only [Nat.add_assoc]
theorem S1_in (x : Nat) (hx : x < 18446744073709551616) : (x / 2 &&& 6148914691236517205) + (x &&& 6148914691236517205) = S1 16 x ∧ S1 16 x < 18446744073709551616 := by
  unfold S1
  rw [M5_16]
  have a := Nat.and_le_right (n := x / 2) (m := 6148914691236517205)
  have b := Nat.and_le_right (n := x) (m := 6148914691236517205)
  exact ⟨rfl, by omega⟩
theorem S2_in (x : Nat) (hx : x < 18446744073709551616) : (x / 4 &&& 3689348814741910323) + (x &&& 3689348814741910323) = S2 16 x ∧ S2 16 x < 18446744073709551616 := by
  unfold S2
  rw [M3_16]
  have a := Nat.and_le_right (n := x / 4) (m := 3689348814741910323)
  have b := Nat.and_le_right (n := x) (m := 3689348814741910323)
  exact ⟨rfl, by omega⟩
set_option maxRecDepth 100000 in
set_option maxHeartbeats 2000000 in
theorem ones_c (x : Nat) (hx : x < 18446744073709551616) (w : World) :
    Calls Tryd.prog 19 #[.int .u64 (x : Int)] w fun r w' => r = .returned (.int .i64 ((pc x 64 : Nat) : Int)) ∧ w = w' := by
  obtain ⟨z, y, hz, hy, a, b, c, d, e⟩ := ones_all x hx
  obtain ⟨i1, i2⟩ := S1_in x hx
  obtain ⟨j1, j2⟩ := S2_in (S1 16 x) i2
  rw [hz] at j1 j2
  obtain ⟨s, hs⟩ : ∃ s, S1 16 x = s := ⟨_, rfl⟩
  rw [hs] at i1 i2 j1
  have A1 := bits_and_u64_nat (x / 2) 6148914691236517205 (by omega) (by omega)
  have A2 := bits_and_u64_nat x 6148914691236517205 (by omega) (by omega)
  have A3 := bits_and_u64_nat (s / 4) 3689348814741910323 (by omega) (by omega)
  have A4 := bits_and_u64_nat s 3689348814741910323 (by omega) (by omega)
  have A5 := bits_and_u64_nat (z / 16 + z) 1085102592571150095 (by omega) (by omega)
  rw [show ((6148914691236517205 : Nat) : Int) = 6148914691236517205 from rfl] at A1 A2
  rw [show ((3689348814741910323 : Nat) : Int) = 3689348814741910323 from rfl] at A3 A4
  rw [show ((1085102592571150095 : Nat) : Int) = 1085102592571150095 from rfl] at A5
  rw [hy] at A5
  generalize (x / 2 &&& 6148914691236517205) = u1 at *
  generalize (x &&& 6148914691236517205) = u2 at *
  generalize (s / 4 &&& 3689348814741910323) = u3 at *
  generalize (s &&& 3689348814741910323) = u4 at *
  obtain ⟨y1, hy1⟩ : ∃ y1, y + y / 256 = y1 := ⟨_, rfl⟩
  rw [hy1] at a b c d
  obtain ⟨y2, hy2⟩ : ∃ y2, y1 + y1 / 65536 = y2 := ⟨_, rfl⟩
  rw [hy2] at b c d
  obtain ⟨y3, hy3⟩ : ∃ y3, y2 + y2 / 4294967296 = y3 := ⟨_, rfl⟩
  rw [hy3] at c d
  have D1 : (x : Int) / 2 = ((x / 2 : Nat) : Int) := by omega
  have D3 : (s : Int) / 4 = ((s / 4 : Nat) : Int) := by omega
  obtain ⟨x2, hx2⟩ : ∃ x2, x / 2 = x2 := ⟨_, rfl⟩
  obtain ⟨s4, hs4⟩ : ∃ s4, s / 4 = s4 := ⟨_, rfl⟩
  obtain ⟨v, hv⟩ : ∃ v, z / 16 + z = v := ⟨_, rfl⟩
  obtain ⟨z4, hz4⟩ : ∃ z4, z / 16 = z4 := ⟨_, rfl⟩
  rw [hx2] at A1 D1
  rw [hs4] at A3 D3
  rw [hv] at A5
  have D4 : (z : Int) / 16 = (z4 : Int) := by omega
  have W1 : IntKind.u64.wrap ((u1 : Int) + (u2 : Int)) = (s : Int) := by rw [IntKind.wrap_u64]; omega
  have W2 : IntKind.u64.wrap ((u3 : Int) + (u4 : Int)) = (z : Int) := by rw [IntKind.wrap_u64]; omega
  have W3 : IntKind.u64.wrap ((z4 : Int) + (z : Int)) = (v : Int) := by rw [IntKind.wrap_u64]; omega
  obtain ⟨q1, hq1⟩ : ∃ q, y / 256 = q := ⟨_, rfl⟩
  obtain ⟨q2, hq2⟩ : ∃ q, y1 / 65536 = q := ⟨_, rfl⟩
  obtain ⟨q3, hq3⟩ : ∃ q, y2 / 4294967296 = q := ⟨_, rfl⟩
  have E1 : (y : Int) / 256 = (q1 : Int) := by omega
  have E2 : (y1 : Int) / 65536 = (q2 : Int) := by omega
  have E3 : (y2 : Int) / 4294967296 = (q3 : Int) := by omega
  have W4 : IntKind.u64.wrap ((y : Int) + (q1 : Int)) = (y1 : Int) := by rw [IntKind.wrap_u64]; omega
  have W5 : IntKind.u64.wrap ((y1 : Int) + (q2 : Int)) = (y2 : Int) := by rw [IntKind.wrap_u64]; omega
  have W6 : IntKind.u64.wrap ((y2 : Int) + (q3 : Int)) = (y3 : Int) := by rw [IntKind.wrap_u64]; omega
  have W7 : IntKind.i64.wrap (y3 : Int) = (y3 : Int) := by rw [IntKind.wrap_i64]; omega
  have A6 := bits_and_i64_nat y3 127 c (by omega)
  rw [show ((127 : Nat) : Int) = 127 from rfl, show (127 : Nat) = 2 ^ 7 - 1 by decide, Nat.and_two_pow_sub_one_eq_mod, show 2 ^ 7 = 128 by decide, d] at A6
  clear i1 i2 j1 j2 hs hy1 hy2 hy3 hx2 hs4 hv hz4 hq1 hq2 hq3 hz hy a b d e
  go_enter Tryd.func19, Tryd.ntmps19
  go_wp2_with fail
  go_ret
  exact ⟨rfl, rfl⟩
end Go.Proofs.Tryd
