/- Bursts, in theory. -/
import Derived.Test.YtfdjgdogcknoiaaDoorSum5
namespace Go.Proofs.Tryd
set_option linter.unusedVariables false
theorem stp_low (l : Nat) (h : l < 2147483648) : stp (BitVec.ofNat 32 l) = BitVec.ofNat 32 (2 * l) := by
  apply BitVec.eq_of_toNat_eq
  have h0 : (BitVec.ofNat 32 l).toNat = l := by rw [BitVec.toNat_ofNat]; omega
  rw [stp_toNat, h0, if_neg (by omega), BitVec.toNat_ofNat]
  omega
theorem stpN_low : ∀ (k l : Nat), l * 2 ^ k < 4294967296 → stpN k (BitVec.ofNat 32 l) = BitVec.ofNat 32 (l * 2 ^ k)
  | 0, l, _ => by rw [Nat.pow_zero, Nat.mul_one]; rfl
  | k + 1, l, h => by
    have h1 : l * 2 ^ (k + 1) = 2 * l * 2 ^ k := by rw [Nat.pow_succ, Nat.mul_comm (2 ^ k) 2, ← Nat.mul_assoc, Nat.mul_comm l 2]
    have h2 : 2 * l < 4294967296 := Nat.lt_of_le_of_lt (Nat.le_mul_of_pos_right _ (Nat.two_pow_pos k)) (by rw [← h1]; exact h)
    rw [stpN, stp_low l (by omega), stpN_low k (2 * l) (by rw [← h1]; exact h), h1]
theorem xor_parts (a b : Nat) (k : Nat) (h : b < 2 ^ k) : (a * 2 ^ k) ^^^ b = a * 2 ^ k + b := by
  apply Nat.eq_of_testBit_eq
  intro i
  have e : a * 2 ^ k + b = 2 ^ k * a + b := by rw [Nat.mul_comm]
  rw [Nat.testBit_xor, e, Nat.testBit_two_pow_mul_add _ h, Nat.mul_comm, Nat.testBit_two_pow_mul]
  by_cases hi : i < k
  · simp [hi, show ¬ k ≤ i by omega]
  · have : b.testBit i = false := Nat.testBit_lt_two_pow (Nat.lt_of_lt_of_le h (Nat.pow_le_pow_right (by omega) (by omega)))
    simp [hi, show k ≤ i by omega, this]
theorem ofNat_xor (a b : Nat) (ha : a < 4294967296) (hb : b < 4294967296) : BitVec.ofNat 32 a ^^^ BitVec.ofNat 32 b = BitVec.ofNat 32 (a ^^^ b) := by
  apply BitVec.eq_of_toNat_eq
  have : a ^^^ b < 2 ^ 32 := Nat.xor_lt_two_pow ha hb
  rw [BitVec.toNat_xor, BitVec.toNat_ofNat, BitVec.toNat_ofNat, BitVec.toNat_ofNat, Nat.mod_eq_of_lt (by omega), Nat.mod_eq_of_lt (by omega), Nat.mod_eq_of_lt this]
theorem u8n (n : Nat) : (UInt8.ofNat (n % 256)).toNat = n % 256 := by simp
/-- Four bytes are taken in at once. -/
theorem crc_be4 (s : BitVec 32) (n : Nat) (hn : n < 4294967296) : crc s (be4 n) = stpN 32 (s ^^^ BitVec.ofNat 32 n) := by
  show byteIn (byteIn (byteIn (byteIn s _) _) _) _ = _
  unfold byteIn
  rw [u8n, u8n, u8n, u8n]
  have m1 : BitVec.ofNat 32 (n / 65536 % 256 * 16777216) = stpN 8 (BitVec.ofNat 32 (n / 65536 % 256 * 65536)) := by
    rw [stpN_low 8 _ (by omega), show n / 65536 % 256 * 65536 * 2 ^ 8 = n / 65536 % 256 * 16777216 by omega]
  have m2 : BitVec.ofNat 32 (n / 256 % 256 * 16777216) = stpN 16 (BitVec.ofNat 32 (n / 256 % 256 * 256)) := by
    rw [stpN_low 16 _ (by omega), show n / 256 % 256 * 256 * 2 ^ 16 = n / 256 % 256 * 16777216 by omega]
  have m3 : BitVec.ofNat 32 (n % 256 * 16777216) = stpN 24 (BitVec.ofNat 32 (n % 256)) := by
    rw [stpN_low 24 _ (by omega)]
  rw [m1, ← stpN_xor, ← stpN_add, m2, ← stpN_xor, ← stpN_add, m3, ← stpN_xor, ← stpN_add]
  congr 1
  rw [BitVec.xor_assoc, BitVec.xor_assoc, BitVec.xor_assoc]
  congr 1
  rw [ofNat_xor _ _ (by omega) (by omega)]
  have e1 := xor_parts (n / 256 % 256) (n % 256) 8 (Nat.mod_lt _ (by omega))
  have e2 := xor_parts (n / 65536 % 256) (n % 65536) 16 (Nat.mod_lt _ (by omega))
  have e3 := xor_parts (n / 16777216 % 256) (n % 16777216) 24 (Nat.mod_lt _ (by omega))
  have r1 : n / 256 % 256 * 256 ^^^ n % 256 = n % 65536 := by
    have : n / 256 % 256 * 2 ^ 8 + n % 256 = n % 65536 := by omega
    rw [← this, ← e1]
  rw [r1, ofNat_xor _ _ (by omega) (by omega)]
  have r2 : n / 65536 % 256 * 65536 ^^^ n % 65536 = n % 16777216 := by
    have : n / 65536 % 256 * 2 ^ 16 + n % 65536 = n % 16777216 := by omega
    rw [← this, ← e2]
  rw [r2, ofNat_xor _ _ (by omega) (by omega)]
  have r3 : n / 16777216 % 256 * 16777216 ^^^ n % 16777216 = n := by
    have : n / 16777216 % 256 * 2 ^ 24 + n % 16777216 = n := by omega
    rw [← e3] at this
    exact this
  rw [r3]
theorem crc_zeros (k : Nat) : ∀ s, crc s (List.replicate k 0) = stpN (8 * k) s := by
  induction k with
  | zero => intro s; rfl
  | succ k ih =>
    intro s
    rw [List.replicate_succ]
    show crc (byteIn s 0) _ = _
    rw [ih, show 8 * (k + 1) = 8 + 8 * k by omega, stpN_add]
    congr 1
    unfold byteIn
    show stpN 8 (s ^^^ 0#32) = _
    simp
theorem crc_lin : ∀ (l : List UInt8) (s t : BitVec 32), crc (s ^^^ t) l = crc s l ^^^ stpN (8 * l.length) t
  | [], s, t => rfl
  | x :: l, s, t => by
    show crc (byteIn (s ^^^ t) x) l = crc (byteIn s x) l ^^^ _
    have : byteIn (s ^^^ t) x = byteIn s x ^^^ stpN 8 t := by
      unfold byteIn
      rw [← stpN_xor]
      congr 1
      rw [BitVec.xor_assoc, BitVec.xor_comm t, ← BitVec.xor_assoc]
    rw [this, crc_lin l, List.length_cons, show 8 * (l.length + 1) = 8 + 8 * l.length by omega, stpN_add]
/-- One byte changed. -/
theorem crc_set : ∀ (l : List UInt8) (q : Nat) (y : UInt8) (s : BitVec 32), q < l.length → crc s (l.set q (l.getD q 0 ^^^ y)) = crc s l ^^^ stpN (8 * (l.length - q)) (BitVec.ofNat 32 (y.toNat * 16777216))
  | [], q, y, s, h => by simp at h
  | x :: l, 0, y, s, _ => by
    show crc (byteIn s (x ^^^ y)) l = crc (byteIn s x) l ^^^ _
    have : byteIn s (x ^^^ y) = byteIn s x ^^^ stpN 8 (BitVec.ofNat 32 (y.toNat * 16777216)) := by
      unfold byteIn
      rw [byte_xor, ← stpN_xor, BitVec.xor_assoc]
    rw [this, crc_lin, ← stpN_add]
    congr 2
    simp
    omega
  | x :: l, q + 1, y, s, h => by
    have ih := crc_set l q y (byteIn s x) (by simpa using h)
    show crc (byteIn s x) (l.set q (l.getD q 0 ^^^ y)) = crc (byteIn s x) l ^^^ _
    rw [ih]
    congr 2
    simp
/-- The bit of the k-th place. -/
def bitOf (k : Nat) : UInt8 := UInt8.ofNat (128 / 2 ^ (k % 8) % 256)
def flip (l : List UInt8) (k : Nat) : List UInt8 := l.set (k / 8) (l.getD (k / 8) 0 ^^^ bitOf k)
theorem flip_len (l : List UInt8) (k : Nat) : (flip l k).length = l.length := by unfold flip; rw [List.length_set]
def top : BitVec 32 := BitVec.ofNat 32 2147483648
theorem bit_top : ∀ r : Fin 8, stpN r.val (BitVec.ofNat 32 ((UInt8.ofNat (128 / 2 ^ r.val % 256)).toNat * 16777216)) = top := by decide +kernel
theorem crc_flip (l : List UInt8) (k : Nat) (s : BitVec 32) (h : k < 8 * l.length) : crc s (flip l k) = crc s l ^^^ stpN (8 * l.length - k) top := by
  unfold flip
  rw [crc_set _ _ _ _ (by omega)]
  congr 1
  have hb := bit_top ⟨k % 8, Nat.mod_lt _ (by omega)⟩
  rw [show 8 * (l.length - k / 8) = k % 8 + (8 * l.length - k) by omega, stpN_add]
  congr 1
/-- The places of a burst's first i bits. -/
def acc (B : Nat) : Nat → BitVec 32
  | 0 => 0#32
  | i + 1 => if B.testBit i then acc B i ^^^ BitVec.ofNat 32 (2 ^ (31 - i)) else acc B i
theorem top_of (i : Nat) (h : i ≤ 31) : stpN i (BitVec.ofNat 32 (2 ^ (31 - i))) = top := by
  have e : 2 ^ (31 - i) * 2 ^ i = 2147483648 := by rw [← Nat.pow_add, show 31 - i + i = 31 by omega]
  rw [stpN_low _ _ (by rw [e]; omega), e]; rfl
theorem flip_acc (c i : Nat) (h : i ≤ 31) : stpN (c + (32 - i)) top = stpN (c + 32) (BitVec.ofNat 32 (2 ^ (31 - i))) := by
  rw [← top_of i h, ← stpN_add]
  congr 1
  omega
theorem acc_bit (B : Nat) : ∀ i, i ≤ 32 → ∀ j, j < i → (acc B i).getLsbD (31 - j) = B.testBit j ∧ True
  | 0, _, j, hj => by omega
  | i + 1, hi, j, hj => by
    have low : ∀ k, k ≤ 31 - i → i ≤ 31 → (acc B i).getLsbD k = false := by
      have : ∀ m, m ≤ i → ∀ k, k < 32 - m → (acc B m).getLsbD k = false := by
        intro m
        induction m with
        | zero => intro _ k _; simp [acc]
        | succ m ih =>
          intro hm k hk
          rw [acc]
          split
          · rw [BitVec.getLsbD_xor, ih (by omega) k (by omega), BitVec.getLsbD_ofNat, Nat.testBit_two_pow]
            simp
            omega
          · exact ih (by omega) k (by omega)
      intro k hk h31
      exact this i (Nat.le_refl _) k (by omega)
    refine ⟨?_, trivial⟩
    rw [acc]
    rcases (by omega : j < i ∨ j = i) with h | rfl
    · have ih := (acc_bit B i (by omega) j h).1
      split
      · rw [BitVec.getLsbD_xor, ih, BitVec.getLsbD_ofNat, Nat.testBit_two_pow]
        have : ¬ (31 - i = 31 - j) := by omega
        simp [this]
      · exact ih
    · split
      · rename_i hb
        rw [BitVec.getLsbD_xor, low (31 - j) (Nat.le_refl _) (by omega), BitVec.getLsbD_ofNat, Nat.testBit_two_pow, hb]
        simp
        omega
      · rename_i hb
        rw [low (31 - j) (Nat.le_refl _) (by omega)]
        simpa using hb
theorem acc_zero (B : Nat) (hB : B < 4294967296) (h : acc B 32 = 0#32) : B = 0 := by
  apply Nat.eq_of_testBit_eq
  intro i
  rw [Nat.zero_testBit]
  by_cases hi : i < 32
  · rw [← (acc_bit B 32 (Nat.le_refl _) i hi).1, h]; simp
  · exact Nat.testBit_lt_two_pow (Nat.lt_of_lt_of_le hB (show 2 ^ 32 ≤ 2 ^ i from Nat.pow_le_pow_right (by omega) (by omega)))
/-- The first i bits of a burst, changed. -/
def burstL (m : List UInt8) (f B : Nat) : Nat → List UInt8
  | 0 => m
  | i + 1 => if B.testBit i then flip (burstL m f B i) (f + i) else burstL m f B i
theorem burstL_len (m : List UInt8) (f B : Nat) : ∀ i, (burstL m f B i).length = m.length
  | 0 => rfl
  | i + 1 => by
    rw [burstL]
    split
    · rw [flip_len, burstL_len]
    · exact burstL_len m f B i
theorem burstL_crc (m : List UInt8) (f B : Nat) (hf : f + 32 ≤ 8 * m.length) : ∀ i, i ≤ 32 → crc 0#32 (burstL m f B i) = crc 0#32 m ^^^ stpN (8 * m.length - f) (acc B i)
  | 0, _ => by
    show crc 0#32 m = crc 0#32 m ^^^ stpN _ 0#32
    rw [stpN_zero]; simp
  | i + 1, hi => by
    have ih := burstL_crc m f B hf i (by omega)
    rw [burstL, acc]
    split
    · rw [crc_flip _ _ _ (by rw [burstL_len]; omega), ih, BitVec.xor_assoc, burstL_len]
      congr 1
      rw [stpN_xor]
      congr 1
      have := flip_acc (8 * m.length - f - 32) i (by omega)
      rw [show 8 * m.length - (f + i) = 8 * m.length - f - 32 + (32 - i) by omega, this]
      congr 1
      omega
    · exact ih
theorem burstL_zero (m : List UInt8) (f : Nat) : ∀ i, burstL m f 0 i = m
  | 0 => rfl
  | i + 1 => by rw [burstL, Nat.zero_testBit, if_neg (by simp), burstL_zero m f i]

theorem crc_seal (l : List UInt8) : crc 0#32 (sealL l) = 0#32 := by
  unfold sealL
  rw [crc_app, crc_be4 _ _ (sumL_lt _)]
  have : BitVec.ofNat 32 (sumL (be4 l.length ++ l)) = crc 0#32 (be4 l.length ++ l) := by
    apply BitVec.eq_of_toNat_eq
    rw [BitVec.toNat_ofNat, Nat.mod_eq_of_lt (sumL_lt _)]; rfl
  rw [this, BitVec.xor_self, stpN_zero]
theorem open_burst (s : List UInt8) (f B : Nat) (hf : f + 32 ≤ 8 * (sealL s).length) (hB : B < 4294967296) : openL (burstL (sealL s) f B 32) = if B = 0 then some s else none := by
  by_cases h0 : B = 0
  · rw [if_pos h0, h0, burstL_zero, open_seal]
  · rw [if_neg h0]
    cases h : openL (burstL (sealL s) f B 32) with
    | none => rfl
    | some t =>
      have e := open_some _ t h
      have h1 := crc_seal t
      rw [e, burstL_crc _ f B hf 32 (Nat.le_refl _), crc_seal] at h1
      have h2 : stpN (8 * (sealL s).length - f) (acc B 32) = 0#32 := by simpa using h1
      exact absurd (acc_zero B hB (stpN_inj0 _ _ h2)) h0
end Go.Proofs.Tryd
