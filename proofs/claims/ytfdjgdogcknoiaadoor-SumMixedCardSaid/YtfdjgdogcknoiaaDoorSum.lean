/- Layer 6, in theory: steps, sums. -/
import Derived.Test.YtfdjgdogcknoiaaDoorBase
namespace Go.Proofs.Tryd
def stp (b : BitVec 32) : BitVec 32 := (b <<< 1) ^^^ (if b.msb then 2168537515#32 else 0#32)
def stpN : Nat → BitVec 32 → BitVec 32 | 0, b => b | k + 1, b => stpN k (stp b)
theorem stp_zero : stp 0#32 = 0#32 := by decide
theorem xor4 (a b c d : BitVec 32) : (a ^^^ b) ^^^ (c ^^^ d) = (a ^^^ c) ^^^ (b ^^^ d) := by
  rw [BitVec.xor_assoc, ← BitVec.xor_assoc b, BitVec.xor_comm b c, BitVec.xor_assoc c, ← BitVec.xor_assoc]
theorem stp_xor (a b : BitVec 32) : stp (a ^^^ b) = stp a ^^^ stp b := by
  unfold stp
  rw [BitVec.shiftLeft_xor_distrib, BitVec.msb_xor]
  rw [xor4]
  congr 1
  cases a.msb <;> cases b.msb <;> simp
theorem stpN_zero (k : Nat) : stpN k 0#32 = 0#32 := by
  induction k with
  | zero => rfl
  | succ k ih => rw [stpN, stp_zero, ih]
theorem stpN_xor (k : Nat) : ∀ a b : BitVec 32, stpN k (a ^^^ b) = stpN k a ^^^ stpN k b := by
  induction k with
  | zero => intro a b; rfl
  | succ k ih => intro a b; rw [stpN, stp_xor, ih]; rfl
theorem stpN_add (i j : Nat) : ∀ b, stpN (i + j) b = stpN j (stpN i b) := by
  induction i with
  | zero => intro b; rw [Nat.zero_add]; rfl
  | succ i ih => intro b; rw [Nat.succ_add, stpN, ih]; rfl
theorem stp_toNat (b : BitVec 32) : (stp b).toNat = if 2147483648 ≤ b.toNat then (2 * b.toNat % 4294967296) ^^^ 2168537515 else 2 * b.toNat := by
  have h := b.isLt
  unfold stp
  rw [BitVec.msb_eq_decide]
  by_cases hb : 2147483648 ≤ b.toNat
  · rw [if_pos hb, if_pos (by simpa using hb)]
    rw [BitVec.toNat_xor, BitVec.toNat_shiftLeft, Nat.shiftLeft_eq]
    congr 1
    rw [Nat.mul_comm]
  · rw [if_neg hb, if_neg (by simpa using hb)]
    rw [BitVec.toNat_xor, BitVec.toNat_shiftLeft, Nat.shiftLeft_eq]
    show (b.toNat * 2 ^ 1 % 4294967296) ^^^ 0 = _
    rw [Nat.xor_zero]
    omega
theorem stp_inj0 (b : BitVec 32) (h : stp b = 0#32) : b = 0#32 := by
  apply BitVec.eq_of_toNat_eq
  have e := congrArg BitVec.toNat h
  rw [stp_toNat] at e
  have hl := b.isLt
  split at e
  · exfalso
    have h1 : (2 * b.toNat % 4294967296) = 2168537515 := by
      have e' : (2 * b.toNat % 4294967296) ^^^ 2168537515 = 0 := e
      have := congrArg (· ^^^ 2168537515) e'
      simpa [Nat.xor_assoc] using this
    omega
  · have e' : 2 * b.toNat = 0 := e
    show b.toNat = 0
    omega
theorem stpN_inj0 (k : Nat) : ∀ b, stpN k b = 0#32 → b = 0#32 := by
  induction k with
  | zero => intro b h; exact h
  | succ k ih => intro b h; exact stp_inj0 b (ih _ h)
/-- A byte is taken in. -/
def byteIn (b : BitVec 32) (x : UInt8) : BitVec 32 := stpN 8 (b ^^^ (BitVec.ofNat 32 (x.toNat * 16777216)))
def crc (b : BitVec 32) (l : List UInt8) : BitVec 32 := l.foldl byteIn b
theorem crc_app (b : BitVec 32) (l m : List UInt8) : crc b (l ++ m) = crc (crc b l) m := List.foldl_append
theorem byte_xor (x y : UInt8) : BitVec.ofNat 32 ((x ^^^ y).toNat * 16777216) = BitVec.ofNat 32 (x.toNat * 16777216) ^^^ BitVec.ofNat 32 (y.toNat * 16777216) := by
  apply BitVec.eq_of_toNat_eq
  have hx := UInt8.toNat_lt x
  have hy := UInt8.toNat_lt y
  rw [BitVec.toNat_xor, BitVec.toNat_ofNat, BitVec.toNat_ofNat, BitVec.toNat_ofNat, UInt8.toNat_xor]
  have e : ∀ n : Nat, n * 16777216 = n <<< 24 := fun n => by rw [Nat.shiftLeft_eq]
  rw [e, e, e, Nat.shiftLeft_xor_distrib, Nat.xor_mod_two_pow]
/-- Two rows of bytes, changed by one another. -/
def mixL (a b : List UInt8) : List UInt8 := List.zipWith (· ^^^ ·) a b
theorem crc_mix : ∀ (a b : List UInt8) (s t : BitVec 32), a.length = b.length → crc (s ^^^ t) (mixL a b) = crc s a ^^^ crc t b
  | [], [], s, t, _ => rfl
  | x :: a, y :: b, s, t, h => by
    show crc (byteIn (s ^^^ t) (x ^^^ y)) (mixL a b) = crc (byteIn s x) a ^^^ crc (byteIn t y) b
    rw [← crc_mix a b _ _ (by simpa using h)]
    congr 1
    unfold byteIn
    rw [byte_xor, ← stpN_xor, xor4]
  | [], _ :: _, _, _, h => by simp at h
  | _ :: _, [], _, _, h => by simp at h
/-- What four steps make of the highest four bits. -/
def tab : List Nat := [0, 2168537515, 2210644733, 42107734, 2261173329, 126322170, 84215468, 2219067143, 2362231049, 227379362, 252644340, 2387495519, 168430936, 2336967923, 2311704485, 143166990]
theorem low4 (l : Nat) (h : l < 268435456) : (stpN 4 (BitVec.ofNat 32 l)).toNat = 16 * l := by
  have h0 : (BitVec.ofNat 32 l).toNat = l := by rw [BitVec.toNat_ofNat]; omega
  have h1 : (stp (BitVec.ofNat 32 l)).toNat = 2 * l := by rw [stp_toNat, h0, if_neg (by omega)]
  have h2 : (stp (stp (BitVec.ofNat 32 l))).toNat = 2 * (2 * l) := by rw [stp_toNat, h1, if_neg (by omega)]
  have h3 : (stp (stp (stp (BitVec.ofNat 32 l)))).toNat = 2 * (2 * (2 * l)) := by rw [stp_toNat, h2, if_neg (by omega)]
  show (stp (stp (stp (stp (BitVec.ofNat 32 l))))).toNat = _
  rw [stp_toNat, h3, if_neg (by omega)]
  omega
theorem high4 : ∀ h : Fin 16, (stpN 4 (BitVec.ofNat 32 (h.val * 268435456))).toNat = tab.getD h.val 0 := by decide +kernel
theorem split28 (n : Nat) : n = (n / 268435456 * 268435456) ^^^ (n % 268435456) := by
  apply Nat.eq_of_testBit_eq
  intro i
  have e : n / 268435456 * 268435456 = 2 ^ 28 * (n / 2 ^ 28) := by rw [Nat.mul_comm]
  rw [Nat.testBit_xor, e, Nat.testBit_two_pow_mul, show (268435456 : Nat) = 2 ^ 28 from rfl, Nat.testBit_mod_two_pow]
  by_cases hi : i < 28
  · simp [hi, show ¬ 28 ≤ i by omega]
  · have e2 : (n / 2 ^ 28).testBit (i - 28) = n.testBit i := by
      rw [← Nat.shiftRight_eq_div_pow, Nat.testBit_shiftRight]
      congr 1
      omega
    rw [e2]
    simp [hi, show 28 ≤ i by omega]
theorem four (b : BitVec 32) : (stpN 4 b).toNat = (b.toNat * 16 % 4294967296) ^^^ tab.getD (b.toNat / 268435456) 0 := by
  have hl := b.isLt
  have hb : b = BitVec.ofNat 32 (b.toNat / 268435456 * 268435456) ^^^ BitVec.ofNat 32 (b.toNat % 268435456) := by
    apply BitVec.eq_of_toNat_eq
    rw [BitVec.toNat_xor, BitVec.toNat_ofNat, BitVec.toNat_ofNat, Nat.mod_eq_of_lt (by omega), Nat.mod_eq_of_lt (by omega)]
    exact split28 _
  have h1 := high4 ⟨b.toNat / 268435456, by omega⟩
  have h2 := low4 (b.toNat % 268435456) (Nat.mod_lt _ (by omega))
  have e : stpN 4 b = stpN 4 (BitVec.ofNat 32 (b.toNat / 268435456 * 268435456)) ^^^ stpN 4 (BitVec.ofNat 32 (b.toNat % 268435456)) := by
    rw [← stpN_xor, ← hb]
  rw [e, BitVec.toNat_xor, h2, Nat.xor_comm]
  have h3 : 16 * (b.toNat % 268435456) = b.toNat * 16 % 4294967296 := by omega
  rw [h3]
  congr 1
end Go.Proofs.Tryd
