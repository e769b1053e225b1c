/- The walk of ThingHash. -/
import Derived.Test.YthijffdljoeelaaW9
import Derived.Laws.Concat
import Derived.Laws.Bits64
namespace Go.Proofs.Try
open Go.RowKit
set_option linter.unusedVariables false

/-- A text of one byte. -/
def one (a : Int) : ByteArray := ⟨#[UInt8.ofNat a.toNat]⟩
theorem one_bt (a : Int) (h0 : 0 ≤ a) (h1 : a < 256) : bt (one a) 0 = a := by
  have : (UInt8.ofNat a.toNat).toNat = a.toNat % 256 := by simp
  show ((UInt8.ofNat a.toNat).toNat : Int) = a
  rw [this]; omega
theorem conv_one (a : Int) (h0 : 0 ≤ a) (h1 : a < 256) (W : World) (g : Nat) (h : W.cell? ⟨g, 0, none⟩ = some (.int .u8 a)) :
    (convert 56 9 (.slice (some ⟨g, 0, none⟩) 1 1)).run Try.prog W = .ok (.string (one a)) W :=
  conv_bytes (one a) g 1 W (fun j hj => by
    have hj0 : j = 0 := by
      have : (one a).size = 1 := rfl
      omega
    subst hj0
    rw [h, one_bt a h0 h1])
theorem app_bt (s t : ByteArray) (i : Nat) : bt (s ++ t) i = if i < s.size then bt s i else bt t (i - s.size) := by
  unfold bt
  rw [ByteArray.data_append, Array.toList_append, List.getD_eq_getElem?_getD, List.getD_eq_getElem?_getD, List.getD_eq_getElem?_getD]
  have e : s.data.toList.length = s.size := by rw [← Lib.size_eq]
  by_cases h : i < s.size
  · rw [if_pos h, List.getElem?_append_left (by omega)]
  · rw [if_neg h, List.getElem?_append_right (by omega), e]
theorem hashN_app (s t : ByteArray) : ∀ k, k ≤ s.size → hashN (s ++ t) k = hashN s k
  | 0, _ => rfl
  | k + 1, h => by rw [hashN, hashN, hashN_app s t k (by omega), app_bt, if_pos (by omega)]
theorem hash_one (s : ByteArray) (a : Int) (h0 : 0 ≤ a) (h1 : a < 256) : hash (s ++ one a) = hashS (hash s) a := by
  have hz : (s ++ one a).size = s.size + 1 := by rw [ByteArray.size_append]; rfl
  unfold hash
  rw [hz, hashN, hashN_app s _ _ (Nat.le_refl _), app_bt, if_neg (by omega), Nat.sub_self, one_bt a h0 h1]
theorem mul_back (P Q M X : Nat) (hq : P * Q % M = 1) (h : X < M) : X * P % M * Q % M = X := by
  rw [Nat.mul_mod, Nat.mod_mod, ← Nat.mul_mod, Nat.mul_assoc, Nat.mul_mod, hq, Nat.mul_one, Nat.mod_mod, Nat.mod_eq_of_lt h]
theorem mul_inj' (P Q M X Y : Nat) (P' M' : Int) (hP : P' = (P : Int)) (hM : M' = (M : Int)) (hq : P * Q % M = 1) (hX : X < M) (hY : Y < M) (h : (X : Int) * P' % M' = (Y : Int) * P' % M') : X = Y := by
  subst hP hM
  have h2 : X * P % M = Y * P % M := by exact_mod_cast h
  rw [← mul_back P Q M X hq hX, h2, mul_back P Q M Y hq hY]
theorem mul_inj (X Y : Nat) (hX : X < 18446744073709551616) (hY : Y < 18446744073709551616) (h : (X : Int) * 1099511628211 % 18446744073709551616 = (Y : Int) * 1099511628211 % 18446744073709551616) : X = Y :=
  mul_inj' 1099511628211 14886173955864302971 18446744073709551616 X Y 1099511628211 18446744073709551616 rfl rfl (by decide) hX hY h
theorem hashS_inj (n a b : Int) (h0 : 0 ≤ n) (h1 : n < 18446744073709551616) (ha : 0 ≤ a) (ha' : a < 256) (hb : 0 ≤ b) (hb' : b < 256) (h : hashS n a = hashS n b) : a = b := by
  obtain ⟨N, rfl⟩ := Int.eq_ofNat_of_zero_le h0
  obtain ⟨A, rfl⟩ := Int.eq_ofNat_of_zero_le ha
  obtain ⟨B, rfl⟩ := Int.eq_ofNat_of_zero_le hb
  unfold hashS at h
  rw [bits_xor_u64_nat N A (by omega) (by omega), bits_xor_u64_nat N B (by omega) (by omega), IntKind.wrap_u64, IntKind.wrap_u64] at h
  have x1 : N ^^^ A < 18446744073709551616 := Nat.xor_lt_two_pow (n := 64) (by omega) (by omega)
  have x2 : N ^^^ B < 18446744073709551616 := Nat.xor_lt_two_pow (n := 64) (by omega) (by omega)
  have hx : N ^^^ A = N ^^^ B := mul_inj _ _ x1 x2 h
  have := congrArg (fun z => N ^^^ z) hx
  simp only [← Nat.xor_assoc, Nat.xor_self, Nat.zero_xor] at this
  omega

set_option maxRecDepth 100000 in
set_option maxHeartbeats 1000000 in
theorem walk_ThingHash (a0 : ByteArray) (a1 a2 : Int) (w0 : a0.size ≤ maxLen) (w1 : (Lit.int .u8 a1).wf = true) (w2 : (Lit.int .u8 a2).wf = true) (w : World) :
    Calls Try.prog 12 #[.string a0, .int .u8 a1, .int .u8 a2] w fun e w' => e = .returned (.bool true) ∧ Below w.heap.size w w' := by
  obtain ⟨h1, h1'⟩ := bounds_u8 w1
  obtain ⟨h2, h2'⟩ := bounds_u8 w2
  have u1 : a1 < 256 := by omega
  have u2 : a2 < 256 := by omega
  clear w1 w2
  by_cases c0 : a0.size ≤ 1000
  · have d0 : decide (1000 < (a0.size : Int)) = false := by simp; omega
    clear w0
    have hz1 : (one a1).size = 1 := rfl
    have hz2 : (one a2).size = 1 := rfl
    have H0 := hash_c a0 (by omega)
    have H1 := hash_c (a0 ++ one a1) (by rw [ByteArray.size_append, hz1]; omega)
    have H2 := hash_c (a0 ++ one a2) (by rw [ByteArray.size_append, hz2]; omega)
    rw [hash_one a0 a1 h1 u1] at H1
    rw [hash_one a0 a2 h2 u2] at H2
    obtain ⟨n0, n1⟩ := hash_in a0
    have hinj := hashS_inj (hash a0) a1 a2 n0 n1 h1 u1 h2 u2
    generalize hash a0 = n at *
    have hx1 : ∀ W, (Op.stringOp .add a0 (one a1)).run Try.prog W = .ok (.string (a0 ++ one a1)) W := fun W => run_string_add_sum _ _ _ (by rw [hz1]; omega)
    have hx2 : ∀ W, (Op.stringOp .add a0 (one a2)).run Try.prog W = .ok (.string (a0 ++ one a2)) W := fun W => run_string_add_sum _ _ _ (by rw [hz2]; omega)
    have hc1 := conv_one a1 h1 u1
    have hc2 := conv_one a2 h2 u2
    by_cases hab : a1 = a2
    · subst hab
      unfold hashS at H1
      go_enter Try.func12, Try.ntmps12
      go_wp2_with fail
      with_reducible refine (awake9 _).mono ?_
      rintro e w1 ⟨rfl, hb1⟩
      have hz3 := hb1.size
      go_wp2_with fail
      with_reducible refine (H0 _).mono ?_
      rintro e w' ⟨rfl, rfl⟩
      go_wp2_with fail
      with_reducible refine (H1 _).mono ?_
      rintro e w' ⟨rfl, rfl⟩
      go_wp2_with fail
      with_reducible refine (H1 _).mono ?_
      rintro e w' ⟨rfl, rfl⟩
      go_wp2_with fail
      go_ret
      exact ⟨by first | rfl | (simp; done), by (repeat' (first | (with_reducible exact Below.refl _ _) | (with_reducible assumption) | (with_reducible refine Below.alloc ?_ ?_ _) | (with_reducible refine Below.drew ?_) | (with_reducible refine Below_drewN ?_ _) | (with_reducible refine Below.setCell ?_ ?_ _) | (refine Below.step (B' := ?_) (b := ?_) ?_ ?_ ?_; rotate_left 2; (with_reducible assumption)) | go_size))⟩
    · have e1 : (a1 == a2) = false := by simpa using hab
      have e2 : (hashS n a1 == hashS n a2) = false := by simp; exact fun h => hab (hinj h)
      unfold hashS at H1 H2 e2
      go_enter Try.func12, Try.ntmps12
      go_wp2_with fail
      with_reducible refine (awake9 _).mono ?_
      rintro e w1 ⟨rfl, hb1⟩
      have hz3 := hb1.size
      go_wp2_with fail
      with_reducible refine (H0 _).mono ?_
      rintro e w' ⟨rfl, rfl⟩
      go_wp2_with fail
      with_reducible refine (H1 _).mono ?_
      rintro e w' ⟨rfl, rfl⟩
      go_wp2_with fail
      with_reducible refine (H2 _).mono ?_
      rintro e w' ⟨rfl, rfl⟩
      go_wp2_with fail
      go_ret
      exact ⟨by first | rfl | (simp; done), by (repeat' (first | (with_reducible exact Below.refl _ _) | (with_reducible assumption) | (with_reducible refine Below.alloc ?_ ?_ _) | (with_reducible refine Below.drew ?_) | (with_reducible refine Below_drewN ?_ _) | (with_reducible refine Below.setCell ?_ ?_ _) | (refine Below.step (B' := ?_) (b := ?_) ?_ ?_ ?_; rotate_left 2; (with_reducible assumption)) | go_size))⟩
  · have d0 : 1000 < (a0.size : Int) := by omega
    go_enter Try.func12, Try.ntmps12
    go_wp2_with fail
    with_reducible refine (awake9 _).mono ?_
    rintro e w1 ⟨rfl, hb1⟩
    go_wp2_with fail
    go_ret
    exact ⟨rfl, by (repeat' (first | (with_reducible exact Below.refl _ _) | (with_reducible assumption) | (with_reducible refine Below.alloc ?_ ?_ _) | (with_reducible refine Below.drew ?_) | (with_reducible refine Below_drewN ?_ _) | (with_reducible refine Below.setCell ?_ ?_ _) | (refine Below.step (B' := ?_) (b := ?_) ?_ ?_ ?_; rotate_left 2; (with_reducible assumption)) | go_size))⟩
end Go.Proofs.Try
