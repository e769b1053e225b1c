/- Contracts of thing: Key, Hash, Home, and those of linhayref09. -/
import Derived.Test.YtpjijaljdklpgaaTape2
namespace Go.Proofs.Try
open Go.RowKit
set_option linter.unusedVariables false

def isKey (s : ByteArray) : Bool := decide (1 ≤ s.size ∧ s.size ≤ 16)
/-- One step of the hash. -/
def hashS (n b : Int) : Int := IntKind.u64.wrap (bits .xor .u64 n b * 1099511628211)
/-- The hash of the first bytes of a text. -/
def hashN (s : ByteArray) : Nat → Int
  | 0 => 14695981039346656037
  | k + 1 => hashS (hashN s k) (bt s k)
def hash (s : ByteArray) : Int := hashN s s.size
def home (s : ByteArray) (n : Int) : Int := if n < 1 then 0 else hash s % n
theorem hashN_in (s : ByteArray) : ∀ k, 0 ≤ hashN s k ∧ hashN s k < 18446744073709551616
  | 0 => by unfold hashN; omega
  | k + 1 => by unfold hashN hashS; rw [IntKind.wrap_u64]; omega
theorem hash_in (s : ByteArray) : 0 ≤ hash s ∧ hash s < 18446744073709551616 := hashN_in s s.size

theorem key_c (s : ByteArray) (w : World) :
    Calls Try.prog 13 #[.string s] w fun r w' => r = .returned (.bool (isKey s)) ∧ w = w' := by
  go_enter Try.func13, Try.ntmps13
  go_wp2_with fail
  all_goals
    go_ret
    exact ⟨ret_b (by unfold isKey; first | (symm; rw [decide_eq_true_iff]; omega) | (symm; rw [decide_eq_false_iff_not]; omega) | (congr 1; rw [eq_iff_iff]; omega)), rfl⟩
theorem hash_c (s : ByteArray) (hs : s.size ≤ 4611686018427387904) (w : World) :
    Calls Try.prog 29 #[.string s] w fun r w' => r = .returned (.int .u64 (hash s)) ∧ w = w' := by
  go_enter Try.func29, Try.ntmps29
  go_wp2_with fail
  go_loop [3, 7] (fun n x => ∃ k : Nat, k ≤ s.size ∧ x = .int .i64 k ∧ n = .int .u64 (hashN s k)) (fun _ x => s.size - (intOf x).toNat)
  case atStart => exact ⟨0, by omega, rfl, rfl⟩
  case round =>
    obtain ⟨k, hk, rfl, rfl⟩ := hrel
    by_cases hlt : k < s.size
    · have hx := index_t s k hlt .i64
      obtain ⟨b0, b1⟩ := bt_in s k
      obtain ⟨n0, n1⟩ := hashN_in s k
      have HM := Lib.hid (show hashN s (k + 1) = hashS (hashN s k) (bt s k) from rfl)
      generalize bt s k = b at *
      generalize hashN s k = n at *
      go_wp2_with fail
      go_round
      case rel => exact ⟨k + 1, by omega, by go_num, by rw [HM.out]; rfl⟩
      case measure => simp [intOf]; omega
    · have hke : s.size = k := by omega
      have HM := Lib.hid (show hashN s k = hash s by rw [← hke]; rfl)
      subst hke
      go_wp2_with fail
      go_ret
      exact ⟨ret_i HM.out, rfl⟩
theorem home_c (s : ByteArray) (n : Int) (hs : s.size ≤ 4611686018427387904) (h0 : -9223372036854775808 ≤ n) (h1 : n ≤ 9223372036854775807) (w : World) :
    Calls Try.prog 26 #[.string s, .int .i64 n] w fun r w' => r = .returned (.int .i64 (home s n)) ∧ w = w' := by
  by_cases h : n < 1
  · have HE := Lib.hid (show home s n = 0 by unfold home; rw [if_pos h])
    go_enter Try.func26, Try.ntmps26
    go_wp2_with fail
    go_ret
    exact ⟨ret_i HE.out.symm, rfl⟩
  · have HE := Lib.hid (show home s n = hash s % n by unfold home; rw [if_neg h])
    obtain ⟨n0, n1⟩ := hash_in s
    have hn : 1 ≤ n := by omega
    have e0 : (n == 0) = false := by simp; omega
    have m0 := Int.emod_nonneg (hash s) (show n ≠ 0 by omega)
    have m1 := Int.emod_lt_of_pos (hash s) (show 0 < n by omega)
    have HH := hash_c s hs
    generalize hash s = H at *
    go_enter Try.func26, Try.ntmps26
    go_wp2_with (go_at_call 29; refine (HH _).mono ?_; rintro e w' ⟨rfl, rfl⟩)
    go_ret
    exact ⟨ret_i HE.out.symm, rfl⟩
end Go.Proofs.Try
