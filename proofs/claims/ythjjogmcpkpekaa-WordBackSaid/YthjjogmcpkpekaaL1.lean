/- The walks of the laws of layer 1. -/
import Derived.Test.YthjjogmcpkpekaaW1
import Derived.Test.YthjjogmcpkpekaaM1
import Derived.ProofKit
import Derived.OpenShut
namespace Go.Proofs.Try
open Go.RowKit
set_option linter.unusedVariables false

theorem walk_WordTells (a0 a1 a2 a3 : Int) (w0 : (Lit.int .u64 a0).wf = true) (w1 : (Lit.int .u64 a1).wf = true) (w2 : (Lit.int .u64 a2).wf = true) (w3 : (Lit.int .i64 a3).wf = true) (w : World) :
    Calls Try.prog 3 #[.int .u64 a0, .int .u64 a1, .int .u64 a2, .int .i64 a3] w fun e w' => e = .returned (.bool true) ∧ Grown w w' := by
  obtain ⟨h0, h0'⟩ := bounds_u64 w0
  obtain ⟨h1, h1'⟩ := bounds_u64 w1
  obtain ⟨h2, h2'⟩ := bounds_u64 w2
  obtain ⟨h3, h3'⟩ := bounds_i64 w3
  clear w0 w1 w2 w3
  go_enter Try.func3, Try.ntmps3
  go_wp2_with (first
    | (go_at_call 14; refine (awake1 _).mono ?_; rintro e w' ⟨rfl, rfl⟩)
    | (go_at_call 15; refine (plus_c _ _ (by omega) (by omega) (by omega) (by omega) _).mono ?_; rintro e w' ⟨rfl, rfl⟩)
    | (go_at_call 17; refine (times_c _ _ (by omega) (by omega) (by omega) (by omega) _).mono ?_; rintro e w' ⟨rfl, rfl⟩)
    | (go_at_call 19; refine (add_c _ _ (by omega) (by omega) (by omega) (by omega) _).mono ?_; rintro e w' ⟨rfl, rfl⟩)
    | (go_at_call 21; refine (sub_c _ _ (by omega) (by omega) (by omega) (by omega) _).mono ?_; rintro e w' ⟨rfl, rfl⟩)
    | (go_at_call 23; refine (mul_c _ _ (by omega) (by omega) (by omega) (by omega) _).mono ?_; rintro e w' ⟨rfl, rfl⟩)
    | (go_at_call 25; refine (shl_c _ _ (by omega) (by omega) (by omega) (by omega) _).mono ?_; rintro e w' ⟨rfl, rfl⟩)
    | (go_at_call 27; refine (shr_c _ _ (by omega) (by omega) (by omega) (by omega) _).mono ?_; rintro e w' ⟨rfl, rfl⟩)
    | (go_at_call 29; refine (of_c _ (by omega) (by omega) _).mono ?_; rintro e w' ⟨rfl, rfl⟩)
    | (go_at_call 31; refine (int_c _ (by omega) (by omega) _).mono ?_; rintro e w' ⟨rfl, rfl⟩)
    | (go_at_call 16; refine (rplus_c _ _ (by omega) (by omega) (by omega) (by omega) _).mono ?_; rintro e w' ⟨rfl, rfl⟩)
    | (go_at_call 18; refine (rtimes_c _ _ (by omega) (by omega) (by omega) (by omega) _).mono ?_; rintro e w' ⟨rfl, rfl⟩)
    | (go_at_call 20; refine (radd_c _ _ (by omega) (by omega) (by omega) (by omega) _).mono ?_; rintro e w' ⟨rfl, rfl⟩)
    | (go_at_call 22; refine (rsub_c _ _ (by omega) (by omega) (by omega) (by omega) _).mono ?_; rintro e w' ⟨rfl, rfl⟩)
    | (go_at_call 24; refine (rmul_c _ _ (by omega) (by omega) (by omega) (by omega) _).mono ?_; rintro e w' ⟨rfl, rfl⟩)
    | (go_at_call 26; refine (rshl_c _ _ (by omega) (by omega) (by omega) (by omega) _).mono ?_; rintro e w' ⟨rfl, rfl⟩)
    | (go_at_call 28; refine (rshr_c _ _ (by omega) (by omega) (by omega) (by omega) _).mono ?_; rintro e w' ⟨rfl, rfl⟩)
    | (go_at_call 30; refine (rof_c _ (by omega) (by omega) _).mono ?_; rintro e w' ⟨rfl, rfl⟩)
    | (go_at_call 32; refine (rint_c _ (by omega) (by omega) _).mono ?_; rintro e w' ⟨rfl, rfl⟩))
  go_ret
  exact ⟨rfl, Grown.refl _⟩
theorem walk_WordOrder (a0 a1 a2 : Int) (w0 : (Lit.int .u64 a0).wf = true) (w1 : (Lit.int .u64 a1).wf = true) (w2 : (Lit.int .u64 a2).wf = true) (w : World) :
    Calls Try.prog 5 #[.int .u64 a0, .int .u64 a1, .int .u64 a2] w fun e w' => e = .returned (.bool true) ∧ Grown w w' := by
  obtain ⟨h0, h0'⟩ := bounds_u64 w0
  obtain ⟨h1, h1'⟩ := bounds_u64 w1
  obtain ⟨h2, h2'⟩ := bounds_u64 w2
  clear w0 w1 w2
  have q1 := q_addc a0 a1
  have q2 := q_mulc a0 a1
  have q3 := q_adda a0 a1 a2 h0 h1 h2
  have r1 := wAdd_lo a0 a1 h0 h1
  have r2 := wAdd_hi a0 a1
  have r3 := wAdd_lo a1 a2 h1 h2
  have r4 := wAdd_hi a1 a2
  have m := q_minmax a0 a1
  have s1 := q_addm _ _ a2 m
  have s2 := q_mulm _ _ a2 m h2
  have s3 := q_subm _ _ a2 m
  have s4 := q_subn _ _ a2 m
  go_enter Try.func5, Try.ntmps5
  go_wp2_with (first
    | (go_at_call 14; refine (awake1 _).mono ?_; rintro e w' ⟨rfl, rfl⟩)
    | (go_at_call 19; refine (add_c _ _ (by omega) (by omega) (by omega) (by omega) _).mono ?_; rintro e w' ⟨rfl, rfl⟩)
    | (go_at_call 21; refine (sub_c _ _ (by omega) (by omega) (by omega) (by omega) _).mono ?_; rintro e w' ⟨rfl, rfl⟩)
    | (go_at_call 23; refine (mul_c _ _ (by omega) (by omega) (by omega) (by omega) _).mono ?_; rintro e w' ⟨rfl, rfl⟩))
  go_ret
  exact ⟨rfl, Grown.refl _⟩

theorem walk_WordBack (a0 a1 a2 : Int) (w0 : (Lit.int .u64 a0).wf = true) (w1 : (Lit.int .u64 a1).wf = true) (w2 : (Lit.int .u64 a2).wf = true) (w : World) :
    Calls Try.prog 4 #[.int .u64 a0, .int .u64 a1, .int .u64 a2] w fun e w' => e = .returned (.bool true) ∧ Grown w w' := by
  obtain ⟨h0, h0'⟩ := bounds_u64 w0
  obtain ⟨h1, h1'⟩ := bounds_u64 w1
  obtain ⟨h2, h2'⟩ := bounds_u64 w2
  clear w0 w1 w2
  have r1 := wShl_lo a0 a2 h0
  have r2 := wShl_hi a0 a2
  have r3 := wShr_lo a0 a2 h0
  have r4 := wShr_hi a0 a2 h0
  have q1 := q_shl_shr a0 a2 h0 h0'
  by_cases p1 : a0 + a1 < 18446744073709551616
  · obtain ⟨e1, e2, e3, e4, e5⟩ := q_plus a0 a1 h0 h1 p1
    by_cases p2 : a0 * 2 ^ a2.toNat < 18446744073709551616
    · have e6 := q_shr_shl a0 a2 h0 p2
      clear p2
      go_enter Try.func4, Try.ntmps4
      go_wp2_with (first
    | (go_at_call 14; refine (awake1 _).mono ?_; rintro e w' ⟨rfl, rfl⟩)
    | (go_at_call 15; refine (plus_c _ _ (by omega) (by omega) (by omega) (by omega) _).mono ?_; rintro e w' ⟨rfl, rfl⟩)
    | (go_at_call 19; refine (add_c _ _ (by omega) (by omega) (by omega) (by omega) _).mono ?_; rintro e w' ⟨rfl, rfl⟩)
    | (go_at_call 21; refine (sub_c _ _ (by omega) (by omega) (by omega) (by omega) _).mono ?_; rintro e w' ⟨rfl, rfl⟩)
    | (go_at_call 25; refine (shl_c _ _ (by omega) (by omega) (by omega) (by omega) _).mono ?_; rintro e w' ⟨rfl, rfl⟩)
    | (go_at_call 27; refine (shr_c _ _ (by omega) (by omega) (by omega) (by omega) _).mono ?_; rintro e w' ⟨rfl, rfl⟩))
      all_goals (go_ret; exact ⟨rfl, Grown.refl _⟩)
    · have e6 := q_shl_big a0 a2 p2
      clear p2
      go_enter Try.func4, Try.ntmps4
      go_wp2_with (first
    | (go_at_call 14; refine (awake1 _).mono ?_; rintro e w' ⟨rfl, rfl⟩)
    | (go_at_call 15; refine (plus_c _ _ (by omega) (by omega) (by omega) (by omega) _).mono ?_; rintro e w' ⟨rfl, rfl⟩)
    | (go_at_call 19; refine (add_c _ _ (by omega) (by omega) (by omega) (by omega) _).mono ?_; rintro e w' ⟨rfl, rfl⟩)
    | (go_at_call 21; refine (sub_c _ _ (by omega) (by omega) (by omega) (by omega) _).mono ?_; rintro e w' ⟨rfl, rfl⟩)
    | (go_at_call 25; refine (shl_c _ _ (by omega) (by omega) (by omega) (by omega) _).mono ?_; rintro e w' ⟨rfl, rfl⟩)
    | (go_at_call 27; refine (shr_c _ _ (by omega) (by omega) (by omega) (by omega) _).mono ?_; rintro e w' ⟨rfl, rfl⟩))
      all_goals (go_ret; exact ⟨rfl, Grown.refl _⟩)
  · obtain ⟨e1, e2, e3⟩ := q_plus' a0 a1 p1
    by_cases p2 : a0 * 2 ^ a2.toNat < 18446744073709551616
    · have e6 := q_shr_shl a0 a2 h0 p2
      clear p2
      go_enter Try.func4, Try.ntmps4
      go_wp2_with (first
    | (go_at_call 14; refine (awake1 _).mono ?_; rintro e w' ⟨rfl, rfl⟩)
    | (go_at_call 15; refine (plus_c _ _ (by omega) (by omega) (by omega) (by omega) _).mono ?_; rintro e w' ⟨rfl, rfl⟩)
    | (go_at_call 19; refine (add_c _ _ (by omega) (by omega) (by omega) (by omega) _).mono ?_; rintro e w' ⟨rfl, rfl⟩)
    | (go_at_call 21; refine (sub_c _ _ (by omega) (by omega) (by omega) (by omega) _).mono ?_; rintro e w' ⟨rfl, rfl⟩)
    | (go_at_call 25; refine (shl_c _ _ (by omega) (by omega) (by omega) (by omega) _).mono ?_; rintro e w' ⟨rfl, rfl⟩)
    | (go_at_call 27; refine (shr_c _ _ (by omega) (by omega) (by omega) (by omega) _).mono ?_; rintro e w' ⟨rfl, rfl⟩))
      all_goals (go_ret; exact ⟨rfl, Grown.refl _⟩)
    · have e6 := q_shl_big a0 a2 p2
      clear p2
      go_enter Try.func4, Try.ntmps4
      go_wp2_with (first
    | (go_at_call 14; refine (awake1 _).mono ?_; rintro e w' ⟨rfl, rfl⟩)
    | (go_at_call 15; refine (plus_c _ _ (by omega) (by omega) (by omega) (by omega) _).mono ?_; rintro e w' ⟨rfl, rfl⟩)
    | (go_at_call 19; refine (add_c _ _ (by omega) (by omega) (by omega) (by omega) _).mono ?_; rintro e w' ⟨rfl, rfl⟩)
    | (go_at_call 21; refine (sub_c _ _ (by omega) (by omega) (by omega) (by omega) _).mono ?_; rintro e w' ⟨rfl, rfl⟩)
    | (go_at_call 25; refine (shl_c _ _ (by omega) (by omega) (by omega) (by omega) _).mono ?_; rintro e w' ⟨rfl, rfl⟩)
    | (go_at_call 27; refine (shr_c _ _ (by omega) (by omega) (by omega) (by omega) _).mono ?_; rintro e w' ⟨rfl, rfl⟩))
      all_goals (go_ret; exact ⟨rfl, Grown.refl _⟩)
theorem walk_WordShifts (a0 a1 a2 : Int) (w0 : (Lit.int .u64 a0).wf = true) (w1 : (Lit.int .u8 a1).wf = true) (w2 : (Lit.int .u8 a2).wf = true) (w : World) :
    Calls Try.prog 6 #[.int .u64 a0, .int .u8 a1, .int .u8 a2] w fun e w' => e = .returned (.bool true) ∧ Grown w w' := by
  obtain ⟨h0, h0'⟩ := bounds_u64 w0
  obtain ⟨h1, h1'⟩ := bounds_u8 w1
  obtain ⟨h2, h2'⟩ := bounds_u8 w2
  clear w0 w1 w2
  have k0 : 0 ≤ a1 % 100 ∧ a1 % 100 < 100 := by omega
  have l0 : 0 ≤ a2 % 100 ∧ a2 % 100 < 100 := by omega
  obtain ⟨k1, k2⟩ := k0
  obtain ⟨l1, l2⟩ := l0
  have e1 : (2 : Int) ^ (a1 % 100 % 64).toNat < 18446744073709551616 := by
    have : (a1 % 100 % 64).toNat < 64 := by omega
    have := Nat.pow_lt_pow_right (a := 2) (by omega) this
    have e : ((2 : Int) ^ (a1 % 100 % 64).toNat) = ((2 ^ (a1 % 100 % 64).toNat : Nat) : Int) := by simp
    rw [e]; omega
  have e2 := pow_pos' (a1 % 100 % 64).toNat
  have E3 : IntKind.u64.wrap (2 ^ (a1 % 100 % 64).toNat) = 2 ^ (a1 % 100 % 64).toNat := by rw [IntKind.wrap_u64]; omega
  have E4 : IntKind.u64.wrap (a1 % 100 + a2 % 100) = a1 % 100 + a2 % 100 := by rw [IntKind.wrap_u64]; omega
  have q1 := q_shr_shr a0 (a1 % 100) (a2 % 100) (by omega) (by omega)
  have q2 := q_shl_shl a0 (a1 % 100) (a2 % 100) (by omega) (by omega) (by omega) (by omega)
  have q3 := q_shl_mul a0 (a1 % 100 % 64)
  have q4 := q_shr_div a0 (a1 % 100 % 64)
  have r1 := wShl_lo a0 (a1 % 100) h0
  have r2 := wShl_hi a0 (a1 % 100)
  have r3 := wShr_lo a0 (a1 % 100) h0
  have r4 := wShr_hi a0 (a1 % 100) h0
  generalize hby : (2 : Int) ^ (a1 % 100 % 64).toNat = by' at *
  have e2' : 1 ≤ by' := by omega
  have Hby := Lib.hid hby
  clear hby e2
  go_enter Try.func6, Try.ntmps6
  go_wp2_with fail
  refine (awake1 _).mono ?_; rintro e w' ⟨rfl, rfl⟩
  go_wp2_with fail
  rw [Hby.out, E3]
  go_quiet ((first
    | (go_at_call 27; exact quiet_left (shr_c _ _ (by omega) (by omega) (by omega) (by omega) _))
    | (go_at_call 25; exact quiet_left (shl_c _ _ (by omega) (by omega) (by omega) (by omega) _))
    | (go_at_call 23; exact quiet_left (mul_c _ _ (by omega) (by omega) (by omega) (by omega) _))))
  go_wp2
  go_ret
  exact ⟨rfl, Grown_drewN _ _⟩

theorem walk_WordKinds (a0 a1 a2 : Int) (w0 : (Lit.int .u64 a0).wf = true) (w1 : (Lit.int .u64 a1).wf = true) (w2 : (Lit.int .i64 a2).wf = true) (w : World) :
    Calls Try.prog 7 #[.int .u64 a0, .int .u64 a1, .int .i64 a2] w fun e w' => e = .returned (.bool true) ∧ Grown w w' := by
  obtain ⟨h0, h0'⟩ := bounds_u64 w0
  obtain ⟨h1, h1'⟩ := bounds_u64 w1
  obtain ⟨h2, h2'⟩ := bounds_i64 w2
  clear w0 w1 w2
  have q1 := q_kinds1 a0
  have q2 := q_kinds2 a0 h0
  have q3 := q_kinds3 a2 h2'
  have q4 := q_kinds4 (min a0 a1) (max a0 a1) (q_minmax a0 a1)
  have q5 := q_kinds5 a0 h0
  have q6 := wInt_hi a0
  have q7 := wOf_lo a2
  have q8 := wOf_hi a2 h2'
  by_cases p1 : a0 ≤ 9223372036854775807
  · have e1 := q2 p1
    clear q1 q2
    go_enter Try.func7, Try.ntmps7
    go_wp2_with (first
    | (go_at_call 14; refine (awake1 _).mono ?_; rintro e w' ⟨rfl, rfl⟩)
    | (go_at_call 29; refine (of_c _ (by omega) (by omega) _).mono ?_; rintro e w' ⟨rfl, rfl⟩)
    | (go_at_call 31; refine (int_c _ (by omega) (by omega) _).mono ?_; rintro e w' ⟨rfl, rfl⟩))
    go_ret
    exact ⟨rfl, Grown.refl _⟩
  · have e1 := q1 p1
    clear q1 q2
    go_enter Try.func7, Try.ntmps7
    go_wp2_with (first
    | (go_at_call 14; refine (awake1 _).mono ?_; rintro e w' ⟨rfl, rfl⟩)
    | (go_at_call 29; refine (of_c _ (by omega) (by omega) _).mono ?_; rintro e w' ⟨rfl, rfl⟩)
    | (go_at_call 31; refine (int_c _ (by omega) (by omega) _).mono ?_; rintro e w' ⟨rfl, rfl⟩))
    go_ret
    exact ⟨rfl, Grown.refl _⟩
end Go.Proofs.Try
