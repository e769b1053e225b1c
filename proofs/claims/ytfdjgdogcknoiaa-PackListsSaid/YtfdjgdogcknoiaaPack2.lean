/- Contracts of a number's bytes: linhayref07.One, Size; pack.Size. -/
import Derived.Test.YtfdjgdogcknoiaaBytes
import Derived.Deep.RegionWith
namespace Go.Proofs.Try
open Go.RowKit
set_option linter.unusedVariables false

theorem S_one_high (n : Nat) (h : ¬ n < 128) : S [UInt8.ofNat ((n : Int) % 128 + 128).toNat] ++ S (oneB (n / 128)) = S (oneB n) := by
  rw [S_app, oneB_high n h]
  have e : ((n : Int) % 128 + 128).toNat = n % 128 + 128 := by omega
  rw [e]; rfl
set_option maxRecDepth 100000 in
set_option maxHeartbeats 1000000 in
theorem one_c (n : Nat) : n < 18446744073709551616 → ∀ w : World,
    Calls Try.prog 27 #[.int .u64 (n : Int)] w fun r w' => r = .returned (.string (S (oneB n))) ∧ Below w.heap.size w w' := by
  induction n using Nat.strongRecOn with
  | _ n ih =>
    intro hn w
    by_cases h : n < 128
    · have hc := conv_one0 (n : Int) (by omega) (by omega)
      have HE := Lib.hid (oneB_low n h)
      have e0 : (n : Int) < 128 := by omega
      go_enter Try.func27, Try.ntmps27
      go_wp2_with fail
      go_ret
      exact ⟨by rw [HE.out]; try rfl, by (repeat' (first | (with_reducible exact Below.refl _ _) | (with_reducible assumption) | (with_reducible refine Below.alloc ?_ ?_ _) | (with_reducible refine Below.drew ?_) | (with_reducible refine Below_drewN ?_ _) | (with_reducible refine Below.setCell ?_ ?_ _) | (refine Below.step (B' := ?_) (b := ?_) ?_ ?_ ?_; rotate_left 2; (with_reducible assumption)) | go_size))⟩
    · have hc := conv_one0 ((n : Int) % 128 + 128) (by omega) (by omega)
      have IH : ∀ w : World, Calls Try.prog 27 #[.int .u64 ((n : Int) / 128)] w fun r w' => r = .returned (.string (S (oneB (n / 128)))) ∧ Below w.heap.size w w' := by
        have := ih (n / 128) (by omega) (by omega)
        rwa [Int.natCast_ediv] at this
      have HE := Lib.hid (S_one_high n h)
      have hx : ∀ W, (Op.stringOp .add (S [UInt8.ofNat ((n : Int) % 128 + 128).toNat]) (S (oneB (n / 128)))).run Try.prog W = .ok (.string (S [UInt8.ofNat ((n : Int) % 128 + 128).toNat] ++ S (oneB (n / 128)))) W := fun W => run_string_add_sum _ _ _ (by
        have := sizeB_10 (n / 128) (by omega)
        unfold sizeB at this
        rw [S_size, S_size]
        simp
        omega)
      have e0 : decide ((n : Int) < 128) = false := by simp; omega
      have a1 : (n : Int).tmod 128 = (n : Int) % 128 := Int.tmod_eq_emod_of_nonneg (by omega)
      obtain ⟨d, hd⟩ : ∃ d, (n : Int) % 128 = d := ⟨_, rfl⟩
      obtain ⟨q, hq⟩ : ∃ q, (n : Int) / 128 = q := ⟨_, rfl⟩
      have d0 : 0 ≤ d ∧ d < 128 := by omega
      have q0 : 0 ≤ q ∧ q < 18446744073709551616 := by omega
      have a2 : IntKind.u64.wrap (d + 128) = d + 128 := by rw [IntKind.wrap_u64]; omega
      have a3 : IntKind.u8.wrap (d + 128) = d + 128 := by simp [IntKind.wrap, IntKind.bits, IntKind.signed]; omega
      have a4 : IntKind.u64.wrap q = q := by rw [IntKind.wrap_u64]; omega
      rw [hd] at a1 hc HE hx
      rw [hq] at IH
      go_enter Try.func27, Try.ntmps27
      go_wp2_with fail
      go_region_with (go_at_call 27; with_reducible refine (IH _).mono ?_; rintro e w1 ⟨rfl, hb1⟩; obtain ⟨hc_w1, hf_w1, hz_w1⟩ := kept hb1; (try have hzw0_w1 : w.heap.size < w1.heap.size := (by have := hz_w1; first | omega | (simp at this; omega))); try simp only [World.size_drew, World.size_alloc] at hz_w1)
      all_goals
        go_wp2_with fail
        refine bodyPost_ret (by simp [results, Try.results27, go_sem]; try rfl) rfl ?_
        exact ⟨by rw [HE.out], by (repeat' (first | (with_reducible exact Below.refl _ _) | (with_reducible assumption) | (with_reducible refine Below.alloc ?_ ?_ _) | (with_reducible refine Below.drew ?_) | (with_reducible refine Below_drewN ?_ _) | (with_reducible refine Below.setCell ?_ ?_ _) | (refine Below.step (B' := ?_) (b := ?_) ?_ ?_ ?_; rotate_left 2; (with_reducible assumption)) | go_size))⟩
def sizeI (n : Nat) : Int := (sizeB n : Int)
theorem rsize_c (n : Nat) (hn : n < 18446744073709551616) (w : World) :
    Calls Try.prog 25 #[.int .u64 (n : Int)] w fun r w' => r = .returned (.int .i64 (sizeB n)) ∧ Below w.heap.size w w' := by
  have HZ := Lib.hid (show ((S (oneB n)).size : Int) = (sizeB n : Int) by rw [S_size]; rfl)
  have h10 := sizeB_10 n hn
  have h10' : (S (oneB n)).size ≤ 10 := by rw [S_size]; exact h10
  go_enter Try.func25, Try.ntmps25
  go_wp2_with fail
  with_reducible refine (one_c n hn _).mono ?_
  rintro e w1 ⟨rfl, hb1⟩
  go_wp2_with fail
  go_ret
  exact ⟨rfl, hb1⟩
set_option maxHeartbeats 400000 in
theorem psize_c (n : Nat) (hn : n < 18446744073709551616) (w : World) :
    Calls Try.prog 24 #[.int .u64 (n : Int)] w fun r w' => r = .returned (.int .i64 (sizeB n)) ∧ w = w' := by
  have h10 := sizeB_10 n hn
  go_enter Try.func24, Try.ntmps24
  go_wp2_with fail
  go_loop [0, 3] (fun x s => ∃ m k : Nat, x = .int .u64 m ∧ s = .int .i64 (k + 1 : Nat) ∧ m < 18446744073709551616 ∧ k + sizeB m = sizeB n) (fun x _ => (intOf x).toNat)
  case atStart => exact ⟨n, 0, rfl, rfl, hn, by omega⟩
  case round =>
    obtain ⟨m, k, rfl, rfl, hm, hk⟩ := hrel
    by_cases h : m < 128
    · have e0 : decide ((128 : Int) ≤ (m : Int)) = false := by simp; omega
      have HK := Lib.hid (show ((k + 1 : Nat) : Int) = (sizeB n : Int) by rw [sizeB_low m h] at hk; rw [hk])
      clear hk
      go_wp2_with fail
      go_ret
      exact ⟨ret_i (by have := HK.out; omega), rfl⟩
    · have e0 : (128 : Int) ≤ (m : Int) := by omega
      have HK := Lib.hid (sizeB_high m h)
      have hp := sizeB_pos (m / 128)
      have hk3 : k + 1 < 12 := by have := HK.out; omega
      have HKK := Lib.hid hk
      clear hk hp
      go_wp2_with fail
      go_round
      case rel => exact ⟨m / 128, k + 1, by go_num, by go_num, by omega, by have := HK.out; have := HKK.out; omega⟩
      case measure => simp [intOf]; omega
end Go.Proofs.Try
