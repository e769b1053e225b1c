/- linhayref06.step, Of. -/
import Derived.Test.YtfdjgdogcknoiaaDoorSum3
namespace Go.Proofs.Tryd
open Go.RowKit Go.Deep
set_option linter.unusedVariables false
set_option linter.unusedSimpArgs false

set_option maxRecDepth 100000 in
set_option maxHeartbeats 1000000 in
theorem step_c (b : BitVec 32) (w : World) :
    Calls Tryd.prog 19 #[.int .u32 (b.toNat : Int)] w fun r w' => r = .returned (.int .u32 ((stp b).toNat : Int)) ∧ w = w' := by
  have hs := stp_toNat b
  have hl := b.isLt
  obtain ⟨N, hN⟩ : ∃ N, b.toNat = N := ⟨_, rfl⟩
  rw [hN] at hs hl ⊢
  by_cases h : 2147483648 ≤ N
  · rw [if_pos h] at hs
    have e0 : (2147483648 : Int) ≤ (N : Int) := by omega
    have hx := bits_xor_u32_nat (2 * N % 4294967296) 2168537515 (Nat.mod_lt _ (by omega)) (by omega)
    rw [← hs] at hx
    have hx' : bits .xor .u32 (2 * (N : Int) % 4294967296) 2168537515 = (((stp b).toNat : Nat) : Int) := by rw [← hx]; simp
    clear hx hs
    go_enter Tryd.func19, Tryd.ntmps19
    go_wp2_with fail
    go_ret
    exact ⟨rfl, rfl⟩
  · rw [if_neg h] at hs
    have e0 : decide ((2147483648 : Int) ≤ (N : Int)) = false := by simp; omega
    have hm : (2 * (N : Int)) % 4294967296 = 2 * (N : Int) := by omega
    have HS := Lib.hid hs
    clear hs
    go_enter Tryd.func19, Tryd.ntmps19
    go_wp2_with fail
    go_ret
    exact ⟨ret_i (by have := HS.out; omega), rfl⟩
set_option maxRecDepth 100000 in
set_option maxHeartbeats 2000000 in
theorem rof_c (p : List UInt8) (w : World) (hl : p.length ≤ 1000000) :
    Calls Tryd.prog 13 #[.string (S p)] w fun r w' => r = .returned (.int .u32 ((crc 0#32 p).toNat : Int)) ∧ w = w' := by
  have hsz := S_size p
  go_enter Tryd.func13, Tryd.ntmps13
  go_wp2_with fail
  go_loopg [3, 4] p.length (fun g s i wr => w = wr ∧ ∃ k : Nat, k + g = p.length ∧ i = .int .i64 k ∧ s = .int .u32 ((crc 0#32 (p.take k)).toNat : Int))
  case atStart => exact ⟨rfl, 0, by omega, rfl, rfl⟩
  case round =>
    obtain ⟨rfl, k, hk, rfl, rfl⟩ := hrel
    by_cases hlt : k < p.length
    · have hx := index_s p k hlt .i64
      have hsn := crc_snoc 0#32 p k hlt
      obtain ⟨u, hu⟩ : ∃ u, p.getD k 0 = u := ⟨_, rfl⟩
      rw [hu] at hx hsn
      obtain ⟨st, hst⟩ : ∃ st, crc 0#32 (p.take k) = st := ⟨_, rfl⟩
      rw [hst] at hsn ⊢
      have HSN := Lib.hid hsn
      obtain ⟨x, hxx⟩ : ∃ x, u.toNat = x := ⟨_, rfl⟩
      obtain ⟨N, hN⟩ : ∃ N, st.toNat = N := ⟨_, rfl⟩
      obtain ⟨b1, b2⟩ := byte_state st N x hN u hxx
      have hx8 := UInt8.toNat_lt u
      rw [hxx] at hx hx8
      rw [hN]
      clear hsn hst hu
      obtain ⟨st2, hst2⟩ : ∃ st2, st ^^^ BitVec.ofNat 32 (u.toNat * 16777216) = st2 := ⟨_, rfl⟩
      rw [hst2] at b1 b2
      have HST2 := Lib.hid hst2
      clear hst2
      go_wp2_with fail
      go_loopg [3, 5] 8 (fun g s i wr => w = wr ∧ ∃ m : Nat, m + g = 8 ∧ i = .int .i64 m ∧ s = .int .u32 ((stpN m st2).toNat : Int))
      case atStart => exact ⟨rfl, 0, by omega, rfl, rfl⟩
      case round =>
        obtain ⟨rfl, m, hm, rfl, rfl⟩ := hrel
        by_cases hlt2 : m < 8
        · have hlt2' : (m : Int) < 8 := by omega
          have HC := step_c (stpN m st2) w
          have HA := Lib.hid (stpN_add m 1 st2)
          rw [show stp (stpN m st2) = stpN (m + 1) st2 from HA.out.symm] at HC
          obtain ⟨R, hR⟩ : ∃ R, (stpN (m + 1) st2).toNat = R := ⟨_, rfl⟩
          rw [hR] at HC
          have HR := Lib.hid hR
          clear hR
          generalize (stpN m st2).toNat = M at *
          go_wp2_with fail
          with_reducible refine HC.mono ?_
          rintro e w' ⟨rfl, rfl⟩
          go_wp2_with fail
          go_roundg (8 - (m + 1))
          case measure => omega
          case rel => exact ⟨rfl, m + 1, by omega, by go_num, by rw [HR.out]⟩
        · have hke : m = 8 := by omega
          have e0 : decide ((m : Int) < 8) = false := by simp; omega
          have HK := Lib.hid (show stpN m st2 = crc 0#32 (p.take (k + 1)) by rw [hke, HSN.out, HST2.out])
          rw [HK.out]
          clear hke
          go_wp2_with fail
          go_roundg (p.length - (k + 1))
          case measure => omega
          case rel => exact ⟨rfl, k + 1, by omega, by go_num, rfl⟩
    · have hke : k = p.length := by omega
      have e0 : decide ((k : Int) < (p.length : Int)) = false := by simp; omega
      have HK := Lib.hid (show crc 0#32 (p.take k) = crc 0#32 p by rw [hke, List.take_length])
      rw [HK.out]
      clear hke
      go_wp2_with fail
      go_ret
      exact ⟨rfl, rfl⟩
end Go.Proofs.Tryd
