/- sum.Of. -/
import Derived.Test.YtfdjgdogcknoiaaDoorSum2
import Derived.Test.YtfdjgdogcknoiaaDoorStr
namespace Go.Proofs.Tryd
open Go.RowKit Go.Deep
set_option linter.unusedVariables false
set_option linter.unusedSimpArgs false

theorem byte_state (s : BitVec 32) (N x : Nat) (hN : s.toNat = N) (u : UInt8) (hx : u.toNat = x) : bits .xor .u32 (N : Int) ((x : Int) * 16777216 % 4294967296) = (((s ^^^ BitVec.ofNat 32 (u.toNat * 16777216)).toNat : Nat) : Int) ∧ bits .xor .u32 (N : Int) ((x : Int) * 16777216) = (((s ^^^ BitVec.ofNat 32 (u.toNat * 16777216)).toNat : Nat) : Int) := by
  have hl := s.isLt
  have hu := UInt8.toNat_lt u
  rw [hN] at hl
  have e : bits .xor .u32 (N : Int) ((x * 16777216 : Nat) : Int) = (((s ^^^ BitVec.ofNat 32 (u.toNat * 16777216)).toNat : Nat) : Int) := by
    rw [bits_xor_u32_nat _ _ (by omega) (by omega), BitVec.toNat_xor, hN, hx, BitVec.toNat_ofNat, Nat.mod_eq_of_lt (by omega)]
  refine ⟨?_, ?_⟩
  · rw [show ((x : Int) * 16777216 % 4294967296) = ((x * 16777216 : Nat) : Int) by omega]; exact e
  · rw [show ((x : Int) * 16777216) = ((x * 16777216 : Nat) : Int) by omega]; exact e
theorem crc_snoc (s : BitVec 32) (l : List UInt8) (k : Nat) (h : k < l.length) : crc s (l.take (k + 1)) = stpN 8 (crc s (l.take k) ^^^ BitVec.ofNat 32 ((l.getD k 0).toNat * 16777216)) := by
  rw [take_more l k 0 h, crc_app]; rfl
set_option maxRecDepth 100000 in
set_option maxHeartbeats 2000000 in
theorem of_c (A : Option Addr) (n c : Nat) (ps : List (List UInt8)) (w : World) (hT : Steps w) (h : Sees w 1 A n (ps.map sv)) (hn : n ≤ 1000) (hl : ∀ p ∈ ps, p.length ≤ 1000000) :
    Calls Tryd.prog 12 #[.slice A n c] w fun r w' => r = .returned (.int .u32 ((crc 0#32 ps.flatten).toNat : Int)) ∧ w = w' := by
  have HT := Lib.hid hT
  have HL := Lib.hid (show ps.length = n by have := h.1; simpa using this)
  have HS := Lib.hid h
  have HB := Lib.hid hl
  clear hT h hl
  go_enter Tryd.func12, Tryd.ntmps12
  go_wp2_with fail
  go_loopg [3, 9] n (fun g s i wr => w = wr ∧ ∃ j : Nat, j + g = n ∧ i = .int .i64 j ∧ s = .int .u32 ((crc 0#32 (ps.take j).flatten).toNat : Int))
  case atStart => exact ⟨rfl, 0, by omega, rfl, rfl⟩
  case round =>
    obtain ⟨rfl, j, hj, rfl, rfl⟩ := hrel
    by_cases hlt : j < n
    · obtain ⟨b, off, rfl, hbz, hxx⟩ := HS.out.2.resolve_left (by omega)
      have hcell := HS.out.sv hlt
      have htk := take_more ps j [] (by have := HL.out; omega)
      have hpl := HB.out _ (getD_mem ps j [] (by have := HL.out; omega))
      obtain ⟨p, hp⟩ : ∃ p, ps.getD j [] = p := ⟨_, rfl⟩
      rw [hp] at hcell htk hpl
      have hsz := S_size p
      have HF := Lib.hid (show (ps.take (j + 1)).flatten = (ps.take j).flatten ++ p by rw [htk, List.flatten_append]; simp)
      clear hp hxx htk
      obtain ⟨s0, hs0⟩ : ∃ s0, crc 0#32 (ps.take j).flatten = s0 := ⟨_, rfl⟩
      have HS0 := Lib.hid hs0
      rw [hs0]
      clear hs0
      go_wp2_with fail
      go_loopg [3, 15] p.length (fun g s i wr => w = wr ∧ ∃ k : Nat, k + g = p.length ∧ i = .int .i64 k ∧ s = .int .u32 ((crc s0 (p.take k)).toNat : Int))
      case atStart => exact ⟨rfl, 0, by omega, rfl, rfl⟩
      case round =>
        obtain ⟨rfl, k, hk, rfl, rfl⟩ := hrel
        by_cases hlt2 : k < p.length
        · have hx := index_s p k hlt2 .i64
          have hsn := crc_snoc s0 p k hlt2
          obtain ⟨u, hu⟩ : ∃ u, p.getD k 0 = u := ⟨_, rfl⟩
          rw [hu] at hx hsn
          obtain ⟨st, hst⟩ : ∃ st, crc s0 (p.take k) = st := ⟨_, rfl⟩
          rw [hst] at hsn ⊢
          have HSN := Lib.hid hsn
          obtain ⟨x, hxx⟩ : ∃ x, u.toNat = x := ⟨_, rfl⟩
          obtain ⟨N, hN⟩ : ∃ N, st.toNat = N := ⟨_, rfl⟩
          obtain ⟨b1, b2⟩ := byte_state st N x hN u hxx
          have hx8 := UInt8.toNat_lt u
          have HC := eight_c (st ^^^ BitVec.ofNat 32 (u.toNat * 16777216)) w HT.out
          rw [← HSN.out] at HC
          rw [hxx] at hx hx8
          rw [hN]
          clear hsn hst hu
          generalize (st ^^^ BitVec.ofNat 32 (u.toNat * 16777216)).toNat = M at *
          obtain ⟨R, hR⟩ : ∃ R, (crc s0 (p.take (k + 1))).toNat = R := ⟨_, rfl⟩
          rw [hR] at HC
          have HR := Lib.hid hR
          clear hR
          go_wp2_with fail
          with_reducible refine HC.mono ?_
          rintro e w' ⟨rfl, rfl⟩
          go_wp2_with fail
          go_roundg (p.length - (k + 1))
          case measure => omega
          case rel => exact ⟨rfl, k + 1, by omega, by go_num, by rw [HR.out]⟩
        · have hke : k = p.length := by omega
          have e0 : decide ((k : Int) < (p.length : Int)) = false := by simp; omega
          have HK := Lib.hid (show crc s0 (p.take k) = crc 0#32 (ps.take (j + 1)).flatten by rw [hke, List.take_length, ← HS0.out, ← crc_app, HF.out])
          rw [HK.out]
          clear hke
          go_wp2_with fail
          go_roundg (n - (j + 1))
          case measure => omega
          case rel => exact ⟨rfl, j + 1, by omega, by go_num, rfl⟩
    · have hke : j = n := by omega
      have e0 : decide ((j : Int) < (n : Int)) = false := by simp; omega
      have HK := Lib.hid (show crc 0#32 (ps.take j).flatten = crc 0#32 ps.flatten by rw [hke, ← HL.out, List.take_length])
      rw [HK.out]
      clear hke
      go_wp2_with fail
      go_ret
      exact ⟨rfl, rfl⟩
end Go.Proofs.Tryd
