/- sum.eight. -/
import Derived.Test.YtfdjgdogcknoiaaDoorSum
import Derived.Test.YtfdjgdogcknoiaaDoorLaw
import Derived.ScopeJumps
import Derived.WalkMore
import Derived.Laws.Bits64
import Derived.Laws.Bits64b
namespace Go.Proofs.Tryd
open Go.RowKit
set_option linter.unusedVariables false
set_option linter.unusedSimpArgs false

/-- The table, in memory. -/
def Steps (w : World) : Prop := 0 < w.heap.size ∧ ∀ k, k < 16 → w.cell? ⟨0, k, none⟩ = some (.int .u32 ((tab.getD k 0 : Nat) : Int))
theorem Steps.below {w w' : World} (h : Steps w) (hb : Below w.heap.size w w') : Steps w' :=
  ⟨Nat.lt_of_lt_of_le h.1 hb.size, fun k hk => (hb.cell (p := ⟨0, k, none⟩) h.1).trans (h.2 k hk)⟩
theorem IntKind.wrap_u32 (n : Int) : IntKind.u32.wrap n = n % 4294967296 := by simp [IntKind.wrap, IntKind.bits, IntKind.signed]
theorem IntKind.wrap_u8 (n : Int) : IntKind.u8.wrap n = n % 256 := by simp [IntKind.wrap, IntKind.bits, IntKind.signed]
theorem bits_xor_u32_nat (a b : Nat) (ha : a < 4294967296) (hb : b < 4294967296) : bits .xor .u32 (a : Int) (b : Int) = ((a ^^^ b : Nat) : Int) := by
  have hx : a ^^^ b < 2 ^ 32 := Nat.xor_lt_two_pow (by omega) (by omega)
  have h1 : (BitVec.ofInt 32 (a : Int)).toNat = a := by
    rw [BitVec.ofInt_natCast, BitVec.toNat_ofNat]; exact Nat.mod_eq_of_lt (by omega)
  have h2 : (BitVec.ofInt 32 (b : Int)).toNat = b := by
    rw [BitVec.ofInt_natCast, BitVec.toNat_ofNat]; exact Nat.mod_eq_of_lt (by omega)
  show IntKind.u32.wrap ((BitVec.ofInt 32 (a : Int) ^^^ BitVec.ofInt 32 (b : Int)).toNat : Int) = _
  rw [BitVec.toNat_xor, h1, h2, IntKind.wrap_u32]
  omega
theorem bits_xor_u8_nat (a b : Nat) (ha : a < 256) (hb : b < 256) : bits .xor .u8 (a : Int) (b : Int) = ((a ^^^ b : Nat) : Int) := by
  have hx : a ^^^ b < 2 ^ 8 := Nat.xor_lt_two_pow (by omega) (by omega)
  have h1 : (BitVec.ofInt 8 (a : Int)).toNat = a := by
    rw [BitVec.ofInt_natCast, BitVec.toNat_ofNat]; exact Nat.mod_eq_of_lt (by omega)
  have h2 : (BitVec.ofInt 8 (b : Int)).toNat = b := by
    rw [BitVec.ofInt_natCast, BitVec.toNat_ofNat]; exact Nat.mod_eq_of_lt (by omega)
  show IntKind.u8.wrap ((BitVec.ofInt 8 (a : Int) ^^^ BitVec.ofInt 8 (b : Int)).toNat : Int) = _
  rw [BitVec.toNat_xor, h1, h2, IntKind.wrap_u8]
  omega
theorem xor_tab (b : BitVec 32) (N : Nat) (hN : b.toNat = N) : bits .xor .u32 ((N : Int) * 16 % 4294967296) ((tab[N / 268435456]?.getD 0 : Nat) : Int) = ((stpN 4 b).toNat : Int) := by
  have hlt := b.isLt
  rw [hN] at hlt
  have h4 := four b
  rw [hN] at h4
  have ht : ∀ k : Fin 16, tab.getD k.val 0 < 4294967296 := by decide
  have ht' := ht ⟨N / 268435456, by omega⟩
  rw [List.getD_eq_getElem?_getD] at h4 ht'
  rw [show ((N : Int) * 16 % 4294967296) = ((N * 16 % 4294967296 : Nat) : Int) by omega, bits_xor_u32_nat _ _ (by omega) ht', h4]
set_option maxRecDepth 100000 in
set_option maxHeartbeats 1000000 in
theorem eight_c (b : BitVec 32) (w : World) (hT : Steps w) :
    Calls Tryd.prog 18 #[.int .u32 (b.toNat : Int)] w fun r w' => r = .returned (.int .u32 ((stpN 8 b).toNat : Int)) ∧ w = w' := by
  have HT := Lib.hid hT
  clear hT
  obtain ⟨N, hN⟩ : ∃ N, b.toNat = N := ⟨_, rfl⟩
  have hlt := b.isLt
  rw [hN] at hlt ⊢
  have hcell := HT.out.2 (N / 268435456) (by omega)
  go_enter Tryd.func18, Tryd.ntmps18
  go_wp2_with fail
  have hx := xor_tab b N hN
  refine wp_scope_jumps 0 (fun a' w' => w' = w ∧ ∃ (u4 u5 u6 u7 u8 u9 u10 u11 u12 u13 u14 : Value), a' = { tmps := #[.int .u32 ((stpN 4 b).toNat : Int), undef, .int .u32 0, .int .i64 1, u4, u5, u6, u7, u8, u9, u10, u11, u12, u13, u14, undef], defers := [] }) (fun _ _ => 0) rfl ?_ ?_
  · go_wp2_with fail
    go_step3
    go_wp2_with fail
    go_step3
    exact ⟨rfl, rfl, _, _, _, _, _, _, _, _, _, _, _, rfl⟩
  · rintro a' w' ⟨rfl, u4, u5, u6, u7, u8, u9, u10, u11, u12, u13, u14, rfl⟩
    have h8 := Lib.hid (stpN_add 4 4 b)
    clear hx hcell
    obtain ⟨M, hM⟩ : ∃ M, (stpN 4 b).toNat = M := ⟨_, rfl⟩
    have hx := xor_tab (stpN 4 b) M hM
    have hltM := (stpN 4 b).isLt
    rw [hM] at hltM ⊢
    have hcell := HT.out.2 (M / 268435456) (by omega)
    rw [← h8.out] at hx
    go_wp2_with fail
    simp only [Exit.jump]
    go_ret
    exact ⟨rfl, rfl⟩
end Go.Proofs.Tryd
