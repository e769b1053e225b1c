/- Tags as keys of a map. -/
import Derived.Test.YthijffdljoeelaaThing3
import Derived.DeepKeys4
import Derived.Maps.Keyed
import Derived.Maps.Own
import Derived.Maps.Views
import Derived.ProofKit
namespace Go.Proofs.Try
open Go.RowKit Go.Maps
set_option linter.unusedVariables false

theorem tagLaidOut : laidOutB Try.prog = true := by kernel_rfl
theorem tagRow : (64 : TypeId) < Try.prog.types.size := of_decide_eq_true (by kernel_rfl)
theorem tagWide : (match Try.prog.underlying 64 with | some (.array _ _) | some (.struct _) => true | _ => false) = true := by rw [Try.underlying64]
theorem tagLaw : Keyed Try.prog 64 := Keyed.of_law (deep_law_laid tagLaidOut (m := 2) (by omega) tagRow (by kernel_rfl) tagWide)
/-- What a tag reads as, as a key. -/
def kb (f : Nat → Int) : List UInt8 := keyBytes [.int .u8 (f 0), .int .u8 (f 1), .int .u8 (f 2), .int .u8 (f 3), .int .u8 (f 4), .int .u8 (f 5), .int .u8 (f 6), .int .u8 (f 7), .int .u8 (f 8)]
theorem tagKey (f : Nat → Int) (h : ∀ i, 0 ≤ f i ∧ f i < 256) : keyOf Try.prog 64 (mkT f) = some (.string (kb f)) := by
  have hw : ∀ i, (Lit.int .u8 (f i)).wf = true := fun i => by
    have := h i
    simp [Lit.wf, IntKind.min, IntKind.max, IntKind.bits, IntKind.signed]
    omega
  have hk : Try.prog.keyType 64 = true := by kernel_rfl
  have hf : (mkT f).formed Try.prog 64 = true := by
    have hc : Try.prog.cellsOf 64 = 9 := by kernel_rfl
    simp [mkT, Value.formed, Try.underlying64, hc]
  have hc5 : Try.prog.cellsOf 5 = 1 := by kernel_rfl
  have hc9 : Try.prog.cellsOf 64 = 9 := by kernel_rfl
  have hs : ∃ d, Try.prog.types.size = d + 1 := ⟨Try.prog.types.size - 1, by kernel_rfl⟩
  obtain ⟨d, hd⟩ := hs
  have h1 : ∀ i, Try.prog.keyLits (d + 1) 5 [.int .u8 (f i)] = some [.int .u8 (f i)] := fun i => by
    simp [Program.keyLits, Try.underlying5, hw i]
  unfold keyOf
  rw [Try.underlying64]
  simp only [hk, hf, Bool.and_self, if_true]
  have hr : List.range 9 = [0, 1, 2, 3, 4, 5, 6, 7, 8] := rfl
  rw [hd]
  have hkl : Try.prog.keyLits (d + 1 + 1) 64 (mkT f).cells.toList = some [.int .u8 (f 0), .int .u8 (f 1), .int .u8 (f 2), .int .u8 (f 3), .int .u8 (f 4), .int .u8 (f 5), .int .u8 (f 6), .int .u8 (f 7), .int .u8 (f 8)] := by
    simp [Program.keyLits, Try.underlying64, Try.underlying5, hc5, hc9, mkT, Value.cells, hr, hw]
  rw [hkl]
  rfl
end Go.Proofs.Try
