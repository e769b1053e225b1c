/- The concrete values of awake (stage 21). -/
import Derived.Test.YtjcclobnpbgmcaaDoorUk
import Derived.Test.YtjcclobnpbgmcaaDoorUg
namespace Go.Proofs.Tryd
open Go.RowKit Go.Sort
set_option linter.unusedVariables false
set_option linter.unusedSimpArgs false
def kA : ByteArray := ⟨#[97]⟩
def kB : ByteArray := ⟨#[98]⟩
def kC : ByteArray := ⟨#[99]⟩
theorem ltK_ab : ltK kA kB = true := (ltK_iff _ _).2 (by decide)
theorem ltK_bc : ltK kB kC = true := (ltK_iff _ _).2 (by decide)
theorem ltK_ac : ltK kA kC = true := (ltK_iff _ _).2 (by decide)
theorem ltK_aa : ltK kA kA = false := ltK_irrefl _
theorem ltK_bb : ltK kB kB = false := ltK_irrefl _
theorem ltK_cc : ltK kC kC = false := ltK_irrefl _
theorem ltK_ba : ltK kB kA = false := by
  cases h : ltK kB kA with
  | false => rfl
  | true => have := ltK_trans ltK_ab h; rw [ltK_aa] at this; cases this
theorem kA_ne : kA ≠ kB := by decide
theorem kB_ne : kB ≠ kA := by decide
theorem aw_n1 : noteN [] kB 10 = [(kB, 10, 1)] := by
  simp [noteN, chkN, updN, fndN, posN, atN, okAt, inB, List.range, List.range.loop, ltK_ab, ltK_bc, ltK_ac, ltK_aa, ltK_bb, ltK_ba]
theorem aw_n2 : noteN [(kB, 10, 1)] kA 7 = [(kA, 7, 1), (kB, 10, 1)] := by
  simp [noteN, chkN, updN, fndN, posN, atN, okAt, inB, List.range, List.range.loop, ltK_ab, ltK_bc, ltK_ac, ltK_aa, ltK_bb, ltK_ba, kA_ne, kB_ne]
theorem aw_n3 : noteN [(kA, 7, 1), (kB, 10, 1)] kB 12 = [(kA, 7, 1), (kB, 12, 2)] := by
  simp [noteN, chkN, updN, fndN, posN, atN, okAt, inB, List.range, List.range.loop, ltK_ab, ltK_bc, ltK_ac, ltK_aa, ltK_bb, ltK_ba, kA_ne, kB_ne]
theorem aw_n4 : noteN [(kA, 7, 1), (kB, 12, 2)] kC 0 = [(kA, 7, 1), (kB, 12, 2)] := by
  simp [noteN, chkN, updN, fndN, posN, atN, okAt, inB, List.range, List.range.loop, ltK_ab, ltK_bc, ltK_ac, ltK_aa, ltK_bb, ltK_ba, kA_ne, kB_ne]
def wl : List Sn := [(kA, 7, 1), (kB, 12, 2)]
def w1l : List Sn := [(⟨#[]⟩, 1, 1)]
def w2l : List Sn := [(⟨#[]⟩, 10, 5)]
theorem aw_c1 : chkN wl = true := by
  simp [wl, chkN, atN, okAt, inB, List.range, List.range.loop, ltK_ab]
theorem aw_c2 : chkN w1l = true := by decide
theorem aw_c3 : chkN w2l = true := by decide
theorem aw_c4 : chkN [(⟨#[]⟩, 0, 0)] = false := by decide
theorem aw_p1 : partF (⟨#[]⟩, 1, 1) 4611686018427387904 1 = 2147483648 := by decide +kernel
theorem aw_p2 : partF (⟨#[]⟩, 0, 0) 1 1 = 0 := by decide +kernel
theorem aw_f1 : fillF w1l 4611686018427387904 1 = 2147483648 := by decide +kernel
theorem aw_t1 : timeN wl 1000 19 = 32 := by
  unfold timeN
  rw [if_pos aw_c1]
  decide +kernel
theorem aw_t2 : timeN wl 1000 0 = 0 := by
  unfold timeN
  rw [if_pos aw_c1]
  decide +kernel
theorem aw_b1 : (bestF w2l 100 [1, 1000, 0]).1 = 1000 := by decide +kernel
theorem aw_b1' : (bestF w2l 100 [1, 1000, 0]).2.2 = true := by decide +kernel
theorem aw_b2 : bestF wl 100 [0] = (0, 0, false) := by
  rw [bestF_yes _ _ _ aw_c1]
  decide +kernel
end Go.Proofs.Tryd
