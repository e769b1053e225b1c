/- A whole block of cells of any kinds is loaded in the head of a region that draws. -/
import Derived.Test.YtgkiijpheigpjaaTail
import Derived.Test.YtgkiijpheigpjaaVbk
namespace Go.Proofs.Try
open Go.RowKit
set_option linter.unusedVariables false
theorem wpQuiet_load_vbkg {P : Program} {ops : Array Oper} {C : World → Prop} {Q : Act → Prop} {a : Act} {o : Oper} {rest : List Oper} (ty : TypeId) (x : Operand) (ho : o.op = .load ty x)
    (b : Nat) (T : TypeId) (l : List Value) (hx : a.eval x = .pointer (some ⟨b, 0, none⟩)) (hw : Region.wanted o (yielded ops a.tmps) = true) (hS : ∀ W, C W → vbk W b T l) (d : TypeDesc)
    (hu : P.underlying ty = some d) (hd : d.isRow = true) (hi : (P.info? ty).map (·.size) = some l.length) (h : wpQuiet P ops C Q rest (a.put o.dst (.agg (celV l)))) : wpQuiet P ops C Q (o :: rest) a := by
  unfold wpQuiet
  rw [if_pos hw]
  refine ⟨_, fun W hW => ?_, h⟩
  have e := run_loadVar_vbk (P := P) W b ty T l d (hS W hW) hu hd hi
  unfold Oper.quietAt execOp
  simp only [ho, hx, Instr.loadAt, Instr.sureAddr, Sem.run_bind, Sem.run_pure, Result.andThen_ok, e, Oper.quietUpon]
  exact ⟨trivial, trivial⟩
theorem later_vbk {w : World} {b : Nat} {T : TypeId} {l : List Value} (h : vbk w b T l) : ∀ W, (∃ p, W = later w p) → vbk W b T l := by
  rintro W ⟨p, rfl⟩
  exact h.below (later_below w p)
end Go.Proofs.Try
