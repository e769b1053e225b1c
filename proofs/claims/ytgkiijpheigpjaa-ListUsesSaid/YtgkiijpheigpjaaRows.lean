/-
  No cell of these rows narrows 'for every input' (looked for: loops, veiled, ifaces, maps, wideKeys, modest, calm, conditions, laid).
  DERIVED. THE GIVEN ROWS OF THIS SEAT. 12 by the template 'for every input the law returns true; each argument reads behind the call as it read before'; 0 by the template 'total and deterministic' (their statements: YtgkiijpheigpjaaTotals.lean).
  GIVEN WITH THE SEED: the statements are not yours to turn. If you find one false, say at which input.
  Laid BY PROGRAM, IN A SANDBOX (cutbox-rows.mjs): the forced cells as the released guide's own fill.sh prints them over the translation ab6c9e38f75aa51a… (all of the seat's roots in one cut). By AI agents, Wed Nov 11 2026. No macro, syntax, notation, axiom, sorry.
-/
import Derived.Test.YtgkiijpheigpjaaChecked
import GoSem.Claim
import GoSem.ClaimJoined
import GoSem.ClaimMapViews
import Derived.JoinedTies
import Derived.KernelRfl
namespace Go.Proofs.Ytgkiijpheigpjaa
/- THE CELL 'sum', in the pinned program and in every row, IS THE sha256 OF THE DUMP (.gsa) THAT YtgkiijpheigpjaaProg.lean LOADS. Nothing in Lean hashes anything: it is a label: what it is worth is what the hold of that sum in a sandbox is worth. -/
noncomputable def Try.pinned : Pinned := { name := "ytgkiijpheigpjaa", sum := "ab6c9e38f75aa51af3b598ff9fa128855ff664a76ce8c1d1ea25569098bfe128", checked := Try.checked }
namespace Rows
def none {H : Type} : Left H := { results := [], args := [] }

/-- 'linhaylaw14.HeapTells': WHATEVER THE INPUT: true; the input reads as it did. -/
def heapTellsSpec : ChangeSpec := { name := "heapTells", fn := fun _ => fun
  | [d1, d2, d3, d4] => { results := [.lit (.bool true)], args := [d1, d2, d3, d4] }
  | _ => none }
def heapTellsRow : OpenClaim := { program := "ytgkiijpheigpjaa", sum := "ab6c9e38f75aa51af3b598ff9fa128855ff664a76ce8c1d1ea25569098bfe128", func := "linhay/linhaylaw14.HeapTells", spec := "heapTells", unfollowed := true, recurses := true, apart := false }
def HeapTellsSaid : Prop := heapTellsRow.holds Try.pinned (OpenSpec.ofChange heapTellsSpec)

/-- ITS FALSE NEIGHBOUR: 'it returns false'. Refute it at one input. -/
def heapTellsWrong : ChangeSpec := { name := "heapTells", fn := fun _ => fun
  | [d1, d2, d3, d4] => { results := [.lit (.bool false)], args := [d1, d2, d3, d4] }
  | _ => none }
def HeapTellsWrongFalsely : Prop := heapTellsRow.holds Try.pinned (OpenSpec.ofChange heapTellsWrong)

/-- 'linhaylaw14.HeapSteps': WHATEVER THE INPUT: true; the input reads as it did. -/
def heapStepsSpec : ChangeSpec := { name := "heapSteps", fn := fun _ => fun
  | [d1, d2] => { results := [.lit (.bool true)], args := [d1, d2] }
  | _ => none }
def heapStepsRow : OpenClaim := { program := "ytgkiijpheigpjaa", sum := "ab6c9e38f75aa51af3b598ff9fa128855ff664a76ce8c1d1ea25569098bfe128", func := "linhay/linhaylaw14.HeapSteps", spec := "heapSteps", unfollowed := true, recurses := true, apart := false }
def HeapStepsSaid : Prop := heapStepsRow.holds Try.pinned (OpenSpec.ofChange heapStepsSpec)

/-- ITS FALSE NEIGHBOUR: 'it returns false'. Refute it at one input. -/
def heapStepsWrong : ChangeSpec := { name := "heapSteps", fn := fun _ => fun
  | [d1, d2] => { results := [.lit (.bool false)], args := [d1, d2] }
  | _ => none }
def HeapStepsWrongFalsely : Prop := heapStepsRow.holds Try.pinned (OpenSpec.ofChange heapStepsWrong)

/-- 'linhaylaw14.HeapDrains': WHATEVER THE INPUT: true; the input reads as it did. -/
def heapDrainsSpec : ChangeSpec := { name := "heapDrains", fn := fun _ => fun
  | [d] => { results := [.lit (.bool true)], args := [d] }
  | _ => none }
def heapDrainsRow : OpenClaim := { program := "ytgkiijpheigpjaa", sum := "ab6c9e38f75aa51af3b598ff9fa128855ff664a76ce8c1d1ea25569098bfe128", func := "linhay/linhaylaw14.HeapDrains", spec := "heapDrains", unfollowed := true, recurses := true, apart := false }
def HeapDrainsSaid : Prop := heapDrainsRow.holds Try.pinned (OpenSpec.ofChange heapDrainsSpec)

/-- ITS FALSE NEIGHBOUR: 'it returns false'. Refute it at one input. -/
def heapDrainsWrong : ChangeSpec := { name := "heapDrains", fn := fun _ => fun
  | [d] => { results := [.lit (.bool false)], args := [d] }
  | _ => none }
def HeapDrainsWrongFalsely : Prop := heapDrainsRow.holds Try.pinned (OpenSpec.ofChange heapDrainsWrong)

/-- 'linhaylaw14.HeapSets': WHATEVER THE INPUT: true; the input reads as it did. -/
def heapSetsSpec : ChangeSpec := { name := "heapSets", fn := fun _ => fun
  | [d1, d2, d3] => { results := [.lit (.bool true)], args := [d1, d2, d3] }
  | _ => none }
def heapSetsRow : OpenClaim := { program := "ytgkiijpheigpjaa", sum := "ab6c9e38f75aa51af3b598ff9fa128855ff664a76ce8c1d1ea25569098bfe128", func := "linhay/linhaylaw14.HeapSets", spec := "heapSets", unfollowed := true, recurses := true, apart := false }
def HeapSetsSaid : Prop := heapSetsRow.holds Try.pinned (OpenSpec.ofChange heapSetsSpec)

/-- ITS FALSE NEIGHBOUR: 'it returns false'. Refute it at one input. -/
def heapSetsWrong : ChangeSpec := { name := "heapSets", fn := fun _ => fun
  | [d1, d2, d3] => { results := [.lit (.bool false)], args := [d1, d2, d3] }
  | _ => none }
def HeapSetsWrongFalsely : Prop := heapSetsRow.holds Try.pinned (OpenSpec.ofChange heapSetsWrong)

/-- 'linhaylaw14.HeapOrder': WHATEVER THE INPUT: true; the input reads as it did. -/
def heapOrderSpec : ChangeSpec := { name := "heapOrder", fn := fun _ => fun
  | [d1, d2, d3] => { results := [.lit (.bool true)], args := [d1, d2, d3] }
  | _ => none }
def heapOrderRow : OpenClaim := { program := "ytgkiijpheigpjaa", sum := "ab6c9e38f75aa51af3b598ff9fa128855ff664a76ce8c1d1ea25569098bfe128", func := "linhay/linhaylaw14.HeapOrder", spec := "heapOrder", unfollowed := true, recurses := true, apart := false }
def HeapOrderSaid : Prop := heapOrderRow.holds Try.pinned (OpenSpec.ofChange heapOrderSpec)

/-- ITS FALSE NEIGHBOUR: 'it returns false'. Refute it at one input. -/
def heapOrderWrong : ChangeSpec := { name := "heapOrder", fn := fun _ => fun
  | [d1, d2, d3] => { results := [.lit (.bool false)], args := [d1, d2, d3] }
  | _ => none }
def HeapOrderWrongFalsely : Prop := heapOrderRow.holds Try.pinned (OpenSpec.ofChange heapOrderWrong)

/-- 'linhaylaw14.HeapFirst': WHATEVER THE INPUT: true; the input reads as it did. -/
def heapFirstSpec : ChangeSpec := { name := "heapFirst", fn := fun _ => fun
  | [d1, d2] => { results := [.lit (.bool true)], args := [d1, d2] }
  | _ => none }
def heapFirstRow : OpenClaim := { program := "ytgkiijpheigpjaa", sum := "ab6c9e38f75aa51af3b598ff9fa128855ff664a76ce8c1d1ea25569098bfe128", func := "linhay/linhaylaw14.HeapFirst", spec := "heapFirst", unfollowed := true, recurses := true, apart := false }
def HeapFirstSaid : Prop := heapFirstRow.holds Try.pinned (OpenSpec.ofChange heapFirstSpec)

/-- ITS FALSE NEIGHBOUR: 'it returns false'. Refute it at one input. -/
def heapFirstWrong : ChangeSpec := { name := "heapFirst", fn := fun _ => fun
  | [d1, d2] => { results := [.lit (.bool false)], args := [d1, d2] }
  | _ => none }
def HeapFirstWrongFalsely : Prop := heapFirstRow.holds Try.pinned (OpenSpec.ofChange heapFirstWrong)

/-- 'linhaylaw15.ListTells': WHATEVER THE INPUT: true; the input reads as it did. -/
def listTellsSpec : ChangeSpec := { name := "listTells", fn := fun _ => fun
  | [d1, d2, d3] => { results := [.lit (.bool true)], args := [d1, d2, d3] }
  | _ => none }
def listTellsRow : OpenClaim := { program := "ytgkiijpheigpjaa", sum := "ab6c9e38f75aa51af3b598ff9fa128855ff664a76ce8c1d1ea25569098bfe128", func := "linhay/linhaylaw15.ListTells", spec := "listTells", unfollowed := true, recurses := true, apart := false }
def ListTellsSaid : Prop := listTellsRow.holds Try.pinned (OpenSpec.ofChange listTellsSpec)

/-- ITS FALSE NEIGHBOUR: 'it returns false'. Refute it at one input. -/
def listTellsWrong : ChangeSpec := { name := "listTells", fn := fun _ => fun
  | [d1, d2, d3] => { results := [.lit (.bool false)], args := [d1, d2, d3] }
  | _ => none }
def ListTellsWrongFalsely : Prop := listTellsRow.holds Try.pinned (OpenSpec.ofChange listTellsWrong)

/-- 'linhaylaw15.ListUses': WHATEVER THE INPUT: true; the input reads as it did. -/
def listUsesSpec : ChangeSpec := { name := "listUses", fn := fun _ => fun
  | [d] => { results := [.lit (.bool true)], args := [d] }
  | _ => none }
def listUsesRow : OpenClaim := { program := "ytgkiijpheigpjaa", sum := "ab6c9e38f75aa51af3b598ff9fa128855ff664a76ce8c1d1ea25569098bfe128", func := "linhay/linhaylaw15.ListUses", spec := "listUses", unfollowed := true, recurses := true, apart := false }
def ListUsesSaid : Prop := listUsesRow.holds Try.pinned (OpenSpec.ofChange listUsesSpec)

/-- ITS FALSE NEIGHBOUR: 'it returns false'. Refute it at one input. -/
def listUsesWrong : ChangeSpec := { name := "listUses", fn := fun _ => fun
  | [d] => { results := [.lit (.bool false)], args := [d] }
  | _ => none }
def ListUsesWrongFalsely : Prop := listUsesRow.holds Try.pinned (OpenSpec.ofChange listUsesWrong)

/-- 'linhaylaw15.ListBack': WHATEVER THE INPUT: true; the input reads as it did. -/
def listBackSpec : ChangeSpec := { name := "listBack", fn := fun _ => fun
  | [d1, d2] => { results := [.lit (.bool true)], args := [d1, d2] }
  | _ => none }
def listBackRow : OpenClaim := { program := "ytgkiijpheigpjaa", sum := "ab6c9e38f75aa51af3b598ff9fa128855ff664a76ce8c1d1ea25569098bfe128", func := "linhay/linhaylaw15.ListBack", spec := "listBack", unfollowed := true, recurses := true, apart := false }
def ListBackSaid : Prop := listBackRow.holds Try.pinned (OpenSpec.ofChange listBackSpec)

/-- ITS FALSE NEIGHBOUR: 'it returns false'. Refute it at one input. -/
def listBackWrong : ChangeSpec := { name := "listBack", fn := fun _ => fun
  | [d1, d2] => { results := [.lit (.bool false)], args := [d1, d2] }
  | _ => none }
def ListBackWrongFalsely : Prop := listBackRow.holds Try.pinned (OpenSpec.ofChange listBackWrong)

/-- 'linhaylaw15.ListDrains': WHATEVER THE INPUT: true; the input reads as it did. -/
def listDrainsSpec : ChangeSpec := { name := "listDrains", fn := fun _ => fun
  | [d] => { results := [.lit (.bool true)], args := [d] }
  | _ => none }
def listDrainsRow : OpenClaim := { program := "ytgkiijpheigpjaa", sum := "ab6c9e38f75aa51af3b598ff9fa128855ff664a76ce8c1d1ea25569098bfe128", func := "linhay/linhaylaw15.ListDrains", spec := "listDrains", unfollowed := true, recurses := true, apart := false }
def ListDrainsSaid : Prop := listDrainsRow.holds Try.pinned (OpenSpec.ofChange listDrainsSpec)

/-- ITS FALSE NEIGHBOUR: 'it returns false'. Refute it at one input. -/
def listDrainsWrong : ChangeSpec := { name := "listDrains", fn := fun _ => fun
  | [d] => { results := [.lit (.bool false)], args := [d] }
  | _ => none }
def ListDrainsWrongFalsely : Prop := listDrainsRow.holds Try.pinned (OpenSpec.ofChange listDrainsWrong)

/-- 'linhaylaw15.ListTouch': WHATEVER THE INPUT: true; the input reads as it did. -/
def listTouchSpec : ChangeSpec := { name := "listTouch", fn := fun _ => fun
  | [d1, d2] => { results := [.lit (.bool true)], args := [d1, d2] }
  | _ => none }
def listTouchRow : OpenClaim := { program := "ytgkiijpheigpjaa", sum := "ab6c9e38f75aa51af3b598ff9fa128855ff664a76ce8c1d1ea25569098bfe128", func := "linhay/linhaylaw15.ListTouch", spec := "listTouch", unfollowed := true, recurses := true, apart := false }
def ListTouchSaid : Prop := listTouchRow.holds Try.pinned (OpenSpec.ofChange listTouchSpec)

/-- ITS FALSE NEIGHBOUR: 'it returns false'. Refute it at one input. -/
def listTouchWrong : ChangeSpec := { name := "listTouch", fn := fun _ => fun
  | [d1, d2] => { results := [.lit (.bool false)], args := [d1, d2] }
  | _ => none }
def ListTouchWrongFalsely : Prop := listTouchRow.holds Try.pinned (OpenSpec.ofChange listTouchWrong)

/-- 'linhaylaw15.ListTurns': WHATEVER THE INPUT: true; the input reads as it did. -/
def listTurnsSpec : ChangeSpec := { name := "listTurns", fn := fun _ => fun
  | [d] => { results := [.lit (.bool true)], args := [d] }
  | _ => none }
def listTurnsRow : OpenClaim := { program := "ytgkiijpheigpjaa", sum := "ab6c9e38f75aa51af3b598ff9fa128855ff664a76ce8c1d1ea25569098bfe128", func := "linhay/linhaylaw15.ListTurns", spec := "listTurns", unfollowed := true, recurses := true, apart := false }
def ListTurnsSaid : Prop := listTurnsRow.holds Try.pinned (OpenSpec.ofChange listTurnsSpec)

/-- ITS FALSE NEIGHBOUR: 'it returns false'. Refute it at one input. -/
def listTurnsWrong : ChangeSpec := { name := "listTurns", fn := fun _ => fun
  | [d] => { results := [.lit (.bool false)], args := [d] }
  | _ => none }
def ListTurnsWrongFalsely : Prop := listTurnsRow.holds Try.pinned (OpenSpec.ofChange listTurnsWrong)

/- THE SECOND FORM. 'bulk': how many values and letters a reading holds, each counted each time it is reached (what is shared counts as often as it is met; a slice's spare places count too). A statement '..UptoSaid' is the law's where the arguments, and the package variables that the reading takes, are together of bulk at most 1048576: NARROWER than '..Said'. Prove '..Said' where nothing that the law and all that it calls make is longer than what came in: it says more and counts as full. Else prove '..UptoSaid'. A law counts once. -/
mutual
def uptoBulk {H : Type} : DataW H → Nat
  | .lit (.string bytes) => bytes.length + 1
  | .lit _ => 1
  | .nil => 1
  | .ptr d => uptoBulk d + 1
  | .slice elems spare => uptoBulkAll elems + uptoBulkAll spare + 1
  | .agg parts => uptoBulkAll parts + 1
  | .iface _ d => uptoBulk d + 1
  | .map entries => uptoBulkEntries entries + 1
  | .held _ => 1
def uptoBulkAll {H : Type} : List (DataW H) → Nat
  | [] => 0
  | d :: r => uptoBulk d + uptoBulkAll r
def uptoBulkEntries {H : Type} : List (Lit × DataW H) → Nat
  | [] => 0
  | x :: r => uptoBulkEntry x + uptoBulkEntries r
def uptoBulkEntry {H : Type} : Lit × DataW H → Nat
  | (.string bytes, d) => bytes.length + uptoBulk d + 1
  | (_, d) => uptoBulk d + 1
 end
def uptoSmall : (H : Type) → List (DataW H) → Bool := fun _ ds => decide (uptoBulkAll ds ≤ 1048576)
def OpenSpec.upto (s : _root_.Go.ChangeSpec) : _root_.Go.OpenSpec := { _root_.Go.OpenSpec.ofChange s with cond := some uptoSmall }

/-- 'linhaylaw14.HeapTells', WHERE WHAT IT READS IS OF BULK AT MOST 1048576: true; the input reads as it did. -/
def heapTellsUptoRow : OpenClaim := { program := "ytgkiijpheigpjaa", sum := "ab6c9e38f75aa51af3b598ff9fa128855ff664a76ce8c1d1ea25569098bfe128", func := "linhay/linhaylaw14.HeapTells", spec := "heapTells", unfollowed := true, recurses := true, apart := false, narrowed := true }
def HeapTellsUptoSaid : Prop := heapTellsUptoRow.holds Try.pinned (OpenSpec.upto heapTellsSpec)

/-- 'linhaylaw14.HeapSteps', WHERE WHAT IT READS IS OF BULK AT MOST 1048576: true; the input reads as it did. -/
def heapStepsUptoRow : OpenClaim := { program := "ytgkiijpheigpjaa", sum := "ab6c9e38f75aa51af3b598ff9fa128855ff664a76ce8c1d1ea25569098bfe128", func := "linhay/linhaylaw14.HeapSteps", spec := "heapSteps", unfollowed := true, recurses := true, apart := false, narrowed := true }
def HeapStepsUptoSaid : Prop := heapStepsUptoRow.holds Try.pinned (OpenSpec.upto heapStepsSpec)

/-- 'linhaylaw14.HeapDrains', WHERE WHAT IT READS IS OF BULK AT MOST 1048576: true; the input reads as it did. -/
def heapDrainsUptoRow : OpenClaim := { program := "ytgkiijpheigpjaa", sum := "ab6c9e38f75aa51af3b598ff9fa128855ff664a76ce8c1d1ea25569098bfe128", func := "linhay/linhaylaw14.HeapDrains", spec := "heapDrains", unfollowed := true, recurses := true, apart := false, narrowed := true }
def HeapDrainsUptoSaid : Prop := heapDrainsUptoRow.holds Try.pinned (OpenSpec.upto heapDrainsSpec)

/-- 'linhaylaw14.HeapSets', WHERE WHAT IT READS IS OF BULK AT MOST 1048576: true; the input reads as it did. -/
def heapSetsUptoRow : OpenClaim := { program := "ytgkiijpheigpjaa", sum := "ab6c9e38f75aa51af3b598ff9fa128855ff664a76ce8c1d1ea25569098bfe128", func := "linhay/linhaylaw14.HeapSets", spec := "heapSets", unfollowed := true, recurses := true, apart := false, narrowed := true }
def HeapSetsUptoSaid : Prop := heapSetsUptoRow.holds Try.pinned (OpenSpec.upto heapSetsSpec)

/-- 'linhaylaw14.HeapOrder', WHERE WHAT IT READS IS OF BULK AT MOST 1048576: true; the input reads as it did. -/
def heapOrderUptoRow : OpenClaim := { program := "ytgkiijpheigpjaa", sum := "ab6c9e38f75aa51af3b598ff9fa128855ff664a76ce8c1d1ea25569098bfe128", func := "linhay/linhaylaw14.HeapOrder", spec := "heapOrder", unfollowed := true, recurses := true, apart := false, narrowed := true }
def HeapOrderUptoSaid : Prop := heapOrderUptoRow.holds Try.pinned (OpenSpec.upto heapOrderSpec)

/-- 'linhaylaw14.HeapFirst', WHERE WHAT IT READS IS OF BULK AT MOST 1048576: true; the input reads as it did. -/
def heapFirstUptoRow : OpenClaim := { program := "ytgkiijpheigpjaa", sum := "ab6c9e38f75aa51af3b598ff9fa128855ff664a76ce8c1d1ea25569098bfe128", func := "linhay/linhaylaw14.HeapFirst", spec := "heapFirst", unfollowed := true, recurses := true, apart := false, narrowed := true }
def HeapFirstUptoSaid : Prop := heapFirstUptoRow.holds Try.pinned (OpenSpec.upto heapFirstSpec)

/-- 'linhaylaw15.ListTells', WHERE WHAT IT READS IS OF BULK AT MOST 1048576: true; the input reads as it did. -/
def listTellsUptoRow : OpenClaim := { program := "ytgkiijpheigpjaa", sum := "ab6c9e38f75aa51af3b598ff9fa128855ff664a76ce8c1d1ea25569098bfe128", func := "linhay/linhaylaw15.ListTells", spec := "listTells", unfollowed := true, recurses := true, apart := false, narrowed := true }
def ListTellsUptoSaid : Prop := listTellsUptoRow.holds Try.pinned (OpenSpec.upto listTellsSpec)

/-- 'linhaylaw15.ListUses', WHERE WHAT IT READS IS OF BULK AT MOST 1048576: true; the input reads as it did. -/
def listUsesUptoRow : OpenClaim := { program := "ytgkiijpheigpjaa", sum := "ab6c9e38f75aa51af3b598ff9fa128855ff664a76ce8c1d1ea25569098bfe128", func := "linhay/linhaylaw15.ListUses", spec := "listUses", unfollowed := true, recurses := true, apart := false, narrowed := true }
def ListUsesUptoSaid : Prop := listUsesUptoRow.holds Try.pinned (OpenSpec.upto listUsesSpec)

/-- 'linhaylaw15.ListBack', WHERE WHAT IT READS IS OF BULK AT MOST 1048576: true; the input reads as it did. -/
def listBackUptoRow : OpenClaim := { program := "ytgkiijpheigpjaa", sum := "ab6c9e38f75aa51af3b598ff9fa128855ff664a76ce8c1d1ea25569098bfe128", func := "linhay/linhaylaw15.ListBack", spec := "listBack", unfollowed := true, recurses := true, apart := false, narrowed := true }
def ListBackUptoSaid : Prop := listBackUptoRow.holds Try.pinned (OpenSpec.upto listBackSpec)

/-- 'linhaylaw15.ListDrains', WHERE WHAT IT READS IS OF BULK AT MOST 1048576: true; the input reads as it did. -/
def listDrainsUptoRow : OpenClaim := { program := "ytgkiijpheigpjaa", sum := "ab6c9e38f75aa51af3b598ff9fa128855ff664a76ce8c1d1ea25569098bfe128", func := "linhay/linhaylaw15.ListDrains", spec := "listDrains", unfollowed := true, recurses := true, apart := false, narrowed := true }
def ListDrainsUptoSaid : Prop := listDrainsUptoRow.holds Try.pinned (OpenSpec.upto listDrainsSpec)

/-- 'linhaylaw15.ListTouch', WHERE WHAT IT READS IS OF BULK AT MOST 1048576: true; the input reads as it did. -/
def listTouchUptoRow : OpenClaim := { program := "ytgkiijpheigpjaa", sum := "ab6c9e38f75aa51af3b598ff9fa128855ff664a76ce8c1d1ea25569098bfe128", func := "linhay/linhaylaw15.ListTouch", spec := "listTouch", unfollowed := true, recurses := true, apart := false, narrowed := true }
def ListTouchUptoSaid : Prop := listTouchUptoRow.holds Try.pinned (OpenSpec.upto listTouchSpec)

/-- 'linhaylaw15.ListTurns', WHERE WHAT IT READS IS OF BULK AT MOST 1048576: true; the input reads as it did. -/
def listTurnsUptoRow : OpenClaim := { program := "ytgkiijpheigpjaa", sum := "ab6c9e38f75aa51af3b598ff9fa128855ff664a76ce8c1d1ea25569098bfe128", func := "linhay/linhaylaw15.ListTurns", spec := "listTurns", unfollowed := true, recurses := true, apart := false, narrowed := true }
def ListTurnsUptoSaid : Prop := listTurnsUptoRow.holds Try.pinned (OpenSpec.upto listTurnsSpec)

end Rows
end Go.Proofs.Ytgkiijpheigpjaa
