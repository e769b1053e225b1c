/-
  DERIVED. GIVEN WITH THE SEED: THE CARDS: each row of YtfdjgdogcknoiaaDoorRows.lean that lists a variable, with what it lists TIED to the program's text (the seventh form; the later family's looks); each row that meets fmt, with fmt's text TOLD by the authors' own Lean function (tested against real Go, not proved from fmt's source: count such statements apart). THE CARD IS WHAT COUNTS. Prove the row's statement (the work); the ties are given (YtfdjgdogcknoiaaDoorTie.lean); close each card by the builder's one call (the guide's Derived/Test/ToyasCard.lean, 'card_holds'). Laid BY PROGRAM, IN A SANDBOX (cutbox-door.mjs). By AI agents, Wed Nov 11 2026. No macro, syntax, notation, axiom, sorry.
-/
import Derived.Test.YtfdjgdogcknoiaaDoorRows
import GoSem.ClaimSeven
namespace Go.Proofs.YtfdjgdogcknoiaaDoor
namespace Rows

/-- THE TIED CARD OF 'linhaylaw06.SumTells'. -/
def sumTellsCard : Claim7 := { stood := { row := sumTellsRow, standIns := [], harness := (true, "2bf99e4d2a30c5802a0c870a4f76f200f04476d3a2e4050716e87a43314d779a"), looks := false }, kinds := [], alts := [], laidByText := true, laidKinds := [.data], laidTests := true, laidLooks := .later }
def SumTellsCardSaid : Prop := Claim7.holds Tryd.pinned (.plain (OpenSpec.ofChange sumTellsSpec)) sumTellsCard

/-- THE TIED CARD OF 'linhaylaw06.SumParts'. -/
def sumPartsCard : Claim7 := { stood := { row := sumPartsRow, standIns := [], harness := (true, "2bf99e4d2a30c5802a0c870a4f76f200f04476d3a2e4050716e87a43314d779a"), looks := false }, kinds := [], alts := [], laidByText := true, laidKinds := [.data], laidTests := true, laidLooks := .later }
def SumPartsCardSaid : Prop := Claim7.holds Tryd.pinned (.plain (OpenSpec.ofChange sumPartsSpec)) sumPartsCard

/-- THE TIED CARD OF 'linhaylaw06.SumBack'. -/
def sumBackCard : Claim7 := { stood := { row := sumBackRow, standIns := [], harness := (true, "2bf99e4d2a30c5802a0c870a4f76f200f04476d3a2e4050716e87a43314d779a"), looks := false }, kinds := [], alts := [], laidByText := true, laidKinds := [.data], laidTests := true, laidLooks := .later }
def SumBackCardSaid : Prop := Claim7.holds Tryd.pinned (.plain (OpenSpec.ofChange sumBackSpec)) sumBackCard

/-- THE TIED CARD OF 'linhaylaw06.SumBurst'. -/
def sumBurstCard : Claim7 := { stood := { row := sumBurstRow, standIns := [], harness := (true, "2bf99e4d2a30c5802a0c870a4f76f200f04476d3a2e4050716e87a43314d779a"), looks := false }, kinds := [], alts := [], laidByText := true, laidKinds := [.data], laidTests := true, laidLooks := .later }
def SumBurstCardSaid : Prop := Claim7.holds Tryd.pinned (.plain (OpenSpec.ofChange sumBurstSpec)) sumBurstCard

/-- THE TIED CARD OF 'linhaylaw06.SumMixed'. -/
def sumMixedCard : Claim7 := { stood := { row := sumMixedRow, standIns := [], harness := (true, "2bf99e4d2a30c5802a0c870a4f76f200f04476d3a2e4050716e87a43314d779a"), looks := false }, kinds := [], alts := [], laidByText := true, laidKinds := [.data], laidTests := true, laidLooks := .later }
def SumMixedCardSaid : Prop := Claim7.holds Tryd.pinned (.plain (OpenSpec.ofChange sumMixedSpec)) sumMixedCard

/-- THE TIED CARD OF 'linhaylaw06.SumCuts'. -/
def sumCutsCard : Claim7 := { stood := { row := sumCutsRow, standIns := [], harness := (true, "2bf99e4d2a30c5802a0c870a4f76f200f04476d3a2e4050716e87a43314d779a"), looks := false }, kinds := [], alts := [], laidByText := true, laidKinds := [.data], laidTests := true, laidLooks := .later }
def SumCutsCardSaid : Prop := Claim7.holds Tryd.pinned (.plain (OpenSpec.ofChange sumCutsSpec)) sumCutsCard

/-- THE SECOND FORM's CARD OF 'linhaylaw06.SumTells'. -/
def sumTellsUptoCard : Claim7 := { stood := { row := sumTellsUptoRow, standIns := [], harness := (true, "2bf99e4d2a30c5802a0c870a4f76f200f04476d3a2e4050716e87a43314d779a"), looks := false }, kinds := [], alts := [], laidByText := true, laidKinds := [.data], laidTests := true, laidLooks := .later }
def SumTellsUptoCardSaid : Prop := Claim7.holds Tryd.pinned (.plain (OpenSpec.upto sumTellsSpec)) sumTellsUptoCard

/-- THE SECOND FORM's CARD OF 'linhaylaw06.SumParts'. -/
def sumPartsUptoCard : Claim7 := { stood := { row := sumPartsUptoRow, standIns := [], harness := (true, "2bf99e4d2a30c5802a0c870a4f76f200f04476d3a2e4050716e87a43314d779a"), looks := false }, kinds := [], alts := [], laidByText := true, laidKinds := [.data], laidTests := true, laidLooks := .later }
def SumPartsUptoCardSaid : Prop := Claim7.holds Tryd.pinned (.plain (OpenSpec.upto sumPartsSpec)) sumPartsUptoCard

/-- THE SECOND FORM's CARD OF 'linhaylaw06.SumBack'. -/
def sumBackUptoCard : Claim7 := { stood := { row := sumBackUptoRow, standIns := [], harness := (true, "2bf99e4d2a30c5802a0c870a4f76f200f04476d3a2e4050716e87a43314d779a"), looks := false }, kinds := [], alts := [], laidByText := true, laidKinds := [.data], laidTests := true, laidLooks := .later }
def SumBackUptoCardSaid : Prop := Claim7.holds Tryd.pinned (.plain (OpenSpec.upto sumBackSpec)) sumBackUptoCard

/-- THE SECOND FORM's CARD OF 'linhaylaw06.SumBurst'. -/
def sumBurstUptoCard : Claim7 := { stood := { row := sumBurstUptoRow, standIns := [], harness := (true, "2bf99e4d2a30c5802a0c870a4f76f200f04476d3a2e4050716e87a43314d779a"), looks := false }, kinds := [], alts := [], laidByText := true, laidKinds := [.data], laidTests := true, laidLooks := .later }
def SumBurstUptoCardSaid : Prop := Claim7.holds Tryd.pinned (.plain (OpenSpec.upto sumBurstSpec)) sumBurstUptoCard

/-- THE SECOND FORM's CARD OF 'linhaylaw06.SumMixed'. -/
def sumMixedUptoCard : Claim7 := { stood := { row := sumMixedUptoRow, standIns := [], harness := (true, "2bf99e4d2a30c5802a0c870a4f76f200f04476d3a2e4050716e87a43314d779a"), looks := false }, kinds := [], alts := [], laidByText := true, laidKinds := [.data], laidTests := true, laidLooks := .later }
def SumMixedUptoCardSaid : Prop := Claim7.holds Tryd.pinned (.plain (OpenSpec.upto sumMixedSpec)) sumMixedUptoCard

/-- THE SECOND FORM's CARD OF 'linhaylaw06.SumCuts'. -/
def sumCutsUptoCard : Claim7 := { stood := { row := sumCutsUptoRow, standIns := [], harness := (true, "2bf99e4d2a30c5802a0c870a4f76f200f04476d3a2e4050716e87a43314d779a"), looks := false }, kinds := [], alts := [], laidByText := true, laidKinds := [.data], laidTests := true, laidLooks := .later }
def SumCutsUptoCardSaid : Prop := Claim7.holds Tryd.pinned (.plain (OpenSpec.upto sumCutsSpec)) sumCutsUptoCard
end Rows
end Go.Proofs.YtfdjgdogcknoiaaDoor
