/-
  DERIVED. GIVEN WITH THE SEED: THE CARDS: each row of YtempamkacnjhjaaDoorRows.lean that lists a variable, with what it lists TIED to the program's text (the seventh form; the later family's looks); each row that meets fmt, with fmt's text TOLD by the authors' own Lean function (tested against real Go, not proved from fmt's source: count such statements apart). THE CARD IS WHAT COUNTS. Prove the row's statement (the work); the ties are given (YtempamkacnjhjaaDoorTie.lean); close each card by the builder's one call (the guide's Derived/Test/ToyasCard.lean, 'card_holds'). Laid BY PROGRAM, IN A SANDBOX (cutbox-door.mjs). By AI agents, Wed Nov 11 2026. No macro, syntax, notation, axiom, sorry.
-/
import Derived.Test.YtempamkacnjhjaaDoorRows
import GoSem.ClaimSeven
namespace Go.Proofs.YtempamkacnjhjaaDoor
namespace Rows

/-- THE TIED CARD OF 'linhaylaw11.ArenaAll'. -/
def arenaAllCard : Claim7 := { stood := { row := arenaAllRow, standIns := [], harness := (true, "2d4fe290f67f9294cf33cf8a81453be29c4f3bf5f3f773415ee5f48bc53379e0"), looks := false }, kinds := [], alts := [], laidByText := true, laidKinds := [.data], laidTests := true, laidLooks := .later }
def ArenaAllCardSaid : Prop := Claim7.holds Tryd.pinned (.plain (OpenSpec.ofChange arenaAllSpec)) arenaAllCard

/-- THE SECOND FORM's CARD OF 'linhaylaw11.ArenaAll'. -/
def arenaAllUptoCard : Claim7 := { stood := { row := arenaAllUptoRow, standIns := [], harness := (true, "2d4fe290f67f9294cf33cf8a81453be29c4f3bf5f3f773415ee5f48bc53379e0"), looks := false }, kinds := [], alts := [], laidByText := true, laidKinds := [.data], laidTests := true, laidLooks := .later }
def ArenaAllUptoCardSaid : Prop := Claim7.holds Tryd.pinned (.plain (OpenSpec.upto arenaAllSpec)) arenaAllUptoCard
end Rows
end Go.Proofs.YtempamkacnjhjaaDoor
