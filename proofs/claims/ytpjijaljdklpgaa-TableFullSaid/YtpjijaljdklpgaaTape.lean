/- Contracts of the package tape: Left, Draw. -/
import Derived.Test.YtpjijaljdklpgaaBase
import Derived.Lib.LazyBuf
import Derived.RegionTactic
import Derived.Laws.BitsAllLaws
namespace Go.Proofs.Try
open Go.RowKit
set_option linter.unusedVariables false

/-- A tape. -/
def tp (s : ByteArray) (at_ : Int) : Value := .agg #[.string s, .int .i64 at_]
/-- A byte of a text, as a number. -/
def bt (s : ByteArray) (i : Nat) : Int := ((s.data.toList.getD i 0).toNat : Int)
/-- How many draws a text has. -/
def many (s : ByteArray) : Int := (s.size : Int) / 4
def leftN (s : ByteArray) (i : Int) : Int := max 0 (many s - max 0 i)
def inside (s : ByteArray) (i : Int) : Prop := 0 ≤ i ∧ i < many s
instance (s : ByteArray) (i : Int) : Decidable (inside s i) := by unfold inside; infer_instance
def drawN (s : ByteArray) (i : Int) : Int := if inside s i then bt s (4 * i.toNat) + 256 * bt s (4 * i.toNat + 1) + 65536 * bt s (4 * i.toNat + 2) + 16777216 * bt s (4 * i.toNat + 3) else 0
def nextN (s : ByteArray) (i : Int) : Int := if inside s i then i + 1 else i

end Go.Proofs.Try
