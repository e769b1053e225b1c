/- Worlds in which only new blocks were made: small steps. -/
import Derived.Test.YtighjibggjjieaaDoorWide
namespace Go.Proofs.Tryd
open Go.RowKit
end Go.Proofs.Tryd
