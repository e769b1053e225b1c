/- Worlds in which only new blocks were made: small steps. -/
import Derived.Test.YtjcclobnpbgmcaaDoorWide
namespace Go.Proofs.Tryd
open Go.RowKit
end Go.Proofs.Tryd
