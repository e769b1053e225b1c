/- Worlds in which only new blocks were made: small steps. -/
import Derived.Test.YtjkjnpcikddoaaaWide
namespace Go.Proofs.Try
open Go.RowKit
end Go.Proofs.Try
