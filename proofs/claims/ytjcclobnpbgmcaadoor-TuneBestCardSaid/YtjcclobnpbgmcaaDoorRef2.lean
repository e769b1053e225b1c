/- Contracts of linhayref02. -/
import Derived.Test.YtjcclobnpbgmcaaDoorWide2
import Derived.LoopN
namespace Go.Proofs.Tryd
open Go.RowKit
set_option linter.unusedVariables false

theorem digits_c (xh xl : Int) (h1 : 0 ≤ xh) (h2 : 0 ≤ xl) (g1 : xh < 18446744073709551616) (g2 : xl < 18446744073709551616) (w : World) :
    Calls Tryd.prog 82 #[.agg #[.int .u64 xh, .int .u64 xl]] w fun r w' => r = .returned (.agg #[.int .u64 (xl % 4294967296), .int .u64 (xl / 4294967296), .int .u64 (xh % 4294967296), .int .u64 (xh / 4294967296)]) ∧ Below w.heap.size w w' := by
  go_enter Tryd.func82, Tryd.ntmps82
  go_wp2
  go_returns
  exact ⟨rfl, by (repeat' (first | (with_reducible exact Below.refl _ _) | (with_reducible assumption) | (with_reducible refine Below.alloc ?_ ?_ _) | (with_reducible refine Below.drew ?_) | (with_reducible refine Below_drewN ?_ _) | (with_reducible refine Below.setCell ?_ ?_ _) | (with_reducible refine Below.trans ?_ (Below.mono (by with_reducible assumption) ?_)) | go_size))⟩

theorem whole_c (d0 d1 d2 d3 : Int) (h0 : 0 ≤ d0) (h1 : 0 ≤ d1) (h2 : 0 ≤ d2) (h3 : 0 ≤ d3) (g0 : d0 < 4294967296) (g1 : d1 < 4294967296) (g2 : d2 < 4294967296) (g3 : d3 < 4294967296) (w : World) :
    Calls Tryd.prog 76 #[.agg #[.int .u64 d0, .int .u64 d1, .int .u64 d2, .int .u64 d3]] w fun r w' => r = .returned (.agg #[.int .u64 (d3 * 4294967296 + d2), .int .u64 (d1 * 4294967296 + d0)]) ∧ Below w.heap.size w w' := by
  go_enter Tryd.func76, Tryd.ntmps76
  go_wp2_with fail
  go_returns
  exact ⟨rfl, by (repeat' (first | (with_reducible exact Below.refl _ _) | (with_reducible assumption) | (with_reducible refine Below.alloc ?_ ?_ _) | (with_reducible refine Below.drew ?_) | (with_reducible refine Below_drewN ?_ _) | (with_reducible refine Below.setCell ?_ ?_ _) | (with_reducible refine Below.trans ?_ (Below.mono (by with_reducible assumption) ?_)) | go_size))⟩

end Go.Proofs.Tryd
