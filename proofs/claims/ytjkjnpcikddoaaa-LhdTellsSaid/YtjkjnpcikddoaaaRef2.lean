/- Contracts of linhayref02. -/
import Derived.Test.YtjkjnpcikddoaaaWide2
import Derived.LoopN
namespace Go.Proofs.Try
open Go.RowKit
set_option linter.unusedVariables false

theorem digits_c (xh xl : Int) (h1 : 0 ≤ xh) (h2 : 0 ≤ xl) (g1 : xh < 18446744073709551616) (g2 : xl < 18446744073709551616) (w : World) :
    Calls Try.prog 106 #[.agg #[.int .u64 xh, .int .u64 xl]] w fun r w' => r = .returned (.agg #[.int .u64 (xl % 4294967296), .int .u64 (xl / 4294967296), .int .u64 (xh % 4294967296), .int .u64 (xh / 4294967296)]) ∧ Below w.heap.size w w' := by
  go_enter Try.func106, Try.ntmps106
  go_wp2
  go_returns
  exact ⟨rfl, by (repeat' (first | (with_reducible exact Below.refl _ _) | (with_reducible assumption) | (with_reducible refine Below.alloc ?_ ?_ _) | (with_reducible refine Below.drew ?_) | (with_reducible refine Below_drewN ?_ _) | (with_reducible refine Below.setCell ?_ ?_ _) | (with_reducible refine Below.trans ?_ (Below.mono (by with_reducible assumption) ?_)) | go_size))⟩

theorem whole_c (d0 d1 d2 d3 : Int) (h0 : 0 ≤ d0) (h1 : 0 ≤ d1) (h2 : 0 ≤ d2) (h3 : 0 ≤ d3) (g0 : d0 < 4294967296) (g1 : d1 < 4294967296) (g2 : d2 < 4294967296) (g3 : d3 < 4294967296) (w : World) :
    Calls Try.prog 96 #[.agg #[.int .u64 d0, .int .u64 d1, .int .u64 d2, .int .u64 d3]] w fun r w' => r = .returned (.agg #[.int .u64 (d3 * 4294967296 + d2), .int .u64 (d1 * 4294967296 + d0)]) ∧ Below w.heap.size w w' := by
  go_enter Try.func96, Try.ntmps96
  go_wp2_with fail
  go_returns
  exact ⟨rfl, by (repeat' (first | (with_reducible exact Below.refl _ _) | (with_reducible assumption) | (with_reducible refine Below.alloc ?_ ?_ _) | (with_reducible refine Below.drew ?_) | (with_reducible refine Below_drewN ?_ _) | (with_reducible refine Below.setCell ?_ ?_ _) | (with_reducible refine Below.trans ?_ (Below.mono (by with_reducible assumption) ?_)) | go_size))⟩

theorem rcmp2_c (xh xl yh yl : Int) (w : World) :
    Calls Try.prog 74 #[.agg #[.int .u64 xh, .int .u64 xl], .agg #[.int .u64 yh, .int .u64 yl]] w fun r w' => r = .returned (.int .i64 (cmpW xh xl yh yl)) ∧ Below w.heap.size w w' := by
  have tri : ∀ a b : Int, a < b ∨ a = b ∨ b < a := fun a b => by omega
  rcases tri xh yh with h | h | h <;> rcases tri xl yl with g | g | g
  all_goals
    clear tri
    try subst h
    try subst g
    go_enter Try.func74, Try.ntmps74
    go_wp2
    all_goals
      go_ret
      refine ⟨ret_i ?_, by (repeat' (first | (with_reducible exact Below.refl _ _) | (with_reducible assumption) | (with_reducible refine Below.alloc ?_ ?_ _) | (with_reducible refine Below.drew ?_) | (with_reducible refine Below_drewN ?_ _) | (with_reducible refine Below.setCell ?_ ?_ _) | (with_reducible refine Below.trans ?_ (Below.mono (by with_reducible assumption) ?_)) | go_size))⟩
      unfold cmpW
      (repeat' split) <;> omega

end Go.Proofs.Try
