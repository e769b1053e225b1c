/- Worlds in which only new blocks were made: small steps. -/
import Derived.Test.YtbiifigiobnkpaaWide
namespace Go.Proofs.Try
open Go.RowKit
theorem Below.step {B B' : Nat} {a b c : World} (k : Below B' b c) (hB : B ≤ B') (h : Below B a b) : Below B a c := h.trans (k.mono hB)
/-- A world is let go but for what is told of it. -/
theorem let_go {G : World → Prop} {W : World} (F : World → Prop) (h : F W) (k : ∀ W', F W' → G W') : G W := k W h
end Go.Proofs.Try
