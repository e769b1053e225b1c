/- The walk of HeapTells. -/
import Derived.Test.YtgkiijpheigpjaaL14fy
import Derived.Test.YtgkiijpheigpjaaL14fn
namespace Go.Proofs.Try
open Go.RowKit
set_option linter.unusedVariables false
set_option linter.unusedSimpArgs false
set_option maxRecDepth 100000 in
set_option maxHeartbeats 4000000 in
theorem tells_big (A : Option Addr) (n c : Nat) (l : List It) (a0 a1 a2 b0 b1 b2 z : Int) (hn : 100 < n) (hcap : CapOk A n c) (hl : l.length = n) (w : World) (hs : Sees w 3 A n (flat encI l)) :
    Calls Try.prog 3 #[.slice A n c, .agg #[.int .i64 a0, .int .u64 a1, .int .u64 a2], .agg #[.int .i64 b0, .int .u64 b1, .int .u64 b2], .int .i64 z] w fun e w' => e = .returned (.bool true) ∧ Below w.heap.size w w' := by
  have HBW := Lib.hid (chain1 (chain1 (Below.refl w.heap.size w) (.cells #[.int .i64 a0, .int .u64 a1, .int .u64 a2] 25)) (.cells #[.int .i64 b0, .int .u64 b1, .int .u64 b2] 25))
  have qn : decide (100 < (n : Int)) = true := by simp; omega
  have qn' : (100 : Int) < (n : Int) := by omega
  clear hs hl hcap
  go_enter Try.func3, Try.ntmps3
  go_wp2_with fail
  refine (awake14 _).mono ?_
  rintro e w1 ⟨rfl, hb1⟩
  go_wp2_with fail
  go_ret
  exact ⟨by first | rfl | (simp; done), chain HBW.out hb1⟩
theorem walk_HeapTells (v0 : Value) (x y : It) (z : Int) (wz : (Lit.int .i64 z).wf = true) (w : World) (o0 : RowIn encI 3 (fun _ => True) w v0) :
    Calls Try.prog 3 #[v0, .agg (encI x).toArray, .agg (encI y).toArray, .int .i64 z] w fun e w' => e = .returned (.bool true) ∧ Below w.heap.size w w' := by
  obtain ⟨A, n, c, l, rfl, hcap, _, hl, _, hs⟩ := o0
  obtain ⟨x0, x1, x2⟩ := x
  obtain ⟨y0, y1, y2⟩ := y
  by_cases hn : n ≤ 100
  · by_cases hq : chkI l ∧ l ≠ []
    · exact tells_yes A n c l x0 x1 x2 y0 y1 y2 z hn hq hcap hl w hs
    · exact tells_no A n c l x0 x1 x2 y0 y1 y2 z hn hq hcap hl w hs
  · exact tells_big A n c l x0 x1 x2 y0 y1 y2 z (by omega) hcap hl w hs
end Go.Proofs.Try
