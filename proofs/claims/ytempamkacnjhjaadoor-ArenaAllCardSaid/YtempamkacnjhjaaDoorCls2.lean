/- The contract of class.Cut. -/
import Derived.Test.YtempamkacnjhjaaDoorCls
namespace Go.Proofs.Tryd
open Go.RowKit
set_option linter.unusedVariables false

theorem int_info : (Tryd.prog.info? 3).map (fun i => (i.zero, i.size, i.bytes)) = some (some (.int .i64 0), 1, 8) := by kernel_rfl

/-- The classes of an object's slots. -/
def cutL (size : Int) : List Int := List.replicate (size / 64).toNat 3 ++ (if size % 64 = 0 then [] else [clsF (size % 64)])
/-- A list of numbers is handed back, and no error. -/
def Lists (xs : List Int) (w : World) (r : Ending) (w' : World) : Prop :=
  ∃ A n c, r = .returned (.tuple #[.slice A n c, .int .i64 0]) ∧ CapOk A n c ∧ Sees w' 1 A n (xs.map (Value.int .i64)) ∧ Below w.heap.size w w'
theorem lists_of {w w' : World} {r : Ending} {xs : List Int} {base e n : Nat} {v : Value} (hr : r = .returned (.tuple #[v, .int .i64 0])) (h : w'.ownsRow base e 1 v n (xs.map (Value.int .i64))) (hb : Below w.heap.size w w') : Lists xs w r w' := by
  obtain ⟨A, c, rfl, hc, hs⟩ := Sees.of_own h
  exact ⟨A, n, c, hr, hc, hs, hb⟩

theorem cutL_eq (size t : Int) (k : Nat) (h : 64 * (k : Int) + t = size) (h0 : 0 ≤ t) (h1 : t < 64) : cutL size = List.replicate k 3 ++ (if t = 0 then [] else [clsF t]) := by
  have e1 : (size / 64).toNat = k := by omega
  have e2 : size % 64 = t := by omega
  unfold cutL
  rw [e1, e2]
theorem cutL_0 (size t : Int) (k : Nat) (h : 64 * (k : Int) + t = size) (h0 : t = 0) : cutL size = List.replicate k 3 := by
  rw [cutL_eq size t k h (by omega) (by omega), if_pos h0, List.append_nil]
theorem cutL_1 (size t : Int) (k : Nat) (h : 64 * (k : Int) + t = size) (h0 : 0 < t) (h1 : t < 64) : cutL size = List.replicate k 3 ++ [clsF t] := by
  rw [cutL_eq size t k h (by omega) h1, if_neg (by omega)]
theorem rep_more (k : Nat) : (List.replicate (k + 1) (3 : Int)).map (Value.int .i64) = (List.replicate k (3 : Int)).map (Value.int .i64) ++ [.int .i64 3] := by
  rw [List.replicate_succ', List.map_append]; rfl

end Go.Proofs.Tryd
