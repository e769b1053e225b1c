/- The walks of ArenaBack, ArenaTurns. -/
import Derived.Test.YtempamkacnjhjaaDoorOpenS
import Derived.Test.YtempamkacnjhjaaDoorW11
import Derived.Test.YtempamkacnjhjaaDoorLater
import Derived.Test.YtempamkacnjhjaaDoorRef10
namespace Go.Proofs.Tryd
open Go.RowKit
set_option linter.unusedVariables false
set_option linter.unusedSimpArgs false
theorem segs_of {w : World} {A : Option Addr} {n c : Nat} {l : List Sg} (hc : CapOk A n c) (hn : n ≤ 100) (hl : l.length = n) (hu : ∀ j, (at' l j).2 < 18446744073709551616) (hs : Sees w 2 A n (segC l)) : Segs w (.slice A n c) n l :=
  ⟨A, c, rfl, hc, by omega, hl, hu, hs⟩
/-- What Take answers is one of three. -/
theorem tk_err (l : List Sg) (c : Int) (hc : chkL l) : (∃ E, (E = 100 ∨ E = 110) ∧ tkR l c = (l, 0, 0, E)) ∨ ∃ i k, slN c ≠ 0 ∧ seekL l c = some (i, k) ∧ tkR l c = (putL l c i k, (i : Int), (k : Int), 0) := by
  unfold tkR
  rw [if_pos hc]
  by_cases hk : slN c = 0
  · exact .inl ⟨100, .inl rfl, by rw [if_pos hk]⟩
  · rw [if_neg hk]
    cases hs : seekL l c with
    | none => exact .inl ⟨110, .inr rfl, rfl⟩
    | some p => exact .inr ⟨p.1, p.2, hk, rfl, rfl⟩
theorem put_has (l : List Sg) (c : Int) (i k : Nat) (hi : i < l.length) (x y : Int) : hasL (putL l c i k) x y = (hasL l x y || decide (x = (i : Int) ∧ y = (k : Int))) := by
  unfold hasL
  by_cases hx : 0 ≤ x
  · by_cases hy : 0 ≤ y
    · rw [put_tk _ _ _ _ _ _ hi]
      have e : decide (x.toNat = i ∧ y.toNat = k) = decide (x = (i : Int) ∧ y = (k : Int)) := by
        congr 1
        apply propext
        omega
      rw [e]
      simp [hx, hy]
    · have e : decide (x = (i : Int) ∧ y = (k : Int)) = false := by simp; omega
      simp [hy, e]
  · have e : decide (x = (i : Int) ∧ y = (k : Int)) = false := by simp; omega
    simp [hx, e]
end Go.Proofs.Tryd
