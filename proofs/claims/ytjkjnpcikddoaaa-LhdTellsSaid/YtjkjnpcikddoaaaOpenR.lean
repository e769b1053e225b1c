/- A rank that came in: a struct of two arrays of eight. -/
import Derived.Test.YtjkjnpcikddoaaaLaw
import Derived.Test.YtjkjnpcikddoaaaLhd
import Derived.Lib.SmallJoins
namespace Go.Proofs.Try
open Go.ChangeShapes Go.WideShapes Go.ChangeAt Go.RowKit Go.Joins
set_option linter.unusedVariables false
theorem cell_of_take' {cs : List Value} {k : Nat} {v : Value} (h : (cs.drop (k * 1)).take 1 = [v]) : cs[k]? = some v := by
  have h0 := congrArg (fun l => l[0]?) h
  simpa using h0
section
variable {H : Type} {enc : TypeId × Value → H} {P : Program}
theorem open_rank {w : World} {base : Nat} {spare : Nat → Bool} {held : Bool} {r : Reach} {b0 : Nat} {t u e : TypeId} {f0 f1 : Field} {v : Value} {d : DataW H} {p : List MemPlace} (hs : P.underlying t = some (.struct #[f0, f1])) (hu : P.underlying u = some (.array 8 e)) (he : P.underlying e = some (.int .u64))
    (h0 : f0.type = u) (h1 : f1.type = u) (o0 : f0.offset = 0) (o1 : f1.offset = 8) (hC : P.cellsOf t = 16) (hA : P.cellsOf u = 8) (hE : P.cellsOf e = 1) (hv : Value.okWide P w r b0 t v) (h : DataW.Trod enc P w base spare held t v d p) :
    ∃ l : List Nat, v = .agg (u64V l) ∧ Rk l := by
  obtain ⟨cs, rfl, hsz⟩ := okWide_struct hs hv
  obtain ⟨fuel, hf⟩ := h
  obtain ⟨y0, y1, n, hx, hlen, g0, g1⟩ := trod_struct2 hs hf
  rw [h0, hA, o0] at g0
  rw [h1, hA, o1] at g1
  rw [hC] at hsz
  have half : ∀ (fuel : Nat) (ds : List Value) (y : DataW H × List MemPlace), DataW.trod enc P w base spare held fuel u ds = some y → ∀ k, k < 8 → ∃ x : Int, ds[k]? = some (.int .u64 x) ∧ 0 ≤ x ∧ x < 18446744073709551616 := by
    intro fuel ds y g k hk
    obtain ⟨xs, m1, rfl, hx1, hlen1, hn1, hel⟩ := DataW.trod_array hu g
    have g2 := hel k hk
    rw [hE, List.getElem?_eq_getElem (by omega)] at g2
    obtain ⟨x, e1, e2, wx⟩ := DataW.trod_int he g2
    have := bounds_u64 wx
    exact ⟨x, cell_of_take' e1, by omega, by omega⟩
  have key : ∀ k, k < 16 → ∃ x : Int, cs.toList[k]? = some (.int .u64 x) ∧ 0 ≤ x ∧ x < 18446744073709551616 := by
    intro k hk
    by_cases h8 : k < 8
    · obtain ⟨x, e1, e2⟩ := half _ _ _ g0 k h8
      refine ⟨x, ?_, e2⟩
      rw [List.getElem?_take_of_lt h8, List.getElem?_drop, Nat.zero_add] at e1
      exact e1
    · obtain ⟨x, e1, e2⟩ := half _ _ _ g1 (k - 8) (by omega)
      refine ⟨x, ?_, e2⟩
      rw [List.getElem?_take_of_lt (by omega), List.getElem?_drop, show 8 + (k - 8) = k by omega] at e1
      exact e1
  refine ⟨(List.range 16).map fun k => (intOf (cs.toList.getD k undef)).toNat, ?_, by simp, fun k => ?_⟩
  · congr 1
    apply Array.ext'
    rw [show (u64V ((List.range 16).map fun k => (intOf (cs.toList.getD k undef)).toNat)).toList = ((List.range 16).map fun k => (intOf (cs.toList.getD k undef)).toNat).map (fun (n : Nat) => Value.int .u64 (n : Int)) by unfold u64V; simp]
    apply List.ext_getElem?
    intro k
    by_cases hk : k < 16
    · obtain ⟨x, e1, e2, e3⟩ := key k hk
      rw [List.getElem?_map, List.getElem?_map, List.getElem?_range hk]
      simp only [Option.map_some]
      rw [e1, List.getD_eq_getElem?_getD, e1]
      simp only [Option.getD_some, intOf]
      rw [Int.toNat_of_nonneg e2]
    · rw [List.getElem?_eq_none (by simp; omega), List.getElem?_eq_none (by simp; omega)]
  · by_cases hk : k < 16
    · obtain ⟨x, e1, e2, e3⟩ := key k hk
      rw [List.getD_eq_getElem?_getD, List.getElem?_map, List.getElem?_range hk]
      simp only [Option.map_some, Option.getD_some]
      rw [List.getD_eq_getElem?_getD, e1]
      simp only [Option.getD_some, intOf]
      omega
    · rw [List.getD_eq_getElem?_getD, List.getElem?_eq_none (by simp; omega)]
      simp
end
end Go.Proofs.Try
