/- An api.List that came in (stage 15); numbers that came in. -/
import Derived.Test.YtgkiijpheigpjaaOpenG
import Derived.Test.YtgkiijpheigpjaaLq
namespace Go.Proofs.Try
open Go.ChangeShapes Go.WideShapes Go.ChangeAt Go.RowKit Go.Joins Go.Deep
set_option linter.unusedVariables false
section
variable {H : Type} {enc : TypeId × Value → H} {P : Program}
theorem one_of_take {cs : List Value} {k : Nat} {v : Value} (h : (cs.drop k).take 1 = [v]) : cs[k]? = some v := by
  have := congrArg (fun l => l[0]?) h
  simpa [List.getElem?_take, List.getElem?_drop] using this
theorem el_int {w : World} {base : Nat} {held : Bool} {u : TypeId} {K : IntKind} (hu : P.underlying u = some (.int K)) : ElIs enc P w base held u (fun z : Int => [.int K z]) (fun _ => True) := by
  intro fuel cs x h
  obtain ⟨a, ha, _⟩ := field_int hu h
  exact ⟨a, ha, trivial⟩
theorem el_list {w : World} {base : Nat} {held : Bool} {e a ab u ub : TypeId} {f0 f1 f2 f3 f4 : Field} (he : P.underlying e = some (.struct #[f0, f1, f2, f3, f4])) (ce : P.cellsOf e = 194)
    (o : f0.offset = 0 ∧ f1.offset = 64 ∧ f2.offset = 128 ∧ f3.offset = 192 ∧ f4.offset = 193) (t : f0.type = a ∧ f1.type = a ∧ f2.type = ab ∧ f3.type = u ∧ f4.type = u)
    (c : P.cellsOf a = 64 ∧ P.cellsOf ab = 64 ∧ P.cellsOf u = 1 ∧ P.cellsOf ub = 1) (ha : P.underlying a = some (.array 64 u)) (hab : P.underlying ab = some (.array 64 ub)) (hu : P.underlying u = some (.int .i64)) (hub : P.underlying ub = some .bool) : ElIs enc P w base held e lsC (fun _ => True) := by
  intro fuel cs x h
  obtain ⟨xs, n, _, _, hl, hxl, hg⟩ := DataW.trod_struct he h
  rw [ce] at hl
  have hx : ∀ i, i < 5 → ∃ y, xs[i]? = some y := fun i hi => ⟨_, List.getElem?_eq_getElem (by rw [hxl]; exact hi)⟩
  have g0 := hg 0 f0 rfl
  have g1 := hg 1 f1 rfl
  have g2 := hg 2 f2 rfl
  have g3 := hg 3 f3 rfl
  have g4 := hg 4 f4 rfl
  rw [o.1, t.1, c.1] at g0
  rw [o.2.1, t.2.1, c.1] at g1
  rw [o.2.2.1, t.2.2.1, c.2.1] at g2
  rw [o.2.2.2.1, t.2.2.2.1, c.2.2.1] at g3
  rw [o.2.2.2.2, t.2.2.2.2, c.2.2.1] at g4
  obtain ⟨y0, e0⟩ := hx 0 (by omega)
  obtain ⟨y1, e1⟩ := hx 1 (by omega)
  obtain ⟨y2, e2⟩ := hx 2 (by omega)
  obtain ⟨y3, e3⟩ := hx 3 (by omega)
  obtain ⟨y4, e4⟩ := hx 4 (by omega)
  rw [e0] at g0
  rw [e1] at g1
  rw [e2] at g2
  rw [e3] at g3
  rw [e4] at g4
  have num : ∀ {f : Nat} {b : Nat} {y : DataW H × List MemPlace}, DataW.trod enc P w base (fun _ => true) held f a ((cs.drop b).take 64) = some y → ∀ k, ∃ z : Int, k < 64 → cs[b + k]? = some (.int .i64 z) := by
    intro f b y g k
    by_cases hk : k < 64
    · obtain ⟨zs, m1, rfl, _, _, hn1, hel⟩ := DataW.trod_array ha g
      have g2 := hel k hk
      rw [c.2.2.1, List.getElem?_eq_getElem (by omega)] at g2
      obtain ⟨z, hz, _⟩ := field_int hu g2
      refine ⟨z, fun _ => ?_⟩
      have h1 := one_of_take hz
      rw [Nat.mul_one, List.getElem?_take_of_lt hk, List.getElem?_drop] at h1
      exact h1
    · exact ⟨0, fun h => absurd h hk⟩
  have bo : ∀ k, ∃ z : Bool, k < 64 → cs[128 + k]? = some (.bool z) := by
    intro k
    by_cases hk : k < 64
    · obtain ⟨zs, m1, rfl, _, _, hn1, hel⟩ := DataW.trod_array hab g2
      have g2 := hel k hk
      rw [c.2.2.2, List.getElem?_eq_getElem (by omega)] at g2
      obtain ⟨z, hz, _⟩ := DataW.trod_bool hub g2
      refine ⟨z, fun _ => ?_⟩
      have h1 := one_of_take hz
      rw [Nat.mul_one, List.getElem?_take_of_lt hk, List.getElem?_drop] at h1
      exact h1
    · exact ⟨false, fun h => absurd h hk⟩
  obtain ⟨nx, hnx⟩ := Classical.axiomOfChoice (num g0)
  obtain ⟨pv, hpv⟩ := Classical.axiomOfChoice (num g1)
  obtain ⟨inn, hin⟩ := Classical.axiomOfChoice bo
  obtain ⟨hd, hhd, _⟩ := field_int hu g3
  obtain ⟨tl, htl, _⟩ := field_int hu g4
  have h3 := one_of_take hhd
  have h4 := one_of_take htl
  refine ⟨⟨nx, pv, inn, hd, tl⟩, ?_, trivial⟩
  apply List.ext_getElem?
  intro i
  by_cases hi : i < 194
  · rw [List.getElem?_eq_getElem (l := lsC _) (by rw [lsC_len]; exact hi)]
    have hc := lsC_at ⟨nx, pv, inn, hd, tl⟩ hi
    rw [List.getD_eq_getElem?_getD, List.getElem?_eq_getElem (by rw [lsC_len]; exact hi)] at hc
    simp only [Option.getD_some] at hc
    rw [hc]
    unfold lsA
    by_cases a0 : i < 64
    · rw [if_pos a0]
      have := hnx i a0
      rwa [Nat.zero_add] at this
    · rw [if_neg a0]
      by_cases a1 : i < 128
      · rw [if_pos a1]
        have := hpv (i - 64) (by omega)
        rwa [show 64 + (i - 64) = i by omega] at this
      · rw [if_neg a1]
        by_cases a2 : i < 192
        · rw [if_pos a2]
          have := hin (i - 128) (by omega)
          rwa [show 128 + (i - 128) = i by omega] at this
        · rw [if_neg a2]
          by_cases a3 : i = 192
          · rw [if_pos a3, a3]; exact h3
          · rw [if_neg a3, show i = 193 by omega]; exact h4
  · rw [List.getElem?_eq_none (by omega), List.getElem?_eq_none (by rw [lsC_len]; omega)]
/-- A value of that type, as the walks have it. -/
theorem open_list {w : World} {base : Nat} {held : Bool} {r : Reach} {b0 : Nat} {t : TypeId} {fs : Array Field} {v : Value} {d : DataW H} {p : List MemPlace} (hs : P.underlying t = some (.struct fs))
    (hel : ElIs enc P w base held t lsC (fun _ => True)) (hv : Value.okWide P w r b0 t v) (h : DataW.Trod enc P w base (fun _ => true) held t v d p) : ∃ a, v = .agg (celV (lsC a)) := by
  obtain ⟨a, ha, _⟩ := open_val hs hel hv h
  exact ⟨a, by rw [ha]; unfold celV; rfl⟩
end
end Go.Proofs.Try
