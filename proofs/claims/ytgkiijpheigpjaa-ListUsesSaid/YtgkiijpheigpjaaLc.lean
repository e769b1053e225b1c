/- The cells of an api.List (stage 15). -/
import Derived.Test.YtgkiijpheigpjaaVbk
import Derived.Test.YtgkiijpheigpjaaLi
namespace Go.Proofs.Try
open Go.RowKit
set_option linter.unusedVariables false
/-- The cell number j of what tells a list. -/
def lsA (x : Ls) (j : Nat) : Value :=
  if j < 64 then .int .i64 (x.nx j) else if j < 128 then .int .i64 (x.pv (j - 64)) else if j < 192 then .bool (x.inn (j - 128)) else if j = 192 then .int .i64 x.hd else .int .i64 x.tl
def lsC (x : Ls) : List Value := (List.range 194).map (lsA x)
theorem lsC_len (x : Ls) : (lsC x).length = 194 := by simp [lsC]
theorem lsC_one (x : Ls) : ∀ v ∈ lsC x, v.oneCell' = true := by
  intro v hv
  simp only [lsC, List.mem_map] at hv
  obtain ⟨j, _, rfl⟩ := hv
  unfold lsA
  repeat' split
  all_goals rfl
theorem lsC_at (x : Ls) {k : Nat} (h : k < 194) : (lsC x).getD k undef = lsA x k := by
  rw [List.getD_eq_getElem?_getD, lsC, List.getElem?_map, List.getElem?_range h]; rfl
theorem lsC_nx (x : Ls) {k : Nat} (h : k < 64) : (lsC x).getD k undef = .int .i64 (x.nx k) := by
  rw [lsC_at x (by omega), lsA, if_pos h]
theorem lsC_pv (x : Ls) {k : Nat} (h : k < 64) : (lsC x).getD (64 + k) undef = .int .i64 (x.pv k) := by
  rw [lsC_at x (by omega), lsA, if_neg (by omega), if_pos (by omega), show 64 + k - 64 = k by omega]
theorem lsC_in (x : Ls) {k : Nat} (h : k < 64) : (lsC x).getD (128 + k) undef = .bool (x.inn k) := by
  rw [lsC_at x (by omega), lsA, if_neg (by omega), if_neg (by omega), if_pos (by omega), show 128 + k - 128 = k by omega]
theorem lsC_hd (x : Ls) : (lsC x).getD 192 undef = .int .i64 x.hd := by
  rw [lsC_at x (by omega), lsA, if_neg (by omega), if_neg (by omega), if_neg (by omega), if_pos rfl]
theorem lsC_tl (x : Ls) : (lsC x).getD 193 undef = .int .i64 x.tl := by
  rw [lsC_at x (by omega), lsA, if_neg (by omega), if_neg (by omega), if_neg (by omega), if_neg (by omega)]
theorem set_map_range (n : Nat) (f : Nat → Value) (k : Nat) (v : Value) : ((List.range n).map f).set k v = (List.range n).map (fun j => if j = k then v else f j) := by
  apply List.ext_getElem?
  intro i
  rw [List.getElem?_set]
  by_cases h : k = i
  · subst h
    rw [if_pos rfl]
    by_cases hn : k < n
    · simp [hn]
    · simp [hn]
  · rw [if_neg h, List.getElem?_map, List.getElem?_map]
    by_cases hn : i < n
    · rw [List.getElem?_range hn]
      simp [Ne.symm h]
    · simp [hn]
theorem lsC_set {x y : Ls} {k : Nat} {v : Value} (h : ∀ j, j < 194 → lsA y j = if j = k then v else lsA x j) : (lsC x).set k v = lsC y := by
  rw [lsC, set_map_range, lsC]
  exact List.map_congr_left (fun j hj => (h j (List.mem_range.1 hj)).symm)
def Ls.setNx (x : Ls) (i : Nat) (v : Int) : Ls := { x with nx := fun j => if j = i then v else x.nx j }
def Ls.setPv (x : Ls) (i : Nat) (v : Int) : Ls := { x with pv := fun j => if j = i then v else x.pv j }
def Ls.setIn (x : Ls) (i : Nat) (v : Bool) : Ls := { x with inn := fun j => if j = i then v else x.inn j }
theorem lsC_setNx (x : Ls) {k : Nat} (hk : k < 64) (v : Int) : (lsC x).set k (.int .i64 v) = lsC (x.setNx k v) := lsC_set (fun j hj => by
  unfold lsA Ls.setNx
  by_cases e : j = k
  · subst e; simp [hk]
  · rw [if_neg e]; simp [e])
theorem lsC_setPv (x : Ls) {k : Nat} (hk : k < 64) (v : Int) : (lsC x).set (64 + k) (.int .i64 v) = lsC (x.setPv k v) := lsC_set (fun j hj => by
  unfold lsA Ls.setPv
  by_cases e : j = 64 + k
  · subst e
    rw [if_pos rfl, if_neg (by omega), if_pos (by omega)]
    simp
  · rw [if_neg e]
    by_cases h1 : j < 64
    · simp [h1]
    · rw [if_neg h1, if_neg h1]
      by_cases h2 : j < 128
      · rw [if_pos h2, if_pos h2]
        have : ¬j - 64 = k := by omega
        simp [this]
      · rw [if_neg h2, if_neg h2])
theorem lsC_setIn (x : Ls) {k : Nat} (hk : k < 64) (v : Bool) : (lsC x).set (128 + k) (.bool v) = lsC (x.setIn k v) := lsC_set (fun j hj => by
  unfold lsA Ls.setIn
  by_cases e : j = 128 + k
  · subst e
    rw [if_pos rfl, if_neg (by omega), if_neg (by omega), if_pos (by omega)]
    simp
  · rw [if_neg e]
    by_cases h1 : j < 64
    · simp [h1]
    · rw [if_neg h1, if_neg h1]
      by_cases h2 : j < 128
      · rw [if_pos h2, if_pos h2]
      · rw [if_neg h2, if_neg h2]
        by_cases h3 : j < 192
        · rw [if_pos h3, if_pos h3]
          have : ¬j - 128 = k := by omega
          simp [this]
        · rw [if_neg h3, if_neg h3])
theorem lsC_setHd (x : Ls) (v : Int) : (lsC x).set 192 (.int .i64 v) = lsC { x with hd := v } := lsC_set (fun j hj => by
  unfold lsA
  by_cases e : j = 192
  · subst e; simp
  · rw [if_neg e]; simp [e])
theorem lsC_setTl (x : Ls) (v : Int) : (lsC x).set 193 (.int .i64 v) = lsC { x with tl := v } := lsC_set (fun j hj => by
  unfold lsA
  by_cases e : j = 193
  · subst e; simp
  · rw [if_neg e]
    by_cases h1 : j < 64
    · simp [h1]
    · by_cases h2 : j < 128
      · simp [h1, h2]
      · by_cases h3 : j < 192
        · simp [h1, h2, h3]
        · have : j = 192 := by omega
          simp [this])
theorem lsC_eq (x y : Ls) : lsC x = lsC y ↔ x.same y := by
  constructor
  · intro h
    have g := fun k => congrArg (fun l => l.getD k undef) h
    refine ⟨fun j hj => ⟨?_, ?_, ?_⟩, ?_, ?_⟩
    · have := g j; simp only [lsC_nx x hj, lsC_nx y hj] at this; injection this
    · have := g (64 + j); simp only [lsC_pv x hj, lsC_pv y hj] at this; injection this
    · have := g (128 + j); simp only [lsC_in x hj, lsC_in y hj] at this; injection this
    · have := g 192; simp only [lsC_hd] at this; injection this
    · have := g 193; simp only [lsC_tl] at this; injection this
  · rintro ⟨h, h1, h2⟩
    unfold lsC
    refine List.map_congr_left (fun j hj => ?_)
    have hj := List.mem_range.1 hj
    unfold lsA
    by_cases a : j < 64
    · rw [if_pos a, if_pos a, (h j a).1]
    · rw [if_neg a, if_neg a]
      by_cases b : j < 128
      · rw [if_pos b, if_pos b, (h (j - 64) (by omega)).2.1]
      · rw [if_neg b, if_neg b]
        by_cases c : j < 192
        · rw [if_pos c, if_pos c, (h (j - 128) (by omega)).2.2]
        · rw [if_neg c, if_neg c, h1, h2]
end Go.Proofs.Try
