/- One more is told (stage 15). -/
import Derived.Test.YtgkiijpheigpjaaLc
namespace Go.Proofs.Try
set_option linter.unusedVariables false
theorem tl_nat {l : List Nat} (h : l ≠ []) : ∃ y ∈ l, tlI l = (y : Int) := by
  induction l with
  | nil => exact absurd rfl h
  | cons c m ih => cases m with
    | nil => exact ⟨c, by simp, rfl⟩
    | cons d m => obtain ⟨y, hy, e⟩ := ih (by simp); exact ⟨y, List.mem_cons_of_mem _ hy, e⟩
theorem tl_none {l : List Nat} : tlI l = -1 ↔ l = [] := by
  constructor
  · intro h
    apply Classical.byContradiction
    intro hl
    obtain ⟨y, _, e⟩ := tl_nat hl
    omega
  · rintro rfl; rfl
theorem told_one (x : Nat) : told [x] = { ((told []).setIn x true).setPv x (-1) with hd := (x : Int), tl := (x : Int) } := by
  unfold told Ls.setIn Ls.setPv
  simp only [Ls.mk.injEq]
  refine ⟨?_, ?_, ?_, rfl, rfl⟩
  · funext j; simp [nxt]
  · funext j; simp [prv]
  · funext j; by_cases h : j = x <;> simp [h]
theorem told_snoc {l : List Nat} (hm : mayL l) (hl : l ≠ []) {x : Nat} (hx : x ∉ l) : told (l ++ [x]) = { (((told l).setIn x true).setPv x (tlI l)).setNx (tlI l).toNat x with tl := (x : Int) } := by
  obtain ⟨y, hy, e⟩ := tl_nat hl
  unfold told Ls.setIn Ls.setPv Ls.setNx
  simp only [Ls.mk.injEq]
  refine ⟨?_, ?_, ?_, hd_snoc hl x, tl_snoc l x⟩
  · funext j
    rw [nxt_snoc hm.1 hl hx, e]
    simp only [Int.toNat_natCast]
    by_cases h : j = y
    · subst h; simp
    · have : ¬(j : Int) = (y : Int) := by omega
      rw [if_neg this, if_neg h]
  · funext j
    rw [prv_snoc hx]
  · funext j
    by_cases h : j = x
    · subst h; simp
    · simp [h]
theorem may_snoc {l : List Nat} {x : Nat} : mayL (l ++ [x]) ↔ mayL l ∧ x ∉ l ∧ x < 64 := by
  unfold mayL
  rw [List.nodup_append]
  constructor
  · rintro ⟨⟨h1, _, h2⟩, h3⟩
    exact ⟨⟨h1, fun y hy => h3 y (by simp [hy])⟩, fun hx => h2 x hx x (by simp) rfl, h3 x (by simp)⟩
  · rintro ⟨⟨h1, h2⟩, h3, h4⟩
    refine ⟨⟨h1, by simp, fun a ha b hb e => ?_⟩, fun y hy => ?_⟩
    · simp at hb; rw [e, hb] at ha; exact h3 ha
    · rw [List.mem_append] at hy
      rcases hy with hy | hy
      · exact h2 y hy
      · simp at hy; rw [hy]; exact h4
theorem may_take {l : List Nat} (h : mayL l) (k : Nat) : mayL (l.take k) := ⟨h.1.sublist (List.take_sublist _ _), fun x hx => h.2 x (List.mem_of_mem_take hx)⟩
theorem may_nil : mayL [] := ⟨by simp, by simp⟩
/-- Who follows, place by place. -/
theorem nxt_at {l : List Nat} (h : l.Nodup) : ∀ {i : Nat} (hi : i < l.length), nxt l l[i] = if h1 : i + 1 < l.length then (l[i + 1] : Int) else -1 := by
  induction l with
  | nil => intro i hi; simp at hi
  | cons a t ih =>
    intro i hi
    cases t with
    | nil => have : i = 0 := by simpa using hi
             subst this; simp [nxt]
    | cons b t =>
      have hd := (List.nodup_cons.1 h).2
      cases i with
      | zero => simp [nxt]
      | succ i =>
        have hm : (b :: t)[i]'(by simpa using hi) ∈ b :: t := List.getElem_mem _
        have hne : ¬a = (b :: t)[i]'(by simpa using hi) := fun e => (List.nodup_cons.1 h).1 (by rw [e]; exact hm)
        simp only [List.getElem_cons_succ, nxt]
        rw [if_neg hne, ih hd (by simpa using hi)]
        by_cases h1 : i + 1 < (b :: t).length
        · rw [dif_pos h1, dif_pos (by simpa using h1)]; rfl
        · rw [dif_neg h1, dif_neg (by simpa using h1)]
end Go.Proofs.Try
