/- Lists that are told (stage 15): the theory. -/
import Derived.Test.YtgkiijpheigpjaaRw
namespace Go.Proofs.Try
set_option linter.unusedVariables false
/-- Who stands behind j. -/
def nxt : List Nat → Nat → Int
  | a :: b :: t, j => if a = j then (b : Int) else nxt (b :: t) j
  | _, _ => -1
/-- Who stands ahead of j. -/
def prv : List Nat → Nat → Int
  | a :: b :: t, j => if b = j then (a : Int) else prv (b :: t) j
  | _, _ => -1
def hdI : List Nat → Int
  | [] => -1
  | a :: _ => a
def tlI : List Nat → Int
  | [] => -1
  | [a] => a
  | _ :: b :: t => tlI (b :: t)
/-- Numbers that may be told. -/
def mayL (l : List Nat) : Prop := l.Nodup ∧ ∀ x ∈ l, x < 64
theorem nxt_not {l : List Nat} {j : Nat} (h : j ∉ l) : nxt l j = -1 := by
  induction l with
  | nil => rfl
  | cons a t ih => cases t with
    | nil => rfl
    | cons b t =>
      have : ¬a = j := fun e => h (by rw [e]; simp)
      simp only [nxt]
      rw [if_neg this]
      exact ih (fun hm => h (List.mem_cons_of_mem _ hm))
theorem prv_not {l : List Nat} {j : Nat} (h : j ∉ l) : prv l j = -1 := by
  induction l with
  | nil => rfl
  | cons a t ih => cases t with
    | nil => rfl
    | cons b t =>
      have : ¬b = j := fun e => h (by rw [e]; simp)
      simp only [prv]
      rw [if_neg this]
      exact ih (fun hm => h (List.mem_cons_of_mem _ hm))
theorem tl_snoc (l : List Nat) (x : Nat) : tlI (l ++ [x]) = x := by
  induction l with
  | nil => rfl
  | cons a t ih => cases t with
    | nil => rfl
    | cons b t => exact ih
theorem hd_snoc {l : List Nat} (h : l ≠ []) (x : Nat) : hdI (l ++ [x]) = hdI l := by cases l with | nil => exact absurd rfl h | cons a t => rfl
theorem prv_snoc {l : List Nat} {x : Nat} (hx : x ∉ l) (j : Nat) : prv (l ++ [x]) j = if j = x then tlI l else prv l j := by
  induction l with
  | nil => by_cases h : j = x <;> simp [prv, tlI, h]
  | cons a t ih =>
    have ih := ih (fun h => hx (List.mem_cons_of_mem _ h))
    cases t with
    | nil =>
      by_cases h : j = x
      · subst h; simp [prv, tlI]
      · simp [prv, h, Ne.symm h]
    | cons b t =>
      simp only [List.cons_append, prv] at ih ⊢
      by_cases hb : b = j
      · subst hb
        have : ¬b = x := fun e => hx (by rw [← e]; simp)
        simp [this]
      · rw [if_neg hb, ih, if_neg hb]
        by_cases h : j = x
        · rw [if_pos h, if_pos h]; rfl
        · rw [if_neg h, if_neg h]
theorem nxt_snoc {l : List Nat} {x : Nat} (hd : l.Nodup) (hl : l ≠ []) (hx : x ∉ l) (j : Nat) : nxt (l ++ [x]) j = if (j : Int) = tlI l then (x : Int) else nxt l j := by
  induction l with
  | nil => exact absurd rfl hl
  | cons a t ih =>
    cases t with
    | nil =>
      by_cases h : a = j
      · subst h; simp [nxt, tlI]
      · have : ¬(j : Int) = (a : Int) := by omega
        simp [nxt, tlI, h, this]
    | cons b t =>
      have ih := ih (List.nodup_cons.1 hd).2 (by simp) (fun h => hx (List.mem_cons_of_mem _ h))
      rw [show tlI (a :: b :: t) = tlI (b :: t) from rfl]
      simp only [List.cons_append, nxt] at ih ⊢
      by_cases ha : a = j
      · have hne : ¬((j : Int) = tlI (b :: t)) := by
          intro e
          have hm : ∀ (m : List Nat), m ≠ [] → ∃ y ∈ m, tlI m = (y : Int) := by
            intro m
            induction m with
            | nil => intro h; exact absurd rfl h
            | cons c m ihm => intro _; cases m with
              | nil => exact ⟨c, by simp, rfl⟩
              | cons d m => obtain ⟨y, hy, e⟩ := ihm (by simp); exact ⟨y, List.mem_cons_of_mem _ hy, e⟩
          obtain ⟨y, hy, e2⟩ := hm (b :: t) (by simp)
          rw [e2] at e
          have : j = y := by omega
          rw [ha, this] at hd
          exact (List.nodup_cons.1 hd).1 hy
        rw [if_pos ha, if_pos ha, if_neg hne]
      · rw [if_neg ha, if_neg ha]
        exact ih
/-- Gone through from h on. -/
def goN (nx : Nat → Int) : Nat → Int → List Nat
  | 0, _ => []
  | f + 1, h => if 0 ≤ h ∧ h < 64 then h.toNat :: goN nx f (nx h.toNat) else []
theorem goN_congr {f g : Nat → Int} (e : ∀ j, j < 64 → f j = g j) : ∀ n h, goN f n h = goN g n h
  | 0, _ => rfl
  | n + 1, h => by
    unfold goN
    by_cases hh : 0 ≤ h ∧ h < 64
    · rw [if_pos hh, if_pos hh, e h.toNat (by omega), goN_congr e n]
    · rw [if_neg hh, if_neg hh]
theorem goN_told {l : List Nat} (h : mayL l) : ∀ (f : Nat), l.length ≤ f → ∀ g : Nat → Int, (∀ j ∈ l, g j = nxt l j) → goN g f (hdI l) = l := by
  induction l with
  | nil => intro f _ g _; cases f <;> simp [goN, hdI]
  | cons a t ih =>
    intro f hf g hg
    cases f with
    | zero => simp at hf
    | succ f =>
      have ha := h.2 a (by simp)
      unfold goN
      rw [if_pos ⟨by simp [hdI], by simp [hdI]; omega⟩]
      simp only [hdI, Int.toNat_natCast]
      have h' : mayL t := ⟨(List.nodup_cons.1 h.1).2, fun x hx => h.2 x (List.mem_cons_of_mem _ hx)⟩
      have e : g a = hdI t := by
        rw [hg a (by simp)]
        cases t <;> simp [nxt, hdI]
      rw [e, ih h' f (by simpa using hf) g (fun j hj => ?_)]
      rw [hg j (List.mem_cons_of_mem _ hj)]
      cases t with
      | nil => simp at hj
      | cons b t =>
        have : ¬a = j := fun e => (List.nodup_cons.1 h.1).1 (by rw [e]; exact hj)
        simp [nxt, this]
theorem len_le : ∀ (n : Nat) (l : List Nat), l.Nodup → (∀ x ∈ l, x < n) → l.length ≤ n
  | 0, l, _, h => by
    cases l with
    | nil => exact Nat.le_refl _
    | cons a t => exact absurd (h a (by simp)) (by omega)
  | n + 1, l, hd, h => by
    have h1 := len_le n (l.erase n) (hd.erase n) (fun x hx => by
      have := (hd.mem_erase_iff).1 hx
      have := h x this.2
      omega)
    have h2 : l.length ≤ (l.erase n).length + 1 := by
      rw [List.length_erase]
      split <;> omega
    omega
theorem may_len {l : List Nat} (h : mayL l) : l.length ≤ 64 := len_le 64 l h.1 h.2
/-- What tells a list: of whom each is followed, whom it follows, whether it is there; the first, the last. -/
structure Ls where
  nx : Nat → Int
  pv : Nat → Int
  inn : Nat → Bool
  hd : Int
  tl : Int
def told (l : List Nat) : Ls := ⟨nxt l, prv l, fun j => decide (j ∈ l), hdI l, tlI l⟩
/-- The same cells. -/
def Ls.same (x y : Ls) : Prop := (∀ j, j < 64 → x.nx j = y.nx j ∧ x.pv j = y.pv j ∧ x.inn j = y.inn j) ∧ x.hd = y.hd ∧ x.tl = y.tl
theorem told_inj {l m : List Nat} (hl : mayL l) (hm : mayL m) (h : (told l).same (told m)) : l = m := by
  have h1 := goN_told hl 64 (may_len hl) (nxt l) (fun _ _ => rfl)
  have h2 := goN_told hm 64 (may_len hm) (nxt m) (fun _ _ => rfl)
  have e : hdI l = hdI m := h.2.1
  have h3 := goN_congr (f := nxt l) (g := nxt m) (fun j hj => (h.1 j hj).1) 64 (hdI l)
  rw [h1, e, h2] at h3
  exact h3
end Go.Proofs.Try
