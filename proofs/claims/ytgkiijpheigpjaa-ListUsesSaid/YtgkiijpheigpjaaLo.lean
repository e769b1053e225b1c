/- The order that a list tells (stage 15): theory. -/
import Derived.Test.YtgkiijpheigpjaaLe
import Derived.Test.YtgkiijpheigpjaaLt
namespace Go.Proofs.Try
open Go.RowKit
set_option linter.unusedVariables false
set_option linter.unusedSimpArgs false
instance (l : List Nat) : Decidable (mayL l) := by unfold mayL; exact inferInstance
/-- Gone through from the first one. -/
def trl (x : Ls) : List Nat := goN x.nx 64 x.hd
/-- A list is told. -/
def isTB (x : Ls) : Bool := decide (mayL (trl x)) && sameB x (told (trl x))
/-- Its numbers; none, where none is told. -/
def ordL (x : Ls) : List Nat := if isTB x = true then trl x else []
theorem trl_of {x : Ls} {l : List Nat} (hm : mayL l) (h : x.same (told l)) : trl x = l := by
  unfold trl
  rw [h.2.1]
  exact goN_told hm 64 (may_len hm) x.nx (fun j hj => (h.1 j (hm.2 j hj)).1)
theorem isTB_of {x : Ls} {l : List Nat} (hm : mayL l) (h : x.same (told l)) : isTB x = true := by
  unfold isTB
  rw [trl_of hm h, decide_eq_true hm, Bool.true_and]
  exact sameB_iff.2 h
theorem ordL_of {x : Ls} {l : List Nat} (hm : mayL l) (h : x.same (told l)) : ordL x = l := by
  unfold ordL
  rw [if_pos (isTB_of hm h), trl_of hm h]
theorem isTB_iff {x : Ls} : isTB x = true ↔ mayL (ordL x) ∧ x.same (told (ordL x)) := by
  constructor
  · intro h
    have h2 := h
    unfold isTB at h2
    rw [Bool.and_eq_true, decide_eq_true_eq, sameB_iff] at h2
    unfold ordL
    rw [if_pos h]
    exact h2
  · rintro ⟨a, b⟩
    exact isTB_of a b
theorem ordL_no {x : Ls} (h : isTB x = false) : ordL x = [] := by unfold ordL; rw [if_neg (by rw [h]; simp)]
theorem ordL_may (x : Ls) : mayL (ordL x) := by
  cases h : isTB x with
  | true => exact (isTB_iff.1 h).1
  | false => rw [ordL_no h]; exact may_nil
theorem same_refl (x : Ls) : x.same x := ⟨fun _ _ => ⟨rfl, rfl, rfl⟩, rfl, rfl⟩
theorem Ls.same.symm {x y : Ls} (h : x.same y) : y.same x := ⟨fun j hj => ⟨(h.1 j hj).1.symm, (h.1 j hj).2.1.symm, (h.1 j hj).2.2.symm⟩, h.2.1.symm, h.2.2.symm⟩
theorem ordL_told {l : List Nat} (hm : mayL l) : ordL (told l) = l := ordL_of hm (same_refl _)
theorem isTB_told {l : List Nat} (hm : mayL l) : isTB (told l) = true := isTB_of hm (same_refl _)
/-- Who follows in the midst. -/
theorem nxt_mid {o r : List Nat} {z : Nat} (h : (o ++ z :: r).Nodup) : nxt (o ++ z :: r) z = hdI r := by
  induction o with
  | nil => cases r <;> simp [nxt, hdI]
  | cons a o ih =>
    have ih := ih (List.nodup_cons.1 h).2
    have hne : ¬a = z := fun e => (List.nodup_cons.1 h).1 (by rw [e]; simp)
    cases o with
    | nil =>
      simp only [List.cons_append, List.nil_append] at ih ⊢
      rw [nxt, if_neg hne, ih]
    | cons b o =>
      simp only [List.cons_append] at ih ⊢
      rw [nxt, if_neg hne, ih]
/-- How far the list has been gone through. -/
def Gone (x : Ls) (o : List Nat) (id : Int) : Prop := ∀ l, mayL l → x.same (told l) → ∃ rest, l = o ++ rest ∧ id = hdI rest
theorem gone_start (x : Ls) : Gone x [] x.hd := fun l hm h => ⟨l, rfl, h.2.1⟩
theorem gone_step {x : Ls} {o : List Nat} {z : Nat} (h : Gone x o (z : Int)) : Gone x (o ++ [z]) (x.nx z) := by
  intro l hm hs
  obtain ⟨rest, hl, hz⟩ := h l hm hs
  cases rest with
  | nil => simp [hdI] at hz
  | cons y r =>
    have : z = y := by simp [hdI] at hz; omega
    subst this
    refine ⟨r, by rw [hl]; simp, ?_⟩
    have hz6 : z < 64 := hm.2 z (by rw [hl]; simp)
    rw [(hs.1 z hz6).1]
    show nxt l z = hdI r
    rw [hl]
    exact nxt_mid (by rw [← hl]; exact hm.1)
/-- Told whether a number may be gone to. -/
def freshB (S : Nat → Bool) (id : Int) : Bool := decide (0 ≤ id ∧ id < 64) && !S id.toNat
theorem gone_end {x : Ls} {o : List Nat} {id : Int} (h : Gone x o id) (hf : freshB (fun j => decide (j ∈ o)) id = false) {l : List Nat} (hm : mayL l) (hs : x.same (told l)) : l = o := by
  obtain ⟨rest, hl, hz⟩ := h l hm hs
  cases rest with
  | nil => simpa using hl
  | cons y r =>
    exfalso
    have hy : y < 64 := hm.2 y (by rw [hl]; simp)
    have hyo : y ∉ o := fun hy => by
      have hd := hm.1
      rw [hl, List.nodup_append] at hd
      exact hd.2.2 y hy y (by simp) rfl
    unfold freshB at hf
    rw [hz] at hf
    simp [hdI, hyo, hy] at hf
    omega
theorem gone_same {x : Ls} {o : List Nat} {id : Int} (h : Gone x o id) (hf : freshB (fun j => decide (j ∈ o)) id = false) (hm : mayL o) : (x.same (told o) → isTB x = true ∧ ordL x = o) ∧ (¬x.same (told o) → isTB x = false ∧ ordL x = []) := by
  refine ⟨fun h => ⟨isTB_of hm h, ordL_of hm h⟩, fun hn => ?_⟩
  have : isTB x = false := by
    cases hb : isTB x with
    | false => rfl
    | true =>
      have h1 := isTB_iff.1 hb
      exact absurd (by rw [← gone_end h hf h1.1 h1.2]; exact h1.2) hn
  exact ⟨this, ordL_no this⟩
def slN : Value → Nat
  | .slice _ n _ => n
  | _ => 0
theorem own_slN {w : World} {base : Nat} {e : TypeId} {k n : Nat} {v : Value} {xs : List Value} (h : w.ownsRow base e k v n xs) : slN v = n := by
  obtain ⟨A, c, rfl, _⟩ := Sees.of_own h
  rfl
theorem int_info : (Try.prog.info? 3).map (fun i => (i.zero, i.size, i.bytes)) = some (some (.int .i64 0), 1, 8) := by kernel_rfl
theorem info_parts {T : TypeId} {z : Value} {n m : Nat} (h : (Try.prog.info? T).map (fun i => (i.zero, i.size, i.bytes)) = some (some z, n, m)) : ∃ i, Try.prog.info? T = some i ∧ i.zero = some z ∧ i.size = n ∧ i.bytes = m := by
  cases hi : Try.prog.info? T with
  | none => rw [hi] at h; cases h
  | some i =>
    rw [hi] at h
    simp only [Option.map_some, Option.some.injEq, Prod.mk.injEq] at h
    exact ⟨i, rfl, h.1, h.2.1, h.2.2⟩
set_option maxRecDepth 100000 in
set_option maxHeartbeats 2000000 in
theorem fresh_c (id : Int) (b : Nat) (S : Nat → Bool) (W : World) (hm : vbk W b 53 (mkC S)) :
    Calls Try.prog 56 #[.int .i64 id, .pointer (some ⟨b, 0, none⟩)] W fun e w' => e = .returned (.bool (freshB S id)) ∧ W = w' := by
  by_cases hr : 0 ≤ id ∧ id < 64
  · obtain ⟨z, rfl⟩ := Int.eq_ofNat_of_zero_le hr.1
    have hz : z < 64 := by omega
    have N1 := fun W => lnamed_yes (z : Int) hr.1 hr.2 W
    have HF := Lib.hid (show freshB S (z : Int) = !S z by unfold freshB; rw [decide_eq_true hr, Bool.true_and]; rfl)
    have hzl : (z : Int) < 64 := hr.2
    have c0 := (hm.cell (k := z) (by rw [mkC_len]; exact hz)).trans (by rw [mkC_at S hz])
    clear hr hm
    generalize S z = s at c0 HF
    go_enter Try.func56, Try.ntmps56
    go_wp2_with (go_at_call 57; refine (N1 _).mono ?_; rintro e w5 ⟨rfl, rfl⟩)
    go_ret
    exact ⟨ret_b HF.out.symm, rfl⟩
  · have N1 := fun W => lnamed_no id (by omega) W
    have HF := Lib.hid (show freshB S id = false by unfold freshB; rw [decide_eq_false hr, Bool.false_and])
    clear hr hm
    go_enter Try.func56, Try.ntmps56
    go_wp2_with (go_at_call 57; refine (N1 _).mono ?_; rintro e w5 ⟨rfl, rfl⟩)
    go_ret
    exact ⟨ret_b HF.out.symm, rfl⟩
end Go.Proofs.Try
