/- ArenaAll: what stays true through any acts. -/
import Derived.Test.YtempamkacnjhjaaDoorAr8
namespace Go.Proofs.Tryd
open Go.RowKit
set_option linter.unusedVariables false
set_option linter.unusedSimpArgs false
/-- A slot that was taken, and its class. -/
abbrev Tk := Nat × Nat × Int
structure AInv (l : List Sg) (ps : List Tk) : Prop where
  chk : chkL l
  tk : ∀ p, p ∈ ps → tkL l p.1 p.2.1 = true ∧ (at' l p.1).1 = p.2.2
  once : (ps.map fun p => (p.1, p.2.1)).Nodup
  sum : tknL l = (ps.map fun p => byN p.2.2).sum
theorem at_rep (n j : Nat) : at' (List.replicate n ((-1, 0) : Sg)) j = (-1, 0) := by
  unfold at'
  rw [List.getD_eq_getElem?_getD, List.getElem?_replicate]
  split <;> rfl
theorem inv_new (n : Nat) (hn : n ≤ 200) : AInv (List.replicate n (-1, 0)) [] := by
  refine ⟨⟨by simpa using hn, fun s hs => ?_⟩, (fun p hp => by cases hp), by simp, ?_⟩
  · rw [List.eq_of_mem_replicate hs]
    exact .inl ⟨rfl, rfl⟩
  · unfold tknL
    rw [List.map_replicate]
    rw [show byS (-1, 0) = 0 by decide +kernel]
    simp
theorem inv_take {l : List Sg} {ps : List Tk} (h : AInv l ps) (c : Int) (hc : slN c ≠ 0) (i k : Nat) (hs : seekL l c = some (i, k)) : AInv (putL l c i k) (ps ++ [(i, k, c)]) := by
  obtain ⟨hi, hk, hn, hor⟩ := seek_is l c h.chk hc i k hs
  have h64 := slN_le c
  refine ⟨put_ok l c h.chk hc i k hi hk hor, fun p hp => ?_, ?_, ?_⟩
  · rw [put_tk l c i k p.1 p.2.1 hi]
    unfold putL
    rw [at_set l i p.1 _ hi]
    rw [List.mem_append] at hp
    rcases hp with hp | hp
    · obtain ⟨t1, t2⟩ := h.tk p hp
      refine ⟨by rw [t1]; rfl, ?_⟩
      by_cases e : p.1 = i
      · rw [if_pos e]
        rcases hor with g | ⟨g, _⟩
        · rw [← t2, e]; exact g.symm
        · exfalso
          unfold tkL at t1
          rw [e, g] at t1
          simp at t1
      · rw [if_neg e]; exact t2
    · rw [List.mem_singleton] at hp
      subst hp
      exact ⟨by simp, by rw [if_pos rfl]⟩
  · rw [List.map_append, List.nodup_append]
    refine ⟨h.once, by simp, ?_⟩
    intro a ha b hb e
    rw [List.mem_map] at ha
    obtain ⟨p, hp, rfl⟩ := ha
    simp only [List.map_cons, List.map_nil, List.mem_singleton] at hb
    rw [hb] at e
    have t1 := (h.tk p hp).1
    simp only [Prod.mk.injEq] at e
    rw [e.1, e.2, hn] at t1
    cases t1
  · rw [tkn_put l c i k hi (by omega) hn hor, h.sum]
    simp
theorem inv_free {l : List Sg} {ps : List Tk} (h : AInv l ps) (m : Nat) (p : Tk) (hm : ps[m]? = some p) : AInv (delL l p.1 p.2.1) (ps.take m ++ ps.drop (m + 1)) := by
  have hmem := List.mem_of_getElem? hm
  obtain ⟨t1, t2⟩ := h.tk p hmem
  obtain ⟨hi, hk, hne⟩ := tk_lt l h.chk p.1 p.2.1 t1
  have h64 := slN_le (at' l p.1).1
  have hlen : m < ps.length := (List.getElem?_eq_some_iff.1 hm).1
  have hsplit : ps = ps.take m ++ p :: ps.drop (m + 1) := by
    have e := (List.getElem?_eq_some_iff.1 hm).2
    rw [← e, List.getElem_cons_drop, List.take_append_drop]
  have honce : ∀ q, q ∈ ps.take m ++ ps.drop (m + 1) → q ∈ ps ∧ ¬(q.1 = p.1 ∧ q.2.1 = p.2.1) := by
    intro q hq
    have hnd := h.once
    rw [hsplit, List.map_append, List.map_cons, List.nodup_append, List.nodup_cons] at hnd
    obtain ⟨_, ⟨n2, _⟩, n3⟩ := hnd
    rw [List.mem_append] at hq
    rcases hq with hq | hq
    · refine ⟨List.mem_of_mem_take hq, fun e => ?_⟩
      exact n3 (q.1, q.2.1) (List.mem_map.2 ⟨q, hq, rfl⟩) (p.1, p.2.1) (by simp) (by rw [e.1, e.2])
    · refine ⟨List.mem_of_mem_drop hq, fun e => ?_⟩
      exact n2 (List.mem_map.2 ⟨q, hq, by rw [e.1, e.2]⟩)
  refine ⟨del_ok l h.chk p.1 p.2.1 hi t1, fun q hq => ?_, ?_, ?_⟩
  · obtain ⟨q1, q2⟩ := honce q hq
    obtain ⟨s1, s2⟩ := h.tk q q1
    have hq3 : tkL (delL l p.1 p.2.1) q.1 q.2.1 = true := by
      rw [del_tk l p.1 p.2.1 q.1 q.2.1 hi t1, s1, decide_eq_false q2]; rfl
    refine ⟨hq3, ?_⟩
    unfold delL at hq3 ⊢
    unfold tkL at hq3
    rw [at_set l p.1 q.1 _ hi] at hq3 ⊢
    by_cases e : q.1 = p.1
    · rw [if_pos e] at hq3 ⊢
      unfold delS at hq3 ⊢
      split
      · rename_i hz
        rw [if_pos hz] at hq3
        simp at hq3
      · rw [← s2, e]
    · rw [if_neg e]; exact s2
  · have hnd := h.once
    rw [hsplit, List.map_append, List.map_cons] at hnd
    rw [List.map_append]
    exact hnd.sublist (List.Sublist.append (List.Sublist.refl _) (List.sublist_cons_self _ _))
  · have e := tkn_del l p.1 p.2.1 hi (by omega) t1
    have hs := h.sum
    rw [hsplit] at hs
    rw [List.map_append, List.map_cons, List.sum_append, List.sum_cons] at hs
    rw [List.map_append, List.sum_append]
    rw [t2] at e
    omega
end Go.Proofs.Tryd
