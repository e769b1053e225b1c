/- What is picked: unlike, below the number, and the first ones do not hang on how many. -/
import Derived.Test.YthijffdljoeelaaL8d
namespace Go.Proofs.Try
open Go.RowKit
set_option linter.unusedVariables false

theorem someA_val (s : ByteArray) : ∀ (m : Nat) (i : Int) (n : Nat), m ≤ n → n ≤ 1000 → someA s m i n = if i < 0 then i else i + min (m : Int) (leftN s i)
  | 0, i, n, _, _ => by
    have : 0 ≤ leftN s i := by unfold leftN; omega
    rw [someA]; split <;> omega
  | m + 1, i, n, h1, h2 => by
    have e : pickA s i n = nextN s i := by unfold pickA; rw [if_pos ⟨by omega, by omega⟩]
    rw [someA, e, someA_val s m _ _ (by omega) (by omega)]
    unfold nextN
    by_cases h : inside s i
    · obtain ⟨g0, g1⟩ := h
      rw [if_pos (show inside s i from ⟨g0, g1⟩), if_neg (by omega), if_neg (by omega)]
      unfold leftN
      omega
    · rw [if_neg h]
      by_cases h0 : i < 0
      · rw [if_pos h0, if_pos h0]
      · rw [if_neg h0, if_neg h0]
        have : leftN s i = 0 := by unfold leftN; unfold inside at h; omega
        omega
theorem someL_take (s : ByteArray) : ∀ (m M : Nat) (i : Int) (L : List Int), m ≤ M → (someL s M i L).take m = someL s m i L
  | 0, M, i, L, _ => by rw [List.take_zero, someL]
  | m + 1, M, i, L, h => by
    obtain ⟨M', rfl⟩ : ∃ M', M = M' + 1 := ⟨M - 1, by omega⟩
    rw [someL, someL, List.take_succ_cons, someL_take s m M' _ _ (by omega)]
theorem perm_erase : ∀ (L : List Int) (a : Nat), a < L.length → (L.getD a 0 :: L.eraseIdx a).Perm L
  | [], a, h => by simp at h
  | x :: L, 0, h => by simp
  | x :: L, a + 1, h => by
    have := perm_erase L a (by simpa using h)
    simp only [List.getD_cons_succ, List.eraseIdx_cons_succ]
    exact (List.Perm.swap _ _ _).trans (this.cons x)
theorem someL_perm (s : ByteArray) : ∀ (m : Nat) (i : Int) (L : List Int), m ≤ L.length → L.length ≤ 1000 → ∃ R, (someL s m i L ++ R).Perm L
  | 0, i, L, _, _ => ⟨L, by rw [someL]; exact List.Perm.refl _⟩
  | m + 1, i, L, h1, h2 => by
    obtain ⟨p0, p1⟩ := pickN_in s i L.length (by omega) h2
    have ha : (pickN s i L.length).toNat < L.length := by omega
    have hl : (L.eraseIdx (pickN s i L.length).toNat).length = L.length - 1 := by rw [List.length_eraseIdx, if_pos ha]
    obtain ⟨R, hR⟩ := someL_perm s m (pickA s i L.length) (L.eraseIdx (pickN s i L.length).toNat) (by omega) (by omega)
    refine ⟨R, ?_⟩
    rw [someL, List.cons_append]
    exact (hR.cons _).trans (perm_erase L _ ha)
theorem ups_nodup (k : Nat) : (ups k).Nodup := by
  unfold ups
  exact List.pairwise_map.2 ((List.nodup_range (n := k)).imp fun h e => h (by injection e))
theorem someL_fine (s : ByteArray) (m : Nat) (i : Int) (k : Nat) (h1 : m ≤ k) (h2 : k ≤ 1000) : (someL s m i (ups k)).Nodup ∧ ∀ x ∈ someL s m i (ups k), 0 ≤ x ∧ x < k := by
  obtain ⟨R, hR⟩ := someL_perm s m i (ups k) (by rw [ups_len]; exact h1) (by rw [ups_len]; exact h2)
  refine ⟨(List.nodup_append.1 (hR.nodup_iff.2 (ups_nodup k))).1, fun x hx => ?_⟩
  have := hR.mem_iff.1 (List.mem_append_left R hx)
  unfold ups at this
  obtain ⟨j, hj, rfl⟩ := List.mem_map.1 this
  have := List.mem_range.1 hj
  simp; omega
theorem getD_in (L : List Int) (j : Nat) (h : j < L.length) : L.getD j 0 ∈ L := by
  rw [List.getD_eq_getElem?_getD, List.getElem?_eq_getElem h]
  exact List.getElem_mem h
theorem getD_unlike (L : List Int) (h : L.Nodup) (i j : Nat) (hi : i < L.length) (hj : j < L.length) (hne : i ≠ j) : L.getD i 0 ≠ L.getD j 0 := by
  rw [List.getD_eq_getElem?_getD, List.getD_eq_getElem?_getD, List.getElem?_eq_getElem hi, List.getElem?_eq_getElem hj]
  intro e
  rcases Nat.lt_or_gt_of_ne hne with g | g
  · exact List.pairwise_iff_getElem.1 h i j hi hj g e
  · exact List.pairwise_iff_getElem.1 h j i hj hi g e.symm
theorem Sees.first {w : World} {A : Option Addr} {n : Nat} {xs : List Int} (h : Sees w 1 A n (xs.map (Value.int .i64))) (m : Nat) (hm : m ≤ n) : Sees w 1 A m ((xs.take m).map (Value.int .i64)) := by
  have hl := h.len
  refine ⟨by simp; omega, ?_⟩
  rcases h.2 with h0 | ⟨b, off, hA, hb, hc⟩
  · left; omega
  · refine .inr ⟨b, off, hA, hb, fun j hj => ?_⟩
    have hj' : j < m := by simp at hj; omega
    rw [hc j (by simp; omega), List.getElem?_map, List.getElem?_map, List.getElem?_take, if_pos hj']
end Go.Proofs.Try
