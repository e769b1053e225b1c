/- Sums and sizes of a window (stage 21). -/
import Derived.Test.YtjcclobnpbgmcaaDoorUp
namespace Go.Proofs.Tryd
open Go.RowKit Go.Sort
set_option linter.unusedVariables false
set_option linter.unusedSimpArgs false
theorem tl_eqT (a b : ByteArray) : (a.toList == b.toList) = decide (a = b) := by
  rw [Bool.eq_iff_iff, beq_iff_eq, decide_eq_true_iff, ByteArray.toList_eq, ByteArray.toList_eq]
  exact ⟨keyN_ext, fun h => by rw [h]⟩
theorem getD_memT {gs : List Int} {k : Nat} (hk : k < gs.length) : gs.getD k 0 ∈ gs := by
  rw [List.getD_eq_getElem?_getD, List.getElem?_eq_getElem hk]
  exact List.getElem_mem hk
def sumNn : List Sn → Int
  | [] => 0
  | s :: r => s.2.2 + sumNn r
def ofN (k : ByteArray) : List Sn → Int
  | [] => 0
  | s :: r => if s.1 = k then s.2.1 else ofN k r
theorem sum_ins (k : ByteArray) (z : Int) : ∀ l : List Sn, sumNn (insN k z l) = sumNn l + 1
  | [] => rfl
  | s :: r => by
    have ih := sum_ins k z r
    unfold insN
    split
    · simp only [sumNn]; omega
    · split <;> simp only [sumNn] <;> omega
theorem of_ins (k : ByteArray) (z : Int) : ∀ l : List Sn, ofN k (insN k z l) = z
  | [] => by simp [insN, ofN]
  | s :: r => by
    have ih := of_ins k z r
    unfold insN
    split
    · rename_i h
      rw [ofN, if_neg (ltK_ne h), ih]
    · split <;> simp [ofN]
theorem cnI_in (k : ByteArray) : ∀ l : List Sn, (∀ s ∈ l, okV s = true) → 0 ≤ cnI k l ∧ cnI k l ≤ sumNn l ∧ 0 ≤ sumNn l
  | [], h => by simp [cnI, sumNn]
  | s :: r, h => by
    have ih := cnI_in k r fun t ht => h t (List.mem_cons.2 (.inr ht))
    have h1 := h s (List.mem_cons.2 (.inl rfl))
    unfold okV inB at h1
    simp only [Bool.and_eq_true, decide_eq_true_eq] at h1
    unfold cnI
    simp only [sumNn]
    split
    · omega
    · split <;> omega
theorem sum_one {l : List Sn} {j : Nat} (h : j < l.length) : sumNn (l.take (j + 1)) = sumNn (l.take j) + (atN l j).2.2 := by
  rw [takeN_one h]
  generalize l.take j = p
  generalize atN l j = x
  induction p with
  | nil => simp [sumNn]
  | cons a p ih => simp only [List.cons_append, sumNn]; omega
theorem ofN_at (k : ByteArray) : ∀ (l : List Sn) (i : Nat), i < l.length → (∀ j, j < i → (atN l j).1 ≠ k) → (atN l i).1 = k → ofN k l = (atN l i).2.1
  | [], i, h, _, _ => by simp at h
  | s :: r, 0, _, _, h => by
    rw [atN_head] at h ⊢
    rw [ofN, if_pos h]
  | s :: r, i + 1, hi, hj, h => by
    have h0 := hj 0 (by omega)
    rw [atN_head] at h0
    rw [atN_cons] at h ⊢
    rw [ofN, if_neg h0]
    exact ofN_at k r i (by simpa using hi) (fun j hj' => by have := hj (j + 1) (by omega); rwa [atN_cons] at this) h
theorem ofN_none (k : ByteArray) : ∀ (l : List Sn), (∀ j, j < l.length → (atN l j).1 ≠ k) → ofN k l = 0
  | [], _ => rfl
  | s :: r, hj => by
    have h0 := hj 0 (by simp)
    rw [atN_head] at h0
    rw [ofN, if_neg h0]
    exact ofN_none k r fun j hj' => by have := hj (j + 1) (by simpa using hj'); rwa [atN_cons] at this
set_option maxRecDepth 100000 in
set_option maxHeartbeats 4000000 in
theorem lawof_c (v : Value) (n : Nat) (l : List Sn) (k : ByteArray) (w : World) (h : Rows encN 3 w v n l) :
    Calls Tryd.prog 27 #[v, .string k] w fun e w' => e = .returned (.int .i64 (ofN k l)) ∧ Below w.heap.size w w' := by
  have HL := Lib.hid h.len
  obtain ⟨A, c, rfl, _, hn, _, hs⟩ := h
  have HS := Lib.hid hs
  clear hs
  go_enter Tryd.func27, Tryd.ntmps27
  go_wp2_with fail
  go_loopw [5] (fun i wr => ∃ j : Nat, j ≤ n ∧ i = .int .i64 (j : Int) ∧ Hid (∀ q, q < j → (atN l q).1 ≠ k) ∧ Hid (Below w.heap.size w wr)) (fun i _ => n - (intOf i).toNat)
  case atStart => exact ⟨0, by omega, rfl, Lib.hid (fun q hq => by omega), Lib.hid (Below.refl _ _)⟩
  case round =>
    obtain ⟨j, hj, rfl, HQ, HB⟩ := hrel
    by_cases hlt : j < n
    · have hji : (j : Int) < (n : Int) := by omega
      have hs := HS.out.below HB.out
      obtain ⟨b, off, rfl, hbl⟩ := Rows.some hs (by omega)
      obtain ⟨d0, d1, d2, hbz⟩ := hs.seen hlt
      obtain ⟨⟨s, x, y⟩, hp⟩ : ∃ p, atN l j = p := ⟨_, rfl⟩
      have HP := Lib.hid hp
      rw [hp] at d0 d1 d2
      dsimp only at d0 d1 d2
      have hte := tl_eqT s k
      clear hs hp
      by_cases h1 : s = k
      · rw [decide_eq_true h1] at hte
        have HO := Lib.hid (ofN_at k l j (by rw [HL.out]; exact hlt) HQ.out (by rw [HP.out]; exact h1))
        rw [HP.out] at HO
        clear h1
        go_wp2_with fail
        go_ret
        rw [HO.out]
        exact ⟨rfl, HB.out⟩
      · rw [decide_eq_false h1] at hte
        have HN : Hid (∀ q, q < j + 1 → (atN l q).1 ≠ k) := Lib.hid fun q hq => by
          by_cases e : q = j
          · rw [e, HP.out]; exact h1
          · exact HQ.out q (by omega)
        clear h1
        go_wp2_with fail
        go_roundw
        case rel => exact ⟨j + 1, by omega, by first | rfl | (rw [wrap_1 j (by omega)]; rfl), HN, HB⟩
        case measure => first | (simp [intOf]; done) | (simp [intOf]; omega) | (rw [wrap_1 j (by omega)]; simp [intOf]; omega)
    · have hje : j = n := by omega
      subst hje
      have HO := Lib.hid (ofN_none k l (fun q hq => HQ.out q (by rw [HL.out] at hq; exact hq)))
      go_wp2_with fail
      go_ret
      rw [HO.out]
      exact ⟨rfl, HB.out⟩
end Go.Proofs.Tryd
