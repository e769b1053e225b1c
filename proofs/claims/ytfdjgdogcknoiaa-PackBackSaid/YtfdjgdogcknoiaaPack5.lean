/- What pack.Take reckons. -/
import Derived.Test.YtfdjgdogcknoiaaPack4
import Derived.Laws.Bits64b
import Derived.Lib.IndexBytes
namespace Go.Proofs.Try
open Go.RowKit
set_option linter.unusedVariables false

theorem good_val : ∀ p : List UInt8, GoodL p → 2 ≤ p.length → 128 ^ (p.length - 1) ≤ val p
  | [], h, _ => h.elim
  | [x], _, h => by simp at h
  | x :: y :: ys, ⟨h1, h2, h3⟩, _ => by
    have e : val (x :: y :: ys) = x.toNat % 128 + 128 * val (y :: ys) := rfl
    rw [e]
    cases ys with
    | nil =>
      have hy : y.toNat < 128 := h2
      have hv : val [y] = y.toNat := by show y.toNat % 128 + 128 * 0 = _; omega
      have hz : y.toNat ≠ 0 := fun h0 => h3 (by rw [show y = 0 from UInt8.toNat_inj.1 (by rw [h0]; rfl)])
      rw [hv]
      show 128 ^ 1 ≤ _
      omega
    | cons z zs =>
      have ih := good_val (y :: z :: zs) h2 (by simp)
      have e2 : (x :: y :: z :: zs).length - 1 = (y :: z :: zs).length - 1 + 1 := by simp
      rw [e2, Nat.pow_succ]
      omega
theorem val_ge (p : List UInt8) (i : Nat) (h : i < p.length) : (p.getD i 0).toNat % 128 * 128 ^ i ≤ val p := by
  have e : p = p.take i ++ p.drop i := (List.take_append_drop i p).symm
  have hl : (p.take i).length = i := by rw [List.length_take]; omega
  rw [List.getD_eq_getElem?_getD, List.getElem?_eq_getElem h]
  have hd : p.drop i = p[i] :: p.drop (i + 1) := List.drop_eq_getElem_cons h
  have hv : val p = val (p.take i) + 128 ^ i * val (p.drop i) := by
    conv => lhs; rw [e]
    rw [val_app, hl]
  rw [hv, hd, val]
  show p[i].toNat % 128 * 128 ^ i ≤ _
  rw [Nat.mul_add, Nat.mul_comm]
  omega
theorem val_next (p : List UInt8) (i : Nat) (h : i < p.length) : val (p.take (i + 1)) = val (p.take i) + (p.getD i 0).toNat % 128 * 128 ^ i := by
  have e : p.take (i + 1) = p.take i ++ [p.getD i 0] := by
    rw [List.take_add_one, List.getElem?_eq_getElem h, List.getD_eq_getElem?_getD, List.getElem?_eq_getElem h]; rfl
  rw [e, val_app, List.length_take, Nat.min_eq_left (by omega), Nat.mul_comm]
  simp [val]
theorem cutL_long : ∀ (l p r : List UInt8) (i : Nat), (∀ j, j < i → 128 ≤ (l.getD j 0).toNat) → cutL l = some (p, r) → i < p.length
  | [], p, r, i, _, h => by cases h
  | x :: xs, p, r, 0, _, h => by
    have := cutL_app _ _ _ h
    cases p with
    | nil =>
      rw [cutL] at h
      split at h
      · cases h
      · cases hc : cutL xs with
        | none => rw [hc] at h; cases h
        | some q => rw [hc] at h; cases h
    | cons => simp
  | x :: xs, p, r, i + 1, h1, h => by
    have hx : ¬ x.toNat < 128 := by have := h1 0 (by omega); simp at this; omega
    rw [cutL, if_neg hx] at h
    cases hc : cutL xs with
    | none => rw [hc] at h; cases h
    | some q =>
      rw [hc] at h
      injection h with h
      injection h with h2 h3
      have := cutL_long xs q.1 q.2 i (fun j hj => by simpa using h1 (j + 1) (by omega)) hc
      rw [← h2, List.length_cons]
      omega
theorem takeL_none (l : List UInt8) (i : Nat) (h : ∀ j, j < i → 128 ≤ (l.getD j 0).toNat) (hbad : ∀ p r, cutL l = some (p, r) → i < p.length → GoodL p → val p < 18446744073709551616 → False) : takeL l = none := by
  unfold takeL
  cases hc : cutL l with
  | none => rfl
  | some q =>
    simp only
    split
    · rename_i hg
      exact (hbad q.1 q.2 hc (cutL_long l q.1 q.2 i h hc) hg.1 hg.2).elim
    · rfl
theorem takeL_late (l : List UInt8) (i : Nat) (hi : 10 ≤ i) (h : ∀ j, j < i → 128 ≤ (l.getD j 0).toNat) : takeL l = none :=
  takeL_none l i h fun p r hc hl hg hv => by
    have h1 := good_val p hg (by omega)
    have h2 : 128 ^ 10 ≤ 128 ^ (p.length - 1) := Nat.pow_le_pow_right (by omega) (by omega)
    have h3 : (18446744073709551616 : Nat) ≤ 128 ^ 10 := by decide
    omega
theorem takeL_over (l : List UInt8) (i : Nat) (h : ∀ j, j < i → 128 ≤ (l.getD j 0).toNat) (ho : 18446744073709551616 ≤ (l.getD i 0).toNat % 128 * 128 ^ i) : takeL l = none :=
  takeL_none l i h fun p r hc hl hg hv => by
    have h1 := val_ge p i hl
    have h2 : p.getD i 0 = l.getD i 0 := by
      rw [cutL_app l p r hc, List.getD_eq_getElem?_getD, List.getD_eq_getElem?_getD, List.getElem?_append_left hl]
    rw [h2] at h1
    omega
theorem takeL_zero (l : List UInt8) (i : Nat) (h : ∀ j, j < i → 128 ≤ (l.getD j 0).toNat) (hi : i < l.length) (h0 : (l.getD i 0).toNat = 0) (hp : 0 < i) : takeL l = none := by
  unfold takeL
  rw [cutL_at l i h hi (by omega)]
  simp only
  split
  · rename_i hg
    rcases (good_at l i h hi (by omega)).1 hg.1 with h1 | h1
    · omega
    · exact absurd h0 h1
  · rfl
theorem takeL_end (l : List UInt8) (h : ∀ j, j < l.length → 128 ≤ (l.getD j 0).toNat) : takeL l = none := by
  unfold takeL; rw [cutL_none l h]
theorem takeL_some (l : List UInt8) (i : Nat) (h : ∀ j, j < i → 128 ≤ (l.getD j 0).toNat) (hi : i < l.length) (h1 : (l.getD i 0).toNat < 128) (h2 : i = 0 ∨ (l.getD i 0).toNat ≠ 0) (hv : val (l.take (i + 1)) < 18446744073709551616) : takeL l = some (val (l.take (i + 1)), l.drop (i + 1)) := by
  unfold takeL
  rw [cutL_at l i h hi h1]
  simp only
  rw [if_pos ⟨(good_at l i h hi h1).2 h2, hv⟩]
theorem lost (d P : Int) (h0 : 0 ≤ d) (h1 : 1 ≤ P) : (IntKind.u64.wrap (d * P) / P != d) = !decide (d * P < 18446744073709551616) := by
  have hn : 0 ≤ d * P := Int.mul_nonneg h0 (by omega)
  rw [IntKind.wrap_u64]
  by_cases h : d * P < 18446744073709551616
  · rw [Int.emod_eq_of_lt hn h, Int.mul_ediv_cancel _ (by omega)]
    simp [h]
  · have h2 : d * P % 18446744073709551616 < d * P := by
      have := Int.emod_lt_of_pos (d * P) (show (0 : Int) < 18446744073709551616 by omega)
      omega
    have h3 : d * P % 18446744073709551616 / P < d := Int.ediv_lt_of_lt_mul (by omega) h2
    have h4 : (d * P % 18446744073709551616 / P != d) = true := by rw [bne_iff_ne]; omega
    rw [h4]
    simp [h]
theorem or_sum (n d i : Nat) (hi : i ≤ 63) (hn : n < 2 ^ i) (hd : d * 2 ^ i < 18446744073709551616) : bits .or .u64 (n : Int) ((d : Int) * ((2 ^ i : Nat) : Int)) = ((n + d * 2 ^ i : Nat) : Int) ∧ n + d * 2 ^ i < 18446744073709551616 := by
  have hp : (18446744073709551616 : Nat) = 2 ^ (64 - i) * 2 ^ i := by
    rw [← Nat.pow_add, show 64 - i + i = 64 by omega]
  have hd' : d < 2 ^ (64 - i) := Nat.lt_of_mul_lt_mul_right (a := 2 ^ i) (by rw [← hp]; exact hd)
  have hq : (d + 1) * 2 ^ i ≤ 2 ^ (64 - i) * 2 ^ i := Nat.mul_le_mul_right _ hd'
  have hs : n + d * 2 ^ i < 18446744073709551616 := by
    rw [hp]
    rw [Nat.add_mul, Nat.one_mul] at hq
    omega
  refine ⟨?_, hs⟩
  have e : (d : Int) * ((2 ^ i : Nat) : Int) = ((d * 2 ^ i : Nat) : Int) := by rw [Int.natCast_mul]
  rw [e, bits_or_u64_nat n (d * 2 ^ i) (by omega) hd]
  congr 1
  rw [Nat.or_comm, Nat.mul_comm, ← Nat.two_pow_add_eq_or_of_lt hn, Nat.add_comm]
def tkR : Option (Nat × List UInt8) → Value
  | none => .tuple #[.int .u64 0, .string ⟨#[]⟩, .int .i64 70]
  | some p => .tuple #[.int .u64 (p.1 : Int), .string (S p.2), .int .i64 0]
theorem S_drop (bs : List UInt8) (k : Nat) : (S bs).extract k (S bs).size = S (bs.drop k) :=
  S_ext _ _ (by rw [Lib.extract_to_end, S_list, S_list])
theorem S_drop' (bs : List UInt8) (k n : Nat) (h : bs.length = n) : (S bs).extract k n = S (bs.drop k) := by
  rw [← S_drop, S_size, h]
theorem S_take (bs : List UInt8) (k : Nat) : (S bs).extract 0 k = S (bs.take k) :=
  S_ext _ _ (by rw [Lib.extract_data, S_list, S_list, List.drop_zero, Nat.sub_zero])
theorem index_s (bs : List UInt8) (i : Nat) (h : i < bs.length) (K : IntKind) (W : World) : (Instr.index 9 (.string (S bs)) (.int K (i : Int))).run Try.prog W = .ok (.int .u8 ((bs.getD i 0).toNat : Int)) W := by
  have hz := S_size bs
  rw [run_index_string (h := Try.underlying9), dif_pos ⟨by omega, by omega⟩]
  have e : ((i : Int)).toNat = i := by omega
  have e2 : (S bs)[i]'(by omega) = bs.getD i 0 := by
    rw [List.getD_eq_getElem?_getD, List.getElem?_eq_getElem h]
    rfl
  simp only [e, e2]
end Go.Proofs.Try
