/- lhd.Victim. -/
import Derived.Test.YtjkjnpcikddoaaaLhd3
import Derived.Test.YtjkjnpcikddoaaaLhd5
import Derived.Test.YtjkjnpcikddoaaaRat4
import Derived.Laws.MakeOwn
import Derived.Deep.RegionHeld3
namespace Go.Proofs.Try
open Go.RowKit
set_option linter.unusedVariables false
set_option linter.unusedSimpArgs false
theorem fl_in (a b c : Int) (ha : 0 ≤ a) (hb : 0 ≤ b) (hc : 0 ≤ c) : 0 ≤ fl a b c ∧ fl a b c < 18446744073709551616 := by
  unfold fl
  have h1 : 0 ≤ a * b / c := Int.ediv_nonneg (Int.mul_nonneg ha hb) hc
  split
  · omega
  · split <;> omega
theorem dens_in2 (l : List Nat) (a : Int) : 0 ≤ densN l a ∧ densN l a < 18446744073709551616 := by
  unfold densN dnN
  split
  · split
    · omega
    · exact fl_in _ _ _ (by omega) (by omega) (by omega)
  · omega
/-- How dense, as a natural number. -/
def dens (l : List Nat) (a : Int) : Nat := (densN l a).toNat
theorem dens_nat (l : List Nat) (a : Int) : densN l a = ((dens l a : Nat) : Int) := by unfold dens; have := (dens_in2 l a).1; omega
theorem dens_lt (l : List Nat) (a : Int) : dens l a < 18446744073709551616 := by have := dens_in2 l a; unfold dens; omega
/-- The ratios that Victim looks at. -/
def vrAt (l : List Nat) (ages : List Int) (sizes : List Nat) (id : Int) : Nat × Nat := if 0 ≤ id ∧ id < ages.length ∧ id < sizes.length then (dens l (ages.getD id.toNat 0), sizes.getD id.toNat 0) else (0, 0)
def vrL (l : List Nat) (ages : List Int) (sizes : List Nat) (some : List Int) : List (Nat × Nat) := some.map (vrAt l ages sizes)
def rkTo (vs : List (Nat × Nat)) (n k : Nat) : List Nat := (List.range (2 * n)).map fun j => if j / 2 < k then (if j % 2 = 0 then (vs.getD (j / 2) (0, 0)).1 else (vs.getD (j / 2) (0, 0)).2) else 0
theorem rk_len (vs : List (Nat × Nat)) (n k : Nat) : (rkTo vs n k).length = 2 * n := by unfold rkTo; simp
theorem rk_at (vs : List (Nat × Nat)) (n k j : Nat) (hj : j < 2 * n) : (rkTo vs n k).getD j 0 = if j / 2 < k then (if j % 2 = 0 then (vs.getD (j / 2) (0, 0)).1 else (vs.getD (j / 2) (0, 0)).2) else 0 := by
  unfold rkTo
  rw [List.getD_eq_getElem?_getD, List.getElem?_map, List.getElem?_range hj]
  rfl
theorem extN (m : Nat) (a b : List Nat) (ha : a.length = m) (hb : b.length = m) (h : ∀ j, j < m → a.getD j 0 = b.getD j 0) : a = b := by
  apply List.ext_getElem (by omega)
  intro i h1 h2
  have := h i (by omega)
  rwa [List.getD_eq_getElem?_getD, List.getD_eq_getElem?_getD, List.getElem?_eq_getElem h1, List.getElem?_eq_getElem h2] at this
theorem rk_zero (vs : List (Nat × Nat)) (n : Nat) : rkTo vs n 0 = List.replicate (2 * n) 0 := by
  refine extN (2 * n) _ _ (rk_len _ _ _) (by simp) (fun j hj => ?_)
  rw [rk_at vs n 0 j hj, if_neg (by omega), List.getD_eq_getElem?_getD, List.getElem?_replicate, if_pos hj]
  rfl
theorem rk_more (vs : List (Nat × Nat)) (n k : Nat) (hk : k < n) : ((rkTo vs n k).set (k * 2) (vs.getD k (0, 0)).1).set (k * 2 + 1) (vs.getD k (0, 0)).2 = rkTo vs n (k + 1) := by
  refine extN (2 * n) _ _ (by simp [rk_len]) (rk_len _ _ _) (fun j hj => ?_)
  rw [getD_set' _ _ _ _ (by rw [List.length_set, rk_len]; omega), getD_set' _ _ _ _ (by rw [rk_len]; omega), rk_at vs n k j hj, rk_at vs n (k + 1) j hj]
  by_cases h1 : j = k * 2 + 1
  · subst h1
    rw [if_pos rfl, if_pos (by omega), if_neg (by omega), show (k * 2 + 1) / 2 = k by omega]
  · rw [if_neg h1]
    by_cases h2 : j = k * 2
    · subst h2
      rw [if_pos rfl, if_pos (by omega), if_pos (by omega), show k * 2 / 2 = k by omega]
    · rw [if_neg h2]
      by_cases h3 : j / 2 < k
      · rw [if_pos h3, if_pos (show j / 2 < k + 1 by omega)]
      · rw [if_neg h3, if_neg (show ¬j / 2 < k + 1 by omega)]
theorem rk_skip (vs : List (Nat × Nat)) (n k : Nat) (h : vs.getD k (0, 0) = (0, 0)) : rkTo vs n k = rkTo vs n (k + 1) := by
  refine extN (2 * n) _ _ (rk_len _ _ _) (rk_len _ _ _) (fun j hj => ?_)
  rw [rk_at vs n k j hj, rk_at vs n (k + 1) j hj]
  by_cases h3 : j / 2 < k
  · rw [if_pos h3, if_pos (show j / 2 < k + 1 by omega)]
  · rw [if_neg h3]
    by_cases h4 : j / 2 = k
    · rw [if_pos (show j / 2 < k + 1 by omega), h4, h]; simp
    · rw [if_neg (show ¬j / 2 < k + 1 by omega)]
def vsI (vs : List (Nat × Nat)) : List (Int × Int) := vs.map fun p => ((p.1 : Int), (p.2 : Int))
theorem vsI_at (vs : List (Nat × Nat)) (k : Nat) : (vsI vs).getD k (0, 0) = (((vs.getD k (0, 0)).1 : Int), ((vs.getD k (0, 0)).2 : Int)) := by
  unfold vsI
  rw [List.getD_eq_getElem?_getD, List.getD_eq_getElem?_getD, List.getElem?_map]
  cases vs[k]? <;> rfl
theorem vr_at (l : List Nat) (ages : List Int) (sizes : List Nat) (some : List Int) (k : Nat) (hk : k < some.length) : (vrL l ages sizes some).getD k (0, 0) = vrAt l ages sizes (some.getD k 0) := by
  unfold vrL
  rw [List.getD_eq_getElem?_getD, List.getD_eq_getElem?_getD, List.getElem?_map, List.getElem?_eq_getElem hk]
  rfl
theorem vr_64 (l : List Nat) (ages : List Int) (sizes : List Nat) (some : List Int) (hs : ∀ k, sizes.getD k 0 < 18446744073709551616) : R64 (vsI (vrL l ages sizes some)) := by
  intro k
  rw [vsI_at]
  by_cases hk : k < some.length
  · rw [vr_at l ages sizes some k hk]
    unfold vrAt
    split
    · have h1 := dens_lt l (ages.getD (some.getD k 0).toNat 0)
      have h2 := hs (some.getD k 0).toNat
      simp only
      omega
    · simp
  · rw [List.getD_eq_getElem?_getD, List.getElem?_eq_none (by unfold vrL; simp; omega)]
    simp
theorem rk_sees {W : World} {g n : Nat} {T : TypeId} {vs : List (Nat × Nat)} (h : blk W g T (rkTo vs n n)) (hv : vs.length = n) : Sees W 2 (some ⟨g, 0, none⟩) n (flat (vsI vs)) := by
  have hl : (vsI vs).length = n := by unfold vsI; simp [hv]
  refine ⟨by rw [flat_len, hl]; omega, .inr ⟨g, 0, rfl, h.lt, fun j hj => ?_⟩⟩
  rw [flat_len, hl] at hj
  rw [Nat.zero_add, h.cell (by rw [rk_len]; exact hj), rk_at vs n n j hj, if_pos (by omega)]
  obtain ⟨f1, f2⟩ := flat_at (vsI vs) (j / 2) (by omega)
  rw [vsI_at] at f1 f2
  rcases (by omega : j = 2 * (j / 2) ∨ j = 2 * (j / 2) + 1) with g | g
  · rw [if_pos (by omega), show (flat (vsI vs))[j]? = (flat (vsI vs))[2 * (j / 2)]? by rw [← g], f1]
  · rw [if_neg (by omega), show (flat (vsI vs))[j]? = (flat (vsI vs))[2 * (j / 2) + 1]? by rw [← g], f2]
theorem rat_info : (Try.prog.info? 65).map (fun i => (i.zero, i.size, i.bytes)) = some (some (.agg #[.int .u64 0, .int .u64 0]), 2, 16) := by kernel_rfl
theorem made_rat (n : Nat) : madeCells #[Value.int .u64 0, Value.int .u64 0] (n * 2) = u64V (List.replicate (2 * n) 0) := by
  unfold madeCells u64V
  apply Array.ext
  · simp; omega
  · intro i h1 h2
    have : i % 2 = 0 ∨ i % 2 = 1 := by omega
    rcases this with h | h <;> simp [h]
theorem make_rat (n : Nat) (h : n ≤ 1000000) (W : World) : (Instr.makeSlice 87 (.int .i64 (n : Int)) (.int .i64 (n : Int))).run Try.prog W = .ok (.slice (some ⟨W.heap.size, 0, none⟩) n n) (W.alloc (.cells (u64V (List.replicate (2 * n) 0)) 65)) := by
  obtain ⟨i0, hi, hz0, hz1, hz2⟩ := info_parts rat_info
  have hmk := run_make (P := Try.prog) W 87 65 i0 _ Try.underlying87 hi hz0 .i64 .i64 n n (by omega) (by omega) (by rw [hz2]; omega) (by omega)
  rw [← made_rat]
  rw [hz1] at hmk
  simpa [Value.cells] using hmk
end Go.Proofs.Try
