/- lhd.Density. -/
import Derived.Test.YtjkjnpcikddoaaaLhd2
import Derived.Test.YtjkjnpcikddoaaaLater
import Derived.Deep.RegionLaw
import Derived.Laws.CopyOwn
namespace Go.Proofs.Try
open Go.RowKit
set_option linter.unusedVariables false
set_option linter.unusedSimpArgs false
/-- n numbers of one list over those of another one. -/
def splL (l : List Nat) (o : Nat) (m : List Nat) (p n : Nat) : List Nat := l.take o ++ (m.drop p).take n ++ l.drop (o + n)
theorem u64V_list (l : List Nat) : (u64V l).toList = l.map fun (n : Nat) => Value.int .u64 (n : Int) := by unfold u64V; simp
section
variable {P : Program}
/-- 'copy' of a part of a block that is known whole over a part of another one, at a step of a region that draws. -/
theorem step_copy_blk {ops : Array Oper} {o : Oper} {a : Act} {w : World} {K : Act → World → Prop} {Q : Exit → Act → World → Prop} {E : Prop} (hgd : o.guard = none) (d s : Operand) (dT sT : TypeId)
    (ho : o.op = .call { callee := .builtin .copy, args := #[d, s], argTypes := #[dT, sT] }) (elem : TypeId) (hu : P.underlying dT = some (.slice elem)) (hsz : (P.info? elem).map (·.size) = some 1)
    (g b o1 o2 n dCap sCap : Nat) (hd : a.eval d = .slice (some ⟨g, o1, none⟩) n dCap) (hs : a.eval s = .slice (some ⟨b, o2, none⟩) n sCap)
    (T1 T2 : TypeId) (l1 l2 : List Nat) (h1 : blk w g T1 l1) (h2 : blk w b T2 l2) (hn1 : o1 + n ≤ l1.length) (hn2 : o2 + n ≤ l2.length)
    (h : K (a.put o.dst (goInt n)) (w.setRow g (u64V (splL l1 o1 l2 o2 n)))) :
    if Region.wanted o (yielded ops a.tmps) = true then Oper.wp P o a w K Q else E := by
  have hw : Region.wanted o (yielded ops a.tmps) = true := by simp [Region.wanted, hgd]
  rw [if_pos hw]
  have hlen : (((l2.drop o2).take n).map fun (n : Nat) => Value.int .u64 (n : Int)).length = n := by simp; omega
  have hrun := run_copy_row (P := P) w dT sT o.type elem g o1 n dCap ⟨b, o2, none⟩ n sCap (u64V l1) T1 (((l2.drop o2).take n).map fun (n : Nat) => Value.int .u64 (n : Int)) hu hsz h1 (by rw [hlen]; simp)
    (fun j v hv => by
      have hj : j < n := by have := (List.getElem?_eq_some_iff.1 hv).1; rw [hlen] at this; exact this
      rw [add_plain, cell_of_row w b (o2 + j) _ T2 (0, 0) h2, ← hv, ← Array.getElem?_toList, u64V_list, List.getElem?_map, List.getElem?_map, List.getElem?_take, if_pos hj, List.getElem?_drop])
    (by rw [u64V_size, hlen]; exact hn1) (fun v hv => by obtain ⟨x, _, rfl⟩ := List.mem_map.1 hv; rfl)
  have e : ((u64V l1).toList.take o1 ++ (((l2.drop o2).take n).map fun (n : Nat) => Value.int .u64 (n : Int)) ++ (u64V l1).toList.drop (o1 + (((l2.drop o2).take n).map fun (n : Nat) => Value.int .u64 (n : Int)).length)).toArray = u64V (splL l1 o1 l2 o2 n) := by
    rw [hlen]
    apply Array.ext'
    rw [u64V_list, u64V_list]
    simp [splL, List.map_take, List.map_drop]
  rw [e, hlen] at hrun
  unfold Oper.wp execOp
  simp only [ho, resolve, invoke, builtin, Sem.run_bind, Sem.run_pure, Result.andThen_ok, List.map_toArray, List.map_cons, List.map_nil, hd, hs, hrun]
  exact h
end
/-- What is looked at from an age on: nothing else. -/
def bhL (l : List Nat) (a : Nat) : List Nat := splL (splL z16 a l a (8 - a)) (8 + a) l (8 + a) (8 - a)
theorem bh_len (l : List Nat) (a : Nat) (hl : l.length = 16) (ha : a < 8) : (bhL l a).length = 16 := by
  unfold bhL splL z16
  simp
  omega
def hShl (a k : Nat) : Nat := if a * 2 ^ k < 18446744073709551616 then a * 2 ^ k else 18446744073709551615
theorem wShl_nat (a k : Nat) : wShl (a : Int) (k : Int) = ((hShl a k : Nat) : Int) := by
  have e : (a : Int) * 2 ^ k = ((a * 2 ^ k : Nat) : Int) := by simp
  unfold wShl hShl
  rw [Int.toNat_natCast, e]
  generalize a * 2 ^ k = x
  split <;> split <;> omega
theorem hShl_lt (a k : Nat) : hShl a k < 18446744073709551616 := by unfold hShl; split <;> omega
def hS (l : List Nat) : Nat → Nat
  | 0 => 0
  | k + 1 => hAdd (hS l k) (l.getD k 0)
theorem hS_lt (l : List Nat) (h : ∀ k, l.getD k 0 < 18446744073709551616) : ∀ k, hS l k < 18446744073709551616
  | 0 => by unfold hS; omega
  | k + 1 => hAdd_lt _ _ (hS_lt l h k) (h k)
theorem map_getD (l : List Nat) (k : Nat) : (l.map fun (n : Nat) => (n : Int)).getD k 0 = ((l.getD k 0 : Nat) : Int) := by
  rw [List.getD_eq_getElem?_getD, List.getD_eq_getElem?_getD, List.getElem?_map]
  cases l[k]? <;> rfl
theorem sN_nat (l : List Nat) : ∀ k, sN (l.map fun (n : Nat) => (n : Int)) k = ((hS l k : Nat) : Int)
  | 0 => rfl
  | k + 1 => by rw [sN, sN_nat l k, map_getD, wAdd_nat]; rfl
/-- The time that goes by at an age. -/
def tmv (B : List Nat) (k : Nat) : Nat := hShl (hAdd (B.getD k 0) (B.getD (8 + k) 0)) k
def tmTo (B : List Nat) (k : Nat) : List Nat := (List.range 8).map fun j => if j < k then tmv B j else 0
theorem tm_len (B : List Nat) (k : Nat) : (tmTo B k).length = 8 := by unfold tmTo; simp
theorem tm_at (B : List Nat) (k j : Nat) (hj : j < 8) : (tmTo B k).getD j 0 = if j < k then tmv B j else 0 := by
  unfold tmTo
  rw [List.getD_eq_getElem?_getD, List.getElem?_map, List.getElem?_range hj]
  rfl
theorem tm_zero (B : List Nat) : tmTo B 0 = z8 := by unfold tmTo z8; rfl
theorem ext8 (a b : List Nat) (ha : a.length = 8) (hb : b.length = 8) (h : ∀ j, j < 8 → a.getD j 0 = b.getD j 0) : a = b := by
  apply List.ext_getElem (by omega)
  intro i h1 h2
  have := h i (by omega)
  rwa [List.getD_eq_getElem?_getD, List.getD_eq_getElem?_getD, List.getElem?_eq_getElem h1, List.getElem?_eq_getElem h2] at this
theorem tm_more (B : List Nat) (k : Nat) (hk : k < 8) : (tmTo B k).set k (tmv B k) = tmTo B (k + 1) := by
  refine ext8 _ _ (by simp [tm_len]) (tm_len _ _) (fun j hj => ?_)
  rw [getD_set' _ _ _ _ (by rw [tm_len]; omega), tm_at B k j hj, tm_at B (k + 1) j hj]
  by_cases h1 : j = k
  · subst h1; rw [if_pos rfl, if_pos (by omega)]
  · rw [if_neg h1]
    by_cases h2 : j < k
    · rw [if_pos h2, if_pos (by omega)]
    · rw [if_neg h2, if_neg (by omega)]
theorem tm_lt (B : List Nat) (k j : Nat) : (tmTo B k).getD j 0 < 18446744073709551616 := by
  by_cases hj : j < 8
  · rw [tm_at B k j hj]; split; exact hShl_lt _ _; omega
  · rw [List.getD_eq_getElem?_getD, List.getElem?_eq_none (by rw [tm_len]; omega)]; simp
theorem bh_at (l : List Nat) (hl : l.length = 16) (a j : Nat) (ha : a < 8) (hj : j < 16) : (bhL l a).getD j 0 = if j % 8 < a then 0 else l.getD j 0 := by
  have e1 : ∀ i, i < 16 → (splL z16 a l a (8 - a)).getD i 0 = if i < 8 ∧ a ≤ i then l.getD i 0 else 0 := by
    intro i hi
    have hz : ∀ i, z16.getD i 0 = 0 := fun i => by
      by_cases h : i < 16
      · have : i = 0 ∨ i = 1 ∨ i = 2 ∨ i = 3 ∨ i = 4 ∨ i = 5 ∨ i = 6 ∨ i = 7 ∨ i = 8 ∨ i = 9 ∨ i = 10 ∨ i = 11 ∨ i = 12 ∨ i = 13 ∨ i = 14 ∨ i = 15 := by omega
        rcases this with rfl | rfl | rfl | rfl | rfl | rfl | rfl | rfl | rfl | rfl | rfl | rfl | rfl | rfl | rfl | rfl <;> rfl
      · rw [List.getD_eq_getElem?_getD, List.getElem?_eq_none (show z16.length ≤ i from by show 16 ≤ i; omega)]; rfl
    unfold splL
    have hzl : z16.length = 16 := rfl
    rw [List.getD_eq_getElem?_getD]
    by_cases h1 : i < a
    · rw [List.getElem?_append_left (by simp; omega), List.getElem?_append_left (by simp; omega), List.getElem?_take, if_pos h1, ← List.getD_eq_getElem?_getD, hz, if_neg (by omega)]
    · by_cases h2 : i < 8
      · rw [List.getElem?_append_left (by simp; omega), List.getElem?_append_right (by simp; omega), if_pos (by omega)]
        rw [List.getElem?_take, if_pos (by simp; omega), List.getElem?_drop, List.length_take, hzl]
        rw [show a + (i - min a 16) = i by omega, ← List.getD_eq_getElem?_getD]
      · rw [List.getElem?_append_right (by simp; omega), if_neg (by omega), List.getElem?_drop, ← List.getD_eq_getElem?_getD, hz]
  have hl1 : (splL z16 a l a (8 - a)).length = 16 := by unfold splL z16; simp; omega
  unfold bhL
  generalize hL : splL z16 a l a (8 - a) = L at *
  unfold splL
  rw [List.getD_eq_getElem?_getD]
  by_cases h1 : j < 8 + a
  · rw [List.getElem?_append_left (by simp; omega), List.getElem?_append_left (by simp; omega), List.getElem?_take, if_pos h1, ← List.getD_eq_getElem?_getD, e1 j hj]
    by_cases h3 : j < 8
    · by_cases h4 : a ≤ j
      · rw [if_pos ⟨h3, h4⟩, if_neg (by omega)]
      · rw [if_neg (by omega), if_pos (by omega)]
    · rw [if_neg (by omega), if_pos (by omega)]
  · rw [List.getElem?_append_left (by simp; omega), List.getElem?_append_right (by simp; omega), if_neg (by omega)]
    rw [List.getElem?_take, if_pos (by simp; omega), List.getElem?_drop, List.length_take, hl1]
    rw [show 8 + a + (j - min (8 + a) 16) = j by omega, ← List.getD_eq_getElem?_getD]
theorem Rk.bh {l : List Nat} (h : Rk l) (a : Nat) (ha : a < 8) : Rk (bhL l a) := by
  refine ⟨bh_len l a h.1 ha, fun j => ?_⟩
  by_cases hj : j < 16
  · rw [bh_at l h.1 a j ha hj]; split; omega; exact h.2 j
  · rw [List.getD_eq_getElem?_getD, List.getElem?_eq_none (by rw [bh_len l a h.1 ha]; omega)]; simp
def dnN (B : List Nat) : Int := fl ((hS B 8 : Nat) : Int) 4294967296 ((hS (tmTo B 8) 8 : Nat) : Int)
/-- How dense hits are. -/
def densN (l : List Nat) (a : Int) : Int := if 0 ≤ a ∧ a < 8 then (if bhL l a.toNat = z16 then 4294967296 else dnN (bhL l a.toNat)) else 0
end Go.Proofs.Try
