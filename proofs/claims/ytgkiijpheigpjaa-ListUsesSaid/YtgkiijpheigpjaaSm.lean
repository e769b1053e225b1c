/- linhayref08.Same of rows; what the list's functions tell of told lists (stage 15). -/
import Derived.Test.YtgkiijpheigpjaaSame
import Derived.Test.YtgkiijpheigpjaaJc
namespace Go.Proofs.Try
open Go.RowKit
set_option linter.unusedVariables false
set_option linter.unusedSimpArgs false
theorem Rows.ints {w : World} {A : Option Addr} {n c : Nat} {l : List Int} (h : Rows encZ 1 w (.slice A n c) n l) : Sees w 1 A n (l.map (Value.int .i64)) ∧ n ≤ 100000 := by
  obtain ⟨A', c', he, hc, hn, hl, hs⟩ := h
  simp only [Value.slice.injEq] at he
  obtain ⟨rfl, _, rfl⟩ := he
  rw [flat_encZ] at hs
  exact ⟨hs, hn⟩
theorem same_r (v u : Value) (n : Nat) (l : List Int) (w : World) (h1 : Rows encZ 1 w v n l) (h2 : Rows encZ 1 w u n l) : Calls Try.prog 43 #[v, u] w fun r w' => r = .returned (.bool true) ∧ Below w.heap.size w w' := by
  obtain ⟨A, c, rfl, _⟩ := id h1
  obtain ⟨B, d, rfl, _⟩ := id h2
  exact same_t A B n c d l w h1.ints.1 h2.ints.1 (by have := h1.ints.2; omega)
theorem rows_blk {w : World} {cs : Array Value} {t : TypeId} {l : List Int} (n c : Nat) (hn : n ≤ 100000) (hnc : n ≤ c) (hl : l.length = n) (h : cs.toList = flat encZ l) : Rows encZ 1 (w.alloc (.cells cs t)) (.slice (some ⟨w.heap.size, 0, none⟩) n c) n l := by
  have hs := sees_blk w cs t 1 n (by rw [← Array.length_toList, h, flat_len encZ_len, hl])
  rw [h] at hs
  exact ⟨_, c, rfl, cap_some hnc, hn, hl, hs⟩
theorem rows_blkb {w : World} {cs : Array Value} {t : TypeId} {l : List Int} (b n c : Nat) (hb : b = w.heap.size) (hn : n ≤ 100000) (hnc : n ≤ c) (hl : l.length = n) (h : cs.toList = flat encZ l) : Rows encZ 1 (w.alloc (.cells cs t)) (.slice (some ⟨b, 0, none⟩) n c) n l := by
  subst hb
  exact rows_blk n c hn hnc hl h
theorem touch_t (l l' : List Nat) (z : Nat) (id : Int) (hm : mayL l) (hz : z < 64) (hid : id = (z : Int)) (h : z :: woN l z = l') (W : World) : Calls Try.prog 37 #[.agg (celV (lsC (told l))), .int .i64 id] W fun e w' => e = .returned (.tuple #[.agg (celV (lsC (told l'))), .int .i64 0]) ∧ Below W.heap.size W w' := by
  have := touch_c (told l) id W
  rw [show touchR (told l) id = told l' by unfold touchR; rw [if_pos ⟨isTB_told hm, by omega, by omega⟩, ordL_told hm, hid, Int.toNat_natCast, h], show touchE (told l) id = 0 by unfold touchE; rw [if_pos (isTB_told hm), if_pos ⟨by omega, by omega⟩]] at this
  exact this
theorem drop_t (l l' : List Nat) (z : Nat) (id : Int) (hm : mayL l) (hid : id = (z : Int)) (hz : z ∈ l) (h : woN l z = l') (W : World) : Calls Try.prog 39 #[.agg (celV (lsC (told l))), .int .i64 id] W fun e w' => e = .returned (.tuple #[.agg (celV (lsC (told l'))), .int .i64 0]) ∧ Below W.heap.size W w' := by
  have := drop_c (told l) id W
  have hc : isTB (told l) = true ∧ id ∈ zs (ordL (told l)) := ⟨isTB_told hm, by rw [ordL_told hm, hid]; exact List.mem_map.2 ⟨z, hz, rfl⟩⟩
  rw [show dropR (told l) id = told l' by unfold dropR; rw [if_pos hc, ordL_told hm, hid, Int.toNat_natCast, h], show dropE (told l) id = 0 from if_pos hc] at this
  exact this
theorem drop_n (l : List Nat) (id : Int) (hm : mayL l) (hz : id ∉ zs l) (W : World) : Calls Try.prog 39 #[.agg (celV (lsC (told l))), .int .i64 id] W fun e w' => e = .returned (.tuple #[.agg (celV (lsC (told l))), .int .i64 120]) ∧ Below W.heap.size W w' := by
  have := drop_c (told l) id W
  have hc : ¬(isTB (told l) = true ∧ id ∈ zs (ordL (told l))) := fun h => hz (by rw [← ordL_told hm]; exact h.2)
  rw [show dropR (told l) id = told l from if_neg hc, show dropE (told l) id = 120 from if_neg hc] at this
  exact this
theorem touch_n (l : List Nat) (id : Int) (hm : mayL l) (hz : ¬(0 ≤ id ∧ id < 64)) (W : World) : Calls Try.prog 37 #[.agg (celV (lsC (told l))), .int .i64 id] W fun e w' => e = .returned (.tuple #[.agg (celV (lsC (told l))), .int .i64 110]) ∧ Below W.heap.size W w' := by
  have := touch_c (told l) id W
  rw [show touchR (told l) id = told l from if_neg (fun h => hz h.2), show touchE (told l) id = 110 by unfold touchE; rw [if_pos (isTB_told hm), if_neg hz]] at this
  exact this
theorem order_t (l : List Nat) (hm : mayL l) (W : World) : Calls Try.prog 35 #[.agg (celV (lsC (told l)))] W fun e w' => ∃ A c, e = .returned (.tuple #[.slice A l.length c, .bool true]) ∧ Rows encZ 1 w' (.slice A l.length c) l.length (zs l) ∧ Below W.heap.size W w' := by
  refine (order_c (told l) W).mono ?_
  rintro e w' ⟨v', rfl, h2, h3⟩
  rw [ordL_told hm] at h2
  have hr := Rows.of_own (enc := encZ) (k := 1) h2 (zs_len l) (by have := may_len hm; omega)
  obtain ⟨A, c, rfl, _⟩ := id hr
  exact ⟨A, c, by rw [isTB_told hm], hr, h3⟩
/-- What Order gives, read. -/
theorem order_r (x : Ls) (W : World) : Calls Try.prog 35 #[.agg (celV (lsC x))] W fun e w' => ∃ A c, e = .returned (.tuple #[.slice A (ordL x).length c, .bool (isTB x)]) ∧ Rows encZ 1 w' (.slice A (ordL x).length c) (ordL x).length (zs (ordL x)) ∧ Below W.heap.size W w' := by
  refine (order_c x W).mono ?_
  rintro e w' ⟨v', rfl, h2, h3⟩
  have hr := Rows.of_own (enc := encZ) (k := 1) h2 (zs_len _) (by have := may_len (ordL_may x); omega)
  obtain ⟨A, c, rfl, _⟩ := id hr
  exact ⟨A, c, rfl, hr, h3⟩
theorem rorder_r (x : Ls) (W : World) : Calls Try.prog 36 #[.agg (celV (lsC x))] W fun e w' => ∃ A c, e = .returned (.tuple #[.slice A (ordL x).length c, .bool (isTB x)]) ∧ Rows encZ 1 w' (.slice A (ordL x).length c) (ordL x).length (zs (ordL x)) ∧ Below W.heap.size W w' := by
  refine (rorder_c x W).mono ?_
  rintro e w' ⟨v', rfl, hr, h3⟩
  obtain ⟨A, c, rfl, _⟩ := id hr
  exact ⟨A, c, rfl, hr, h3⟩
theorem z0_not : isTB z0 = false := by decide
theorem touch_z (id : Int) (W : World) : Calls Try.prog 37 #[.agg (celV (lsC z0)), .int .i64 id] W fun e w' => e = .returned (.tuple #[.agg (celV (lsC z0)), .int .i64 120]) ∧ Below W.heap.size W w' := by
  have := touch_c z0 id W
  rw [show touchR z0 id = z0 from if_neg (fun h => by rw [z0_not] at h; exact absurd h.1 (by simp)), show touchE z0 id = 120 by unfold touchE; rw [if_neg (by rw [z0_not]; simp)]] at this
  exact this
theorem eqS_same (x : Ls) (W : World) : (binOp .eql 55 (.agg (celV (lsC x))) (.agg (celV (lsC x)))).run Try.prog W = .ok (.bool true) W := by rw [eqS_eql, sameB_iff.2 (same_refl x)]
end Go.Proofs.Try
