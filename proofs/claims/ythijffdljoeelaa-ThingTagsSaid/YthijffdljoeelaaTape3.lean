/- The contract of tape.Some: what a world holds while it picks. -/
import Derived.Test.YthijffdljoeelaaTape2
import Derived.Test.YthijffdljoeelaaOwn
import Derived.Test.YthijffdljoeelaaShelf
import Derived.Laws.MakeOwn
import Derived.Laws.IdiomCopy
namespace Go.Proofs.Try
open Go.RowKit
set_option linter.unusedVariables false

/-- The numbers that are picked from what is left, as many as are asked for, and the tape's place behind. -/
def someL (s : ByteArray) : Nat → Int → List Int → List Int
  | 0, _, _ => []
  | k + 1, i, left => left.getD (pickN s i left.length).toNat 0 :: someL s k (pickA s i left.length) (left.eraseIdx (pickN s i left.length).toNat)
def someA (s : ByteArray) : Nat → Int → Nat → Int
  | 0, i, _ => i
  | k + 1, i, n => someA s k (pickA s i n) (n - 1)
theorem someL_len (s : ByteArray) : ∀ (k : Nat) (i : Int) (l : List Int), (someL s k i l).length = k
  | 0, _, _ => rfl
  | k + 1, i, l => by rw [someL, List.length_cons, someL_len s k]
theorem pickN_in (s : ByteArray) (i : Int) (n : Nat) (h1 : 1 ≤ n) (h2 : n ≤ 1000) : 0 ≤ pickN s i n ∧ pickN s i n < n := by
  unfold pickN
  rw [if_pos ⟨by omega, by omega⟩]
  obtain ⟨d0, d1⟩ := drawN_in s i
  obtain ⟨p0, p1⟩ := prod_lt (drawN s i) n d0 d1 (by omega) (by omega)
  omega
theorem pickA_in (s : ByteArray) (i n : Int) (hs : s.size ≤ 4611686018427387904) (h0 : -9223372036854775808 ≤ i) (h1 : i ≤ 9223372036854775807) : -9223372036854775808 ≤ pickA s i n ∧ pickA s i n ≤ 9223372036854775807 := by
  unfold pickA
  split
  · exact nextN_in s i hs h0 h1
  · exact ⟨h0, h1⟩

/-- A block holds these numbers, and they may be written. -/
def rowAt (W : World) (b : Nat) (xs : List Int) : Prop := ∀ j, j < xs.length → W.cell? ⟨b, j, none⟩ = some (.int .i64 (xs.getD j 0)) ∧ W.frozen? ⟨b, j, none⟩ = false
/-- A block holds a tape, and it may be written. -/
def tapeAt (W : World) (b : Nat) (s : ByteArray) (i : Int) : Prop := W.cell? ⟨b, 0, none⟩ = some (.string s) ∧ W.cell? ⟨b, 1, none⟩ = some (.int .i64 i) ∧ W.frozen? ⟨b, 0, none⟩ = false ∧ W.frozen? ⟨b, 1, none⟩ = false
/-- The cells behind 'slices.Delete'. -/
def delL (xs : List Int) (a : Nat) : List Value := ((xs.take xs.length).take a ++ (xs.take xs.length).drop (a + 1) ++ List.replicate (a + 1 - a) 0).map (Value.int .i64)
section
variable {W W' : World} {b b' : Nat} {xs : List Int} {s : ByteArray} {i : Int}
theorem rowAt.below (h : rowAt W b xs) (hb : Below W.heap.size W W') (hlt : b < W.heap.size) : rowAt W' b xs := fun j hj =>
  ⟨(hb.cell (p := ⟨b, j, none⟩) hlt).trans (h j hj).1, (hb.frozen (p := ⟨b, j, none⟩) hlt).trans (h j hj).2⟩
theorem tapeAt.below (h : tapeAt W b s i) (hb : Below W.heap.size W W') (hlt : b < W.heap.size) : tapeAt W' b s i :=
  ⟨(hb.cell (p := ⟨b, 0, none⟩) hlt).trans h.1, (hb.cell (p := ⟨b, 1, none⟩) hlt).trans h.2.1, (hb.frozen (p := ⟨b, 0, none⟩) hlt).trans h.2.2.1, (hb.frozen (p := ⟨b, 1, none⟩) hlt).trans h.2.2.2⟩
theorem rowAt.other (h : rowAt W b xs) (hne : b' ≠ b) (o : Nat) (v : Value) : rowAt (W.setCell ⟨b', o, none⟩ v) b xs := fun j hj =>
  ⟨(World.cell?_setCell_other _ _ _ _ (by first | (simp; done) | (simp; omega))).trans (h j hj).1, (World.frozen?_setCell _ _ _ _).trans (h j hj).2⟩
theorem tapeAt.other (h : tapeAt W b s i) (hne : b' ≠ b) (o : Nat) (v : Value) : tapeAt (W.setCell ⟨b', o, none⟩ v) b s i :=
  ⟨(World.cell?_setCell_other _ _ _ _ (by first | (simp; done) | (simp; omega))).trans h.1, (World.cell?_setCell_other _ _ _ _ (by first | (simp; done) | (simp; omega))).trans h.2.1, (World.frozen?_setCell _ _ _ _).trans h.2.2.1, (World.frozen?_setCell _ _ _ _).trans h.2.2.2⟩
theorem rowAt.set (h : rowAt W b xs) (j : Nat) (hj : j < xs.length) (v : Int) : rowAt (W.setCell ⟨b, j, none⟩ (.int .i64 v)) b (xs.set j v) := fun k hk => by
  rw [List.length_set] at hk
  refine ⟨?_, (World.frozen?_setCell _ _ _ _).trans (h k hk).2⟩
  by_cases e : j = k
  · subst e
    rw [World.cell?_setCell_same _ _ _ (h j hk).1, List.getD_eq_getElem?_getD, List.getElem?_set_self (by omega)]
    rfl
  · rw [World.cell?_setCell_other _ _ _ _ (by first | (simp; done) | (simp; omega)), (h k hk).1, List.getD_eq_getElem?_getD, List.getD_eq_getElem?_getD, List.getElem?_set_ne e]
theorem tapeAt.set (h : tapeAt W b s i) (i' : Int) : tapeAt ((W.setCell ⟨b, 0, none⟩ (.string s)).setCell ⟨b, 1, none⟩ (.int .i64 i')) b s i' := by
  obtain ⟨h0, h1, f0, f1⟩ := h
  have e1 : (W.setCell ⟨b, 0, none⟩ (.string s)).cell? ⟨b, 1, none⟩ = some (.int .i64 i) := (World.cell?_setCell_other _ _ _ _ (by simp)).trans h1
  refine ⟨(World.cell?_setCell_other _ _ _ _ (by simp)).trans (World.cell?_setCell_same _ _ _ h0), World.cell?_setCell_same _ _ _ e1, ?_, ?_⟩
  · rw [World.frozen?_setCell, World.frozen?_setCell, f0]
  · rw [World.frozen?_setCell, World.frozen?_setCell, f1]
theorem rowAt.cells (h : rowAt W b xs) (hne : b' ≠ b) (n : Nat) (vs : List Value) : rowAt ((W.drewN n).setCells b' 0 vs) b xs := fun j hj =>
  ⟨(World.cell?_setCells_out b' vs 0 _ _ (fun e _ => absurd e.symm hne)).trans (h j hj).1, (World.frozen?_setCells b' vs 0 _ _).trans (h j hj).2⟩
theorem tapeAt.cells (h : tapeAt W b s i) (hne : b' ≠ b) (n : Nat) (vs : List Value) : tapeAt ((W.drewN n).setCells b' 0 vs) b s i :=
  ⟨(World.cell?_setCells_out b' vs 0 _ _ (fun e _ => absurd e.symm hne)).trans h.1, (World.cell?_setCells_out b' vs 0 _ _ (fun e _ => absurd e.symm hne)).trans h.2.1,
    (World.frozen?_setCells b' vs 0 _ _).trans h.2.2.1, (World.frozen?_setCells b' vs 0 _ _).trans h.2.2.2⟩
/-- What is left behind 'slices.Delete'. -/
theorem rowAt.del (h : rowAt W b xs) (a n : Nat) (ha : a < xs.length) : rowAt ((W.drewN n).setCells b 0 (delL xs a)) b (xs.eraseIdx a) := fun j hj => by
  unfold delL
  rw [List.length_eraseIdx, if_pos ha] at hj
  have hlen : (((xs.take xs.length).take a ++ (xs.take xs.length).drop (a + 1) ++ List.replicate (a + 1 - a) 0).map (Value.int .i64)).length = xs.length := by
    simp; omega
  have hc := World.cell?_setCells_in b (((xs.take xs.length).take a ++ (xs.take xs.length).drop (a + 1) ++ List.replicate (a + 1 - a) 0).map (Value.int .i64)) 0 (W.drewN n) (fun k hk => by
    rw [hlen] at hk
    rw [Nat.zero_add, World.cell?_drewN, (h k hk).1]; rfl) j (by rw [hlen]; omega)
  rw [Nat.zero_add] at hc
  refine ⟨hc.trans ?_, (World.frozen?_setCells b _ 0 _ _).trans (h j (by omega)).2⟩
  have e : (((xs.take xs.length).take a ++ (xs.take xs.length).drop (a + 1) ++ List.replicate (a + 1 - a) 0).map (Value.int .i64))[j]? = some (.int .i64 ((xs.eraseIdx a).getD j 0)) := by
    rw [List.take_length, List.getElem?_map, List.getElem?_append_left (by simp; omega), ← List.eraseIdx_eq_take_drop_succ, List.getD_eq_getElem?_getD, List.getElem?_eq_getElem (by rw [List.length_eraseIdx, if_pos ha]; exact hj)]
    rfl
  rw [← e, List.getElem?_eq_getElem (by rw [hlen]; omega)]
theorem below_cells {B : Nat} (h : Below B W W') (hb : B ≤ b) (n : Nat) (vs : List Value) : Below B W ((W'.drewN n).setCells b 0 vs) := below_setCells hb vs 0 _ (Below_drewN h n)
theorem size_cells (n : Nat) (vs : List Value) : ((W.drewN n).setCells b 0 vs).heap.size = W.heap.size := by
  have : ∀ (vs : List Value) (o : Nat) (W : World), (W.setCells b o vs).heap.size = W.heap.size := by
    intro vs
    induction vs with
    | nil => intro o W; rfl
    | cons v r ih => intro o W; rw [World.setCells, ih]; simp
  rw [this]; simp
end
theorem rowAt_drew {W : World} {b : Nat} {xs : List Int} (h : rowAt W b xs) : rowAt W.drew b xs := h
theorem rowAt.made (w : World) (n : Nat) (e : TypeId) : rowAt (w.alloc (.cells (madeCells #[.int .i64 0] n) e)) w.heap.size (List.replicate n 0) := fun j hj => by
  rw [List.length_replicate] at hj
  refine ⟨?_, ?_⟩
  · rw [cell_of_row _ _ j _ e (0, 0) (heap_alloc_new w _), madeCells]
    simp [hj, Nat.mod_one]
  · go_simp
theorem tapeAt.alloc {W : World} {b : Nat} {s : ByteArray} {i : Int} (h : tapeAt W b s i) (hlt : b < W.heap.size) (o : Obj) : tapeAt (W.alloc o) b s i := h.below ((Below.refl _ _).alloc (Nat.le_refl _) _) hlt
theorem rowAt.alloc {W : World} {b : Nat} {xs : List Int} (h : rowAt W b xs) (hlt : b < W.heap.size) (o : Obj) : rowAt (W.alloc o) b xs := h.below ((Below.refl _ _).alloc (Nat.le_refl _) _) hlt
theorem rowAt.sees {W : World} {b : Nat} {xs : List Int} (h : rowAt W b xs) (hlt : b < W.heap.size) : Sees W 1 (some ⟨b, 0, none⟩) xs.length (xs.map (Value.int .i64)) :=
  ⟨by simp, .inr ⟨b, 0, rfl, hlt, fun j hj => by
    rw [List.length_map] at hj
    rw [Nat.zero_add, (h j hj).1, List.getElem?_map, List.getD_eq_getElem?_getD, List.getElem?_eq_getElem hj]; rfl⟩⟩

theorem int_info : (Try.prog.info? 3).map (fun i => (i.zero, i.size, i.bytes)) = some (some (.int .i64 0), 1, 8) := by kernel_rfl
/-- 0, 1, .. and zeros behind. -/
def steps (k n : Nat) : List Int := (List.range k).map Int.ofNat ++ List.replicate (n - k) 0
theorem steps_len (k n : Nat) (h : k ≤ n) : (steps k n).length = n := by unfold steps; simp; omega
theorem steps_set (k n : Nat) (h : k < n) : (steps k n).set k (k : Int) = steps (k + 1) n := by
  unfold steps
  rw [List.set_append_right _ _ (by simp), List.range_succ, List.map_append, List.append_assoc]
  congr 1
  rw [show n - k = (n - (k + 1)) + 1 by omega]
  simp [List.replicate_succ]
theorem steps_all (n : Nat) : steps n n = (List.range n).map Int.ofNat := by unfold steps; simp

theorem make_ints (n : Nat) (h : n ≤ 1000000) (W : World) : (Instr.makeSlice 30 (.int .i64 (n : Int)) (.int .i64 (n : Int))).run Try.prog W = .ok (.slice (some ⟨W.heap.size, 0, none⟩) n n) (W.alloc (.cells (madeCells #[.int .i64 0] n) 3)) := by
  obtain ⟨i0, hi, hz0, hz1, hz2⟩ := info_parts int_info
  have hmk := run_make (P := Try.prog) W 30 3 i0 _ Try.underlying30 hi hz0 .i64 .i64 n n (by omega) (by omega) (by rw [hz2]; omega) (by omega)
  rw [hz1] at hmk
  simpa [Value.cells] using hmk
theorem del_c (b a n : Nat) (L : List Int) (W : World) (h : rowAt W b L) (ha : a < L.length) (hn : L.length ≤ n) (hm : n ≤ 1000) :
    Calls Try.prog 37 #[.slice (some ⟨b, 0, none⟩) L.length n, .int .i64 (a : Int), .int .i64 ((a : Int) + 1)] W fun e w' => e = .returned (.slice (some ⟨b, 0, none⟩) (L.length - 1) n) ∧ ∃ q, w' = (W.drewN q).setCells b 0 (delL L a) := by
  unfold delL
  have := Try.slices_Delete_int_cells b 0 L.length n a (a + 1) L W (Nat.le_refl _) hn (by omega) (by omega) (by omega) (fun j hj => by rw [Nat.zero_add]; exact (h j hj).1) (fun j hj => by rw [Nat.zero_add]; exact (h j hj).2)
  rw [show a + 1 - a = 1 by omega] at this ⊢
  rw [show ((a : Int) + 1) = ((a + 1 : Nat) : Int) by omega]
  exact this
theorem some_step (s : ByteArray) (O L T : List Int) (ii : Int) (m j a : Nat) (hj : j < m) (hO : O.length = m) (ha : pickN s ii L.length = a) (h : O.take j ++ someL s (m - j) ii L = T) :
    (O.set j (L.getD a 0)).take (j + 1) ++ someL s (m - (j + 1)) (pickA s ii L.length) (L.eraseIdx a) = T := by
  rw [← h, show m - j = (m - (j + 1)) + 1 by omega, someL, ha, Int.toNat_natCast, List.take_add_one, List.take_set_of_le (Nat.le_refl _), List.getElem?_set_self (by omega)]
  simp
theorem someA_step (s : ByteArray) (ii T : Int) (m j l : Nat) (hj : j < m) (h : someA s (m - j) ii l = T) : someA s (m - (j + 1)) (pickA s ii l) (l - 1) = T := by
  rw [← h, show m - j = (m - (j + 1)) + 1 by omega, someA]

set_option maxHeartbeats 2000000 in
theorem some_ok (s : ByteArray) (i : Int) (n : Nat) (many : Int) (hs : s.size ≤ 4611686018427387904) (h0 : -9223372036854775808 ≤ i) (h1 : i ≤ 9223372036854775807) (n1 : 1 ≤ n) (n2 : n ≤ 1000) (m1 : 1 ≤ many) (w : World) :
    Calls Try.prog 19 #[tp s i, .int .i64 n, .int .i64 many] w fun r w' => ∃ b, r = .returned (.tuple #[.slice (some ⟨b, 0, none⟩) (min many n).toNat (min many n).toNat, tp s (someA s (min many n).toNat i n)]) ∧ b < w'.heap.size ∧ rowAt w' b (someL s (min many n).toNat i ((List.range n).map Int.ofNat)) ∧ Below w.heap.size w w' := by
  have d1 : decide ((n : Int) < 1) = false := by simp; omega
  have d2 : decide (1000 < (n : Int)) = false := by simp; omega
  have d3 : decide (many < 1) = false := by simp; omega
  have hmkn := make_ints n (by omega)
  unfold tp
  go_enter Try.func19, Try.ntmps19
  go_wp2_with fail
  go_loopw [27] (fun x wr => ∃ k : Nat, k ≤ n ∧ x = .int .i64 k ∧ tapeAt wr w.heap.size s i ∧ tapeAt wr (w.heap.size + 1) ⟨#[]⟩ 0 ∧ rowAt wr (w.heap.size + 1 + 1) (steps k n) ∧ w.heap.size + 1 + 1 < wr.heap.size ∧ Below w.heap.size w wr) (fun x _ => n - (intOf x).toNat)
  case atStart =>
    refine ⟨0, by omega, rfl, ?_, ?_, ?_, by simp, by (repeat' (first | (with_reducible exact Below.refl _ _) | (with_reducible assumption) | (with_reducible refine Below.alloc ?_ ?_ _) | (with_reducible refine Below.drew ?_) | (with_reducible refine Below_drewN ?_ _) | (with_reducible refine Below.setCell ?_ ?_ _) | (refine Below.step (B' := ?_) (b := ?_) ?_ ?_ ?_; rotate_left 2; (with_reducible assumption)) | go_size))⟩
    · exact tapeAt.alloc (tapeAt.alloc ⟨by go_simp, by go_simp, by go_simp, by go_simp⟩ (by simp) _) (by simp; omega) _
    · exact tapeAt.alloc ⟨by go_simp, by go_simp, by go_simp, by go_simp⟩ (by simp) _
    · have := rowAt.made ((w.alloc (.cells #[.string s, .int .i64 i] 23)).alloc (.cells #[.string ⟨#[]⟩, .int .i64 0] 23)) n 3
      simpa [steps] using this
  case round =>
    obtain ⟨k, hk, rfl, ht, hr, hrow, hz, hb⟩ := hrel
    by_cases hlt : k < n
    · obtain ⟨hck, hfk⟩ := hrow k (by rw [steps_len _ _ hk]; exact hlt)
      have HT := Lib.hid ht
      have HR := Lib.hid hr
      have HW := Lib.hid hrow
      clear ht hr hrow
      go_wp2_with fail
      go_roundw
      case rel =>
        refine ⟨k + 1, by omega, by go_num, ?_, ?_, ?_, by simpa using hz, by (repeat' (first | (with_reducible exact Below.refl _ _) | (with_reducible assumption) | (with_reducible refine Below.alloc ?_ ?_ _) | (with_reducible refine Below.drew ?_) | (with_reducible refine Below_drewN ?_ _) | (with_reducible refine Below.setCell ?_ ?_ _) | (refine Below.step (B' := ?_) (b := ?_) ?_ ?_ ?_; rotate_left 2; (with_reducible assumption)) | go_size))⟩
        · (repeat (first | (with_reducible exact HT.out) | (with_reducible refine tapeAt.other ?_ ?_ _ _; rotate_left; omega)))
        · (repeat (first | (with_reducible exact HR.out) | (with_reducible refine tapeAt.other ?_ ?_ _ _; rotate_left; omega)))
        · have := HW.out.set k (by rw [steps_len _ _ hk]; exact hlt) k
          rwa [steps_set k n hlt] at this
      case measure => simp [intOf]; omega
    · have hke : k = n := by omega
      subst hke
      have HT := Lib.hid ht
      have HR := Lib.hid hr
      have HW := Lib.hid hrow
      clear ht hr hrow hmkn
      obtain ⟨m, hm, m2, m3⟩ : ∃ m : Nat, min many (k : Int) = m ∧ 1 ≤ m ∧ m ≤ k := ⟨(min many (k : Int)).toNat, by omega, by omega, by omega⟩
      have hmkm := make_ints m (by omega)
      have HM := Lib.hid hm
      obtain ⟨V, hV⟩ : ∃ V, V = wr := ⟨_, rfl⟩
      subst hV
      go_wp2_with fail
      go_loopw [41, 8] (fun x v W => ∃ (j l : Nat) (L O : List Int) (ii : Int), j ≤ m ∧ x = .int .i64 j ∧ v = .slice (some ⟨w.heap.size + 1 + 1, 0, none⟩) l k ∧ L.length = l ∧ l + j = k ∧ O.length = m ∧
        O.take j ++ someL s (m - j) ii L = someL s m i ((List.range k).map Int.ofNat) ∧ someA s (m - j) ii l = someA s m i k ∧ -9223372036854775808 ≤ ii ∧ ii ≤ 9223372036854775807 ∧
        tapeAt W w.heap.size s ii ∧ tapeAt W (w.heap.size + 1) ⟨#[]⟩ 0 ∧ rowAt W (w.heap.size + 1 + 1) L ∧ rowAt W V.heap.size O ∧ V.heap.size < W.heap.size ∧ Below w.heap.size w W) (fun x _ _ => m - (intOf x).toNat)
      case atStart =>
        refine ⟨0, k, steps k k, List.replicate m 0, i, by omega, rfl, rfl, steps_len _ _ (Nat.le_refl _), rfl, by simp, ?_, by simp, h0, h1, HT.out.alloc (by omega) _, HR.out.alloc (by omega) _, HW.out.alloc (by omega) _, rowAt.made _ _ _, by simp, by (repeat' (first | (with_reducible exact Below.refl _ _) | (with_reducible assumption) | (with_reducible refine Below.alloc ?_ ?_ _) | (with_reducible refine Below.drew ?_) | (with_reducible refine Below_drewN ?_ _) | (with_reducible refine Below.setCell ?_ ?_ _) | (refine Below.step (B' := ?_) (b := ?_) ?_ ?_ ?_; rotate_left 2; (with_reducible assumption)) | go_size))⟩
        rw [steps_all]; simp
      case round =>
        obtain ⟨j, l, L, O, ii, hj, rfl, rfl, hL, hl, hO, hS, hA, b0, b1, ht, hr, hrow, hout, hzW, hbW⟩ := hrel
        subst hL
        by_cases hlt : j < m
        · have l1 : 1 ≤ L.length := by omega
          have l2 : L.length ≤ 1000 := by omega
          obtain ⟨p0, p1⟩ := pickN_in s ii L.length l1 l2
          obtain ⟨a, ha⟩ := Int.eq_ofNat_of_zero_le p0
          rw [ha] at p1
          have a1 : a < L.length := by omega
          have HP := pick_c s ii L.length hs b0 b1
          rw [ha] at HP
          obtain ⟨i1, hi1⟩ : ∃ i1, pickA s ii L.length = i1 := ⟨_, rfl⟩
          rw [hi1] at HP
          have bi := pickA_in s ii L.length hs b0 b1
          rw [hi1] at bi
          obtain ⟨bi0, bi1⟩ := bi
          have HE1 := Lib.hid (some_step s O L _ ii m j a hlt hO ha hS)
          have HE2 := Lib.hid (someA_step s ii _ m j _ hlt hA)
          rw [hi1] at HE1
          rw [hi1] at HE2
          clear hS hA
          obtain ⟨t0, t1, t2, t3⟩ := ht
          have HT := Lib.hid (show tapeAt wr w.heap.size s ii from ⟨t0, t1, t2, t3⟩)
          have HR := Lib.hid hr
          have HW := Lib.hid hrow
          have HO := Lib.hid hout
          clear hr hrow hout
          unfold tp at HP
          go_wp2_with fail
          refine (HP _).mono ?_
          rintro e w1 ⟨rfl, hb1⟩
          have HT1 := Lib.hid (HT.out.below hb1 (by omega))
          have HR1 := Lib.hid (HR.out.below hb1 (by omega))
          have HW1 := Lib.hid (HW.out.below hb1 (by omega))
          have HO1 := Lib.hid (HO.out.below hb1 (by omega))
          have hz1 := hb1.size
          obtain ⟨s0, s1, s2, s3⟩ := HT1.out
          obtain ⟨r1, r2⟩ := HW1.out a (by omega)
          obtain ⟨o1, o2⟩ := HO1.out j (by omega)
          generalize hv : L.getD a 0 = v at r1
          rw [hv] at HE1
          have HH := Lib.hid hv
          clear hv
          go_wp2_with fail
          refine (del_c (w.heap.size + 1 + 1) a k L _ ?_ a1 (by omega) n2).mono ?_
          · (repeat (first | (with_reducible exact HW1.out) | (with_reducible refine rowAt.other ?_ ?_ _ _; rotate_left; omega)))
          rintro e w2 ⟨rfl, q, rfl⟩
          go_wp2_with fail
          go_roundw
          case rel =>
            refine ⟨j + 1, L.length - 1, L.eraseIdx a, O.set j v, i1, by omega, by go_num, rfl, by rw [List.length_eraseIdx, if_pos a1], by omega, by rw [List.length_set, hO], HE1.out, HE2.out, bi0, bi1, ?_, ?_, ?_, ?_, ?_, ?_⟩
            · with_reducible refine tapeAt.cells ?_ ?_ _ _
              · (repeat (first | (with_reducible exact (HT1.out.set i1)) | (with_reducible refine tapeAt.other ?_ ?_ _ _; rotate_left; omega)))
              · omega
            · with_reducible refine tapeAt.cells ?_ ?_ _ _
              · (repeat (first | (with_reducible exact HR1.out) | (with_reducible refine tapeAt.other ?_ ?_ _ _; rotate_left; omega)))
              · omega
            · with_reducible refine rowAt.del ?_ a q a1
              (repeat (first | (with_reducible exact HW1.out) | (with_reducible refine rowAt.other ?_ ?_ _ _; rotate_left; omega)))
            · with_reducible refine rowAt.cells ?_ ?_ _ _
              · with_reducible refine rowAt.set ?_ j (by omega) v
                (repeat (first | (with_reducible exact HO1.out) | (with_reducible refine rowAt.other ?_ ?_ _ _; rotate_left; omega)))
              · omega
            · rw [size_cells]; simp; omega
            · refine below_cells ?_ (by omega) _ _
              (repeat' (first | (with_reducible exact Below.refl _ _) | (with_reducible assumption) | (with_reducible refine Below.alloc ?_ ?_ _) | (with_reducible refine Below.drew ?_) | (with_reducible refine Below_drewN ?_ _) | (with_reducible refine Below.setCell ?_ ?_ _) | (refine Below.step (B' := ?_) (b := ?_) ?_ ?_ ?_; rotate_left 2; (with_reducible assumption)) | go_size))
          case measure => simp [intOf]; omega
        · have hje : j = m := by omega
          subst hje
          rw [Nat.sub_self] at hS hA
          have HS := Lib.hid (show O = someL s j i ((List.range k).map Int.ofNat) by rw [← hS, someL, List.append_nil, List.take_of_length_le (by omega)])
          have HA := Lib.hid (show ii = someA s j i k from hA)
          obtain ⟨t0, t1, t2, t3⟩ := ht
          obtain ⟨r0, r1, r2, r3⟩ := hr
          have HO := Lib.hid hout
          clear hS hA hout hrow
          go_wp2_with fail
          go_region
          go_wp2_with fail
          refine bodyPost_ret (by simp [results, Try.results19, go_sem, r0, r1]; try rfl) rfl ?_
          refine ⟨V.heap.size, ?_, by simp; omega, ?_, by (repeat' (first | (with_reducible exact Below.refl _ _) | (with_reducible assumption) | (with_reducible refine Below.alloc ?_ ?_ _) | (with_reducible refine Below.drew ?_) | (with_reducible refine Below_drewN ?_ _) | (with_reducible refine Below.setCell ?_ ?_ _) | (refine Below.step (B' := ?_) (b := ?_) ?_ ?_ ?_; rotate_left 2; (with_reducible assumption)) | go_size))⟩
          · rw [HM.out, Int.toNat_natCast, HA.out]
          · rw [HM.out, Int.toNat_natCast, ← HS.out]
            with_reducible refine rowAt_drew ?_
            (repeat (first | (with_reducible exact HO.out) | (with_reducible refine rowAt.other ?_ ?_ _ _; rotate_left; omega)))
end Go.Proofs.Try
