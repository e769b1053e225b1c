/- arena.Has, slices.Clone of segments. -/
import Derived.Test.YtempamkacnjhjaaDoorAr4
import Derived.Lib.SliceRun
namespace Go.Proofs.Tryd
open Go.RowKit
set_option linter.unusedVariables false
set_option linter.unusedSimpArgs false
/-- The value is a slice of these segments. -/
def Segs (w : World) (v : Value) (n : Nat) (l : List Sg) : Prop := ∃ A c, v = .slice A n c ∧ CapOk A n c ∧ n ≤ 1000 ∧ l.length = n ∧ (∀ j, (at' l j).2 < 18446744073709551616) ∧ Sees w 2 A n (segC l)
theorem Segs.below {w w' : World} {v : Value} {n : Nat} {l : List Sg} (h : Segs w v n l) (hb : Below w.heap.size w w') : Segs w' v n l := by
  obtain ⟨A, c, rfl, hc, hn, hl, hu, hs⟩ := h
  exact ⟨A, c, rfl, hc, hn, hl, hu, hs.below hb⟩
theorem chk_c (v : Value) (n : Nat) (l : List Sg) (w : World) (h : Segs w v n l) :
    Calls Tryd.prog 10 #[v] w fun e w' => e = .returned (.bool (decide (chkL l))) ∧ Below w.heap.size w w' := by
  obtain ⟨A, c, rfl, hc, hn, hl, hu, hs⟩ := h
  exact check_c A n c l hu (by omega) w hs
/-- Is that slot taken? (Of any numbers.) -/
def hasL (l : List Sg) (i k : Int) : Bool := decide (0 ≤ i) && decide (0 ≤ k) && tkL l i.toNat k.toNat
theorem has_out (l : List Sg) (i k : Int) (h : i < 0 ∨ (l.length : Int) ≤ i ∨ k < 0) : hasL l i k = false := by
  unfold hasL
  rcases h with h | h | h
  · simp; omega
  · have : tkL l i.toNat k.toNat = false := by
      unfold tkL at'
      rw [List.getD_eq_getElem?_getD, List.getElem?_eq_none (by omega)]
      simp
    simp [this]
  · simp; omega
theorem has_nat (l : List Sg) (i k : Nat) : hasL l (i : Int) (k : Int) = tkL l i k := by
  unfold hasL
  simp
theorem tkn_c (v : Value) (n : Nat) (l : List Sg) (i k : Int) (w : World) (h : Segs w v n l) :
    Calls Tryd.prog 16 #[v, .agg #[.int .i64 i, .int .i64 k]] w fun e w' => e = .returned (.bool (hasL l i k)) ∧ Below w.heap.size w w' := by
  obtain ⟨A, c, rfl, hc, hn, hl, hu, hs⟩ := h
  by_cases ho : i < 0 ∨ (n : Int) ≤ i ∨ k < 0
  · rw [has_out l i k (by rw [hl]; exact ho)]
    exact taken_no A n c i k ho (by omega) w
  · obtain ⟨i', rfl⟩ := Int.eq_ofNat_of_zero_le (show 0 ≤ i by omega)
    obtain ⟨k', rfl⟩ := Int.eq_ofNat_of_zero_le (show 0 ≤ k by omega)
    rw [has_nat]
    rcases hs.2 with h0 | ⟨b, off, rfl, _, _⟩
    · omega
    · exact taken_in b off n c l i' k' (by omega) (by omega) hu w hs
set_option maxRecDepth 100000 in
set_option maxHeartbeats 2000000 in
theorem has_c (v : Value) (n : Nat) (l : List Sg) (i k : Int) (w : World) (h : Segs w v n l) :
    Calls Tryd.prog 9 #[v, .agg #[.int .i64 i, .int .i64 k]] w fun e w' => e = .returned (.bool (decide (chkL l) && hasL l i k)) ∧ Below w.heap.size w w' := by
  have HS := Lib.hid h
  clear h
  by_cases hc : chkL l
  · have e : decide (chkL l) = true := decide_eq_true hc
    have HC := Lib.hid (fun W (hb : Below w.heap.size w W) => chk_c v n l W (HS.out.below hb))
    rw [e] at HC ⊢
    clear hc e
    have HK := Lib.hid (fun W (hb : Below w.heap.size w W) => tkn_c v n l i k W (HS.out.below hb))
    go_enter Tryd.func9, Tryd.ntmps9
    go_wp2_with fail
    with_reducible refine (HC.out _ (by (repeat' (first | (with_reducible exact Below.refl _ _) | (with_reducible assumption) | (with_reducible refine Below.alloc ?_ ?_ _) | (with_reducible refine Below.drew ?_) | (with_reducible refine Below_drewN ?_ _) | (with_reducible refine Below.setCell ?_ ?_ _) | (refine Below.step (B' := ?_) (b := ?_) ?_ ?_ ?_; rotate_left 2; (with_reducible assumption)) | go_size)))).mono ?_
    rintro e w1 ⟨rfl, hb1⟩
    have hz1 := hb1.size
    simp only [World.size_alloc] at hz1
    have c0 : w1.cell? ⟨w.heap.size, 0, none⟩ = some (.int .i64 i) := (hb1.cell (p := ⟨w.heap.size, 0, none⟩) (by simp)).trans (by simp)
    have c1 : w1.cell? ⟨w.heap.size, 1, none⟩ = some (.int .i64 k) := (hb1.cell (p := ⟨w.heap.size, 1, none⟩) (by simp)).trans (by simp)
    have HB := Lib.hid (show Below w.heap.size w w1 from ((Below.refl _ _).alloc (Nat.le_refl _) _).trans (hb1.mono (by simp)))
    clear hb1
    go_wp2_with fail
    with_reducible refine (HK.out _ HB.out).mono ?_
    rintro e w2 ⟨rfl, hb2⟩
    have HB2 := Lib.hid (chain HB.out hb2)
    clear hb2
    go_wp2_with fail
    go_ret
    exact ⟨by simp, HB2.out⟩
  · have e : decide (chkL l) = false := decide_eq_false hc
    have HC := Lib.hid (fun W (hb : Below w.heap.size w W) => chk_c v n l W (HS.out.below hb))
    rw [e] at HC ⊢
    clear hc e
    go_enter Tryd.func9, Tryd.ntmps9
    go_wp2_with fail
    with_reducible refine (HC.out _ (by (repeat' (first | (with_reducible exact Below.refl _ _) | (with_reducible assumption) | (with_reducible refine Below.alloc ?_ ?_ _) | (with_reducible refine Below.drew ?_) | (with_reducible refine Below_drewN ?_ _) | (with_reducible refine Below.setCell ?_ ?_ _) | (refine Below.step (B' := ?_) (b := ?_) ?_ ?_ ?_; rotate_left 2; (with_reducible assumption)) | go_size)))).mono ?_
    rintro e w1 ⟨rfl, hb1⟩
    have HB := Lib.hid (show Below w.heap.size w w1 from ((Below.refl _ _).alloc (Nat.le_refl _) _).trans (hb1.mono (by simp)))
    clear hb1
    go_wp2_with fail
    go_ret
    exact ⟨by simp, HB.out⟩
/-- A block holds these segments, and they may be written. -/
def rowS (W : World) (b : Nat) (l : List Sg) : Prop := ∀ j, j < l.length → (W.cell? ⟨b, 2 * j, none⟩ = some (.int .i64 (at' l j).1) ∧ W.cell? ⟨b, 2 * j + 1, none⟩ = some (.int .u64 ((at' l j).2 : Int))) ∧ W.frozen? ⟨b, 2 * j, none⟩ = false ∧ W.frozen? ⟨b, 2 * j + 1, none⟩ = false
theorem rowS.below {W W' : World} {b : Nat} {l : List Sg} (h : rowS W b l) (hb : Below W.heap.size W W') (hlt : b < W.heap.size) : rowS W' b l := fun j hj =>
  ⟨⟨(hb.cell (p := ⟨b, 2 * j, none⟩) hlt).trans (h j hj).1.1, (hb.cell (p := ⟨b, 2 * j + 1, none⟩) hlt).trans (h j hj).1.2⟩, (hb.frozen (p := ⟨b, 2 * j, none⟩) hlt).trans (h j hj).2.1, (hb.frozen (p := ⟨b, 2 * j + 1, none⟩) hlt).trans (h j hj).2.2⟩
theorem rowS.other {W : World} {b : Nat} {l : List Sg} (h : rowS W b l) {a : Addr} (hne : a.block ≠ b) (v : Value) : rowS (W.setCell a v) b l := fun j hj =>
  ⟨⟨(World.cell?_setCell_other _ _ _ _ (by intro e; exact hne (by rw [e]))).trans (h j hj).1.1, (World.cell?_setCell_other _ _ _ _ (by intro e; exact hne (by rw [e]))).trans (h j hj).1.2⟩, (World.frozen?_setCell _ _ _ _).trans (h j hj).2.1, (World.frozen?_setCell _ _ _ _).trans (h j hj).2.2⟩
theorem rowS.set0 {W : World} {b : Nat} {l : List Sg} (h : rowS W b l) (i : Nat) (hi : i < l.length) (x : Int) : rowS (W.setCell ⟨b, 2 * i, none⟩ (.int .i64 x)) b (l.set i (x, (at' l i).2)) := fun j hj => by
  rw [List.length_set] at hj
  obtain ⟨⟨a0, a1⟩, f0, f1⟩ := h j hj
  rw [at_set _ _ _ _ hi]
  refine ⟨⟨?_, ?_⟩, (World.frozen?_setCell _ _ _ _).trans f0, (World.frozen?_setCell _ _ _ _).trans f1⟩
  · by_cases e : j = i
    · subst e
      rw [World.cell?_setCell_same _ _ _ a0, if_pos rfl]
    · rw [World.cell?_setCell_other _ _ _ _ (by first | (simp; done) | (simp; omega)), a0, if_neg e]
  · rw [World.cell?_setCell_other _ _ _ _ (by first | (simp; done) | (simp; omega)), a1]
    split
    · rename_i e; subst e; rfl
    · rfl
theorem rowS.set1 {W : World} {b : Nat} {l : List Sg} (h : rowS W b l) (i : Nat) (hi : i < l.length) (u : Nat) : rowS (W.setCell ⟨b, 2 * i + 1, none⟩ (.int .u64 (u : Int))) b (l.set i ((at' l i).1, u)) := fun j hj => by
  rw [List.length_set] at hj
  obtain ⟨⟨a0, a1⟩, f0, f1⟩ := h j hj
  rw [at_set _ _ _ _ hi]
  refine ⟨⟨?_, ?_⟩, (World.frozen?_setCell _ _ _ _).trans f0, (World.frozen?_setCell _ _ _ _).trans f1⟩
  · rw [World.cell?_setCell_other _ _ _ _ (by first | (simp; done) | (simp; omega)), a0]
    split
    · rename_i e; subst e; rfl
    · rfl
  · by_cases e : j = i
    · subst e
      rw [World.cell?_setCell_same _ _ _ a1, if_pos rfl]
    · rw [World.cell?_setCell_other _ _ _ _ (by first | (simp; done) | (simp; omega)), a1, if_neg e]
/-- The value is a slice of these segments, of the call's own (blocks from B on). -/
def OwnS (B : Nat) (w : World) (v : Value) (n : Nat) (l : List Sg) : Prop := n ≤ 1000 ∧ l.length = n ∧ (∀ j, (at' l j).2 < 18446744073709551616) ∧ ((n = 0 ∧ v = .slice none 0 0) ∨ ∃ g c, v = .slice (some ⟨g, 0, none⟩) n c ∧ n ≤ c ∧ B ≤ g ∧ g < w.heap.size ∧ rowS w g l)
theorem OwnS.below {B : Nat} {w w' : World} {v : Value} {n : Nat} {l : List Sg} (h : OwnS B w v n l) (hb : Below w.heap.size w w') : OwnS B w' v n l := by
  obtain ⟨a, b, c, h⟩ := h
  refine ⟨a, b, c, h.imp id ?_⟩
  rintro ⟨g, cc, rfl, h1, h2, h3, h4⟩
  exact ⟨g, cc, rfl, h1, h2, Nat.lt_of_lt_of_le h3 hb.size, h4.below hb h3⟩
theorem rowS.sees {W : World} {g : Nat} {l : List Sg} (h : rowS W g l) (hg : g < W.heap.size) : Sees W 2 (some ⟨g, 0, none⟩) l.length (segC l) := by
  refine ⟨by rw [segC_len]; omega, .inr ⟨g, 0, rfl, hg, fun j hj => ?_⟩⟩
  rw [segC_len] at hj
  obtain ⟨e1, e2⟩ := segC_at l (j / 2) (by omega)
  obtain ⟨⟨a0, a1⟩, _, _⟩ := h (j / 2) (by omega)
  rw [Nat.zero_add]
  rcases (by omega : j = 2 * (j / 2) ∨ j = 2 * (j / 2) + 1) with g | g
  · rw [g, e1, a0]
  · rw [g, e2, a1]
theorem OwnS.segs {B : Nat} {w : World} {v : Value} {n : Nat} {l : List Sg} (h : OwnS B w v n l) : Segs w v n l := by
  obtain ⟨a, b, c, h⟩ := h
  rcases h with ⟨rfl, rfl⟩ | ⟨g, cc, rfl, h1, h2, h3, h4⟩
  · obtain rfl : l = [] := List.eq_nil_of_length_eq_zero b
    exact ⟨none, 0, rfl, cap_none, a, rfl, c, Sees.empty _ _ _⟩
  · exact ⟨_, cc, rfl, cap_some h1, a, b, c, by have := h4.sees h3; rwa [b] at this⟩
theorem segC_one (l : List Sg) : ∀ u ∈ segC l, u.oneCell' = true := by
  intro u hu
  induction l with
  | nil => simp [segC] at hu
  | cons p l ih =>
    simp only [segC, List.mem_cons] at hu
    rcases hu with rfl | rfl | hu
    · rfl
    · rfl
    · exact ih hu
theorem own_row {B g cap : Nat} {w : World} {cur : Array Value} {e : TypeId} {n : Nat} {l : List Sg} (hl : l.length = n) (hg : w.heap[g]? = some (.cells cur e (0, 0))) (ht : cur.toList.take (n * 2) = segC l) : rowS w g l := fun j hj => by
  obtain ⟨e1, e2⟩ := segC_at l j hj
  have key : ∀ m, m < n * 2 → w.cell? ⟨g, m, none⟩ = (segC l)[m]? := fun m hm => by
    rw [cell_of_row w g m cur e (0, 0) hg, ← ht, List.getElem?_take, if_pos hm]
    simp
  refine ⟨⟨(key _ (by omega)).trans e1, (key _ (by omega)).trans e2⟩, ?_, ?_⟩ <;> simp [World.frozen?, hg]
theorem OwnS.of_own {B : Nat} {w : World} {e : TypeId} {v : Value} {n : Nat} {l : List Sg} (hn : n ≤ 1000) (hu : ∀ j, (at' l j).2 < 18446744073709551616) (h : w.ownsRow B e 2 v n (segC l)) : OwnS B w v n l := by
  obtain ⟨hl, h⟩ := h
  rw [segC_len] at hl
  refine ⟨hn, by omega, hu, ?_⟩
  rcases h with ⟨rfl, rfl⟩ | ⟨g, cap, cur, rfl, hb, hg, hnc, hm, hcur, ht⟩
  · exact .inl ⟨rfl, rfl⟩
  · exact .inr ⟨g, cap, rfl, hnc, hb, (Array.getElem?_eq_some_iff.1 hg).1, own_row (B := B) (cap := cap) (by omega) hg ht⟩
theorem seg_info : (Tryd.prog.info? 44).map (fun i => (i.zero, i.size, i.bytes)) = some (some (.agg #[.int .i64 0, .int .u64 0]), 2, 16) := by kernel_rfl
set_option maxRecDepth 100000 in
set_option maxHeartbeats 2000000 in
theorem clone_c (v : Value) (n : Nat) (l : List Sg) (w : World) (h : Segs w v n l) :
    Calls Tryd.prog 13 #[v] w fun e w' => (∃ v', e = .returned v' ∧ OwnS w.heap.size w' v' n l) ∧ Below w.heap.size w w' := by
  obtain ⟨i0, hi, hz0, hz1, hz2⟩ := info_parts seg_info
  obtain ⟨A, c, rfl, hc, hn, hl, hu, hs⟩ := h
  have HU := Lib.hid hu
  have HL := Lib.hid hl
  have q22 : ∀ (w : World) (a : Option Addr) (n c n' c' : Nat), (binOp .eql 24 (.slice a n c) (.slice none n' c')).run Tryd.prog w = .ok (.bool a.isNone) w := fun w a n c n' c' => Lib.run_eql_slice_nil w _ _ a n c n' c' Tryd.underlying24
  clear hu hl
  rcases A with _ | ad
  · have h0 : n = 0 := by
      rcases hs.2 with h0 | ⟨b, off, hA, _⟩
      · exact h0
      · cases hA
    subst h0
    have hl : l = [] := List.eq_nil_of_length_eq_zero HL.out
    have hc0 := hc.1 rfl
    subst hl hc0
    clear HU HL hs
    go_enter Tryd.func13, Tryd.ntmps13
    go_wp2_with fail
    go_ret
    exact ⟨⟨_, rfl, by omega, rfl, fun j => by simp [at'], .inl ⟨rfl, rfl⟩⟩, Below.refl _ _⟩
  · go_enter Tryd.func13, Tryd.ntmps13
    go_wp2_with (at_builtin
                 refine wpList_app rfl (.tmp 5) (.tmp 6) _ rfl w.heap.size 44 i0 _ 2 16 Tryd.underlying24 hi hz0 hz1 hz2 rfl (by omega) _ 0 [] rfl (World.ownsRow_made w #[] 0 (Nat.le_refl _) (Nat.zero_le _) rfl) (some ad) n c (segC l) rfl hc (hs.alloc _) (segC_one l) (by unfold maxLen; omega) (by omega) (by simp) ?_
                 intro v1 w1 hown1 hb1)
    rw [List.nil_append, Nat.zero_add] at hown1
    go_ret
    exact ⟨⟨_, rfl, OwnS.of_own hn HU.out hown1⟩, Below.step1 (Below.refl w.heap.size w) hb1 (Nat.le_refl _)⟩
end Go.Proofs.Tryd
