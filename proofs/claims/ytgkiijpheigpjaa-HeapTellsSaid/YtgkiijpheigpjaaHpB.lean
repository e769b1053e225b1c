/- heap: compare, Less, find. -/
import Derived.Test.YtgkiijpheigpjaaHpA
import Derived.Test.YtgkiijpheigpjaaQT
namespace Go.Proofs.Try
open Go.RowKit
set_option linter.unusedVariables false
set_option linter.unusedSimpArgs false
set_option maxRecDepth 100000 in
set_option maxHeartbeats 2000000 in
theorem compare_g (ai ap aq bi bp bq : Int) (w : World) : Calls Try.prog 50 #[.agg #[.int .i64 ai, .int .u64 ap, .int .u64 aq], .agg #[.int .i64 bi, .int .u64 bp, .int .u64 bq]] w fun e w' => e = .returned (.int .i64 (cmpI (ai, ap, aq) (bi, bp, bq))) ∧ Grew w w' := by
  have HE := Lib.hid (show cmpI (ai, ap, aq) (bi, bp, bq) = orZ (cmpZ ap bp) (cmpZ aq bq) (cmpZ ai bi) from rfl)
  go_enter Try.func50, Try.ntmps50
  go_wp2_with fail
  refine region_quiet_tail 15 (by kernel_rfl) (by kernel_rfl) ?_
  simp only [List.take_succ_cons, List.take_zero, List.drop_succ_cons, List.drop_zero]
  repeat (go_big_quiet_step ((first | (go_at_call 64; with_reducible exact quiet_left (cmp_u _ _ _)) | (go_at_call 65; with_reducible exact quiet_left (cmp_i _ _ _)))))
  refine wpQuiet_nil ?_
  intro m
  go_wp2_with fail
  refine (or_c _ (cmpZ ap bp) (cmpZ aq bq) (cmpZ ai bi) _ (by go_simp) (by go_simp) (by go_simp)).mono ?_
  rintro e w' ⟨rfl, rfl⟩
  go_wp2_with fail
  go_ret
  exact ⟨ret_i HE.out.symm, (((Grew.alloc _ _).trans (Grew.alloc _ _)).trans (Grew.drewN _ _)).trans (Grew.alloc _ _)⟩
theorem less_c (ai ap aq bi bp bq : Int) (w : World) : Calls Try.prog 22 #[.agg #[.int .i64 ai, .int .u64 ap, .int .u64 aq], .agg #[.int .i64 bi, .int .u64 bp, .int .u64 bq]] w fun e w' => e = .returned (.bool (decide (LtI (ai, ap, aq) (bi, bp, bq)))) ∧ Below w.heap.size w w' := by
  have C1 := fun W => compare_g ai ap aq bi bp bq W
  have HE := Lib.hid (show decide (LtI (ai, ap, aq) (bi, bp, bq)) = decide (cmpI (ai, ap, aq) (bi, bp, bq) < 0) from decide_eq_decide.2 (cmpI_lt _ _).symm)
  generalize cmpI (ai, ap, aq) (bi, bp, bq) = x at *
  go_enter Try.func22, Try.ntmps22
  go_wp2_with fail
  refine (C1 _).mono ?_
  rintro e w1 ⟨rfl, hg⟩
  have hb1 := hg.below
  clear hg
  go_wp2_with fail
  go_ret
  exact ⟨ret_b HE.out.symm, by (repeat' (first | (with_reducible exact Below.refl _ _) | (with_reducible assumption) | (with_reducible refine Below.alloc ?_ ?_ _) | (with_reducible refine Below.drew ?_) | (with_reducible refine Below_drewN ?_ _) | (with_reducible refine Below.setCell ?_ ?_ _) | (refine Below.step (B' := ?_) (b := ?_) ?_ ?_ ?_; rotate_left 2; (with_reducible assumption)) | go_size))⟩
/-- An item's cells. -/
def encI (x : It) : List Value := [.int .i64 x.1, .int .u64 x.2.1, .int .u64 x.2.2]
theorem encI_len (x : It) : (encI x).length = 3 := rfl
theorem encI_one (x : It) : ∀ u ∈ encI x, u.oneCell' = true := by
  intro u hu
  simp [encI] at hu
  rcases hu with rfl | rfl | rfl <;> rfl
theorem item_info : (Try.prog.info? 25).map (fun i => (i.zero, i.size, i.bytes)) = some (some (.agg #[.int .i64 0, .int .u64 0, .int .u64 0]), 3, 24) := by kernel_rfl
theorem Sees.item {w : World} {n b off : Nat} {l : List It} (h : Sees w 3 (some ⟨b, off, none⟩) n (flat encI l)) {j : Nat} (hj : j < n) :
    w.cell? ⟨b, off + j * 3, none⟩ = some (.int .i64 (atI l j).1) ∧ w.cell? ⟨b, off + j * 3 + 1, none⟩ = some (.int .u64 (atI l j).2.1) ∧ w.cell? ⟨b, off + j * 3 + 2, none⟩ = some (.int .u64 (atI l j).2.2) ∧ b < w.heap.size := by
  have hl := h.elen encI_len (by omega)
  have hx := atI_some (l := l) (j := j) (by omega)
  have h0 := h.el encI_len hx (i := 0) rfl
  have h1 := h.el encI_len hx (i := 1) rfl
  have h2 := h.el encI_len hx (i := 2) rfl
  rw [Nat.add_zero] at h0
  exact ⟨h0, h1, h2, World.block_lt_of_cell? w _ h0⟩
/-- The item stands nowhere ahead of k. -/
def nofI (l : List It) (z : Int) (k : Nat) : Prop := ∀ j, j < k → (atI l j).1 ≠ z
theorem fndI_at {l : List It} {z : Int} {k : Nat} (hk : k < l.length) (hn : nofI l z k) (he : (atI l k).1 = z) : fndI l z = (k : Int) := by
  have : l.findIdx? (fun x => x.1 == z) = some k := by
    rw [List.findIdx?_eq_some_iff_getElem]
    have e : ∀ j (h : j < l.length), l[j] = atI l j := fun j h => by
      unfold atI
      rw [List.getD_eq_getElem?_getD, List.getElem?_eq_getElem h]; rfl
    refine ⟨hk, by rw [e k hk]; simpa using he, fun j hj => ?_⟩
    rw [e j (by omega)]
    simpa using hn j hj
  unfold fndI
  rw [this]
theorem fndI_none {l : List It} {z : Int} (hn : nofI l z l.length) : fndI l z = -1 := by
  have : l.findIdx? (fun x => x.1 == z) = none := by
    rw [List.findIdx?_eq_none_iff]
    intro x hx
    obtain ⟨j, hj, e⟩ := List.getElem_of_mem hx
    have := hn j hj
    have e' : atI l j = x := by unfold atI; rw [List.getD_eq_getElem?_getD, List.getElem?_eq_getElem hj]; exact e
    rw [e'] at this
    simpa using this
  unfold fndI
  rw [this]
theorem fnd1_yes (ai ap aq : Int) (b : Nat) (w : World) (h : w.cell? ⟨b, 0, none⟩ = some (.int .i64 ai)) (hb : b < w.heap.size) :
    Calls Try.prog 62 #[.agg #[.int .i64 ai, .int .u64 ap, .int .u64 aq], .pointer (some ⟨b, 0, none⟩)] w fun e w' => e = .returned (.bool true) ∧ Below w.heap.size w w' := by
  go_enter Try.func62, Try.ntmps62
  go_wp2_with fail
  go_ret
  exact ⟨by first | rfl | (simp; done), by (repeat' (first | (with_reducible exact Below.refl _ _) | (with_reducible assumption) | (with_reducible refine Below.alloc ?_ ?_ _) | (with_reducible refine Below.drew ?_) | (with_reducible refine Below_drewN ?_ _) | (with_reducible refine Below.setCell ?_ ?_ _) | (refine Below.step (B' := ?_) (b := ?_) ?_ ?_ ?_; rotate_left 2; (with_reducible assumption)) | go_size))⟩
theorem fnd1_no (ai ap aq z : Int) (b : Nat) (hne : ai ≠ z) (w : World) (h : w.cell? ⟨b, 0, none⟩ = some (.int .i64 z)) (hb : b < w.heap.size) :
    Calls Try.prog 62 #[.agg #[.int .i64 ai, .int .u64 ap, .int .u64 aq], .pointer (some ⟨b, 0, none⟩)] w fun e w' => e = .returned (.bool false) ∧ Below w.heap.size w w' := by
  have hne' : (ai == z) = false := by rw [beq_eq_false_iff_ne]; exact hne
  clear hne
  go_enter Try.func62, Try.ntmps62
  go_wp2_with fail
  go_ret
  exact ⟨by first | rfl | (simp; done), by (repeat' (first | (with_reducible exact Below.refl _ _) | (with_reducible assumption) | (with_reducible refine Below.alloc ?_ ?_ _) | (with_reducible refine Below.drew ?_) | (with_reducible refine Below_drewN ?_ _) | (with_reducible refine Below.setCell ?_ ?_ _) | (refine Below.step (B' := ?_) (b := ?_) ?_ ?_ ?_; rotate_left 2; (with_reducible assumption)) | go_size))⟩
set_option maxRecDepth 100000 in
set_option maxHeartbeats 2000000 in
theorem idxI_c (A : Option Addr) (n c : Nat) (l : List It) (z : Int) (bz : Nat) (hn : n ≤ 100000) (w : World) (h : Sees w 3 A n (flat encI l)) (hz : w.cell? ⟨bz, 0, none⟩ = some (.int .i64 z)) :
    Calls Try.prog 61 #[.slice A n c, .func (.func 62) #[] #[.pointer (some ⟨bz, 0, none⟩)]] w fun e w' => e = .returned (.int .i64 (fndI l z)) ∧ Below w.heap.size w w' := by
  have hl := h.elen encI_len (by omega)
  have HL := Lib.hid hl
  have HZ := Lib.hid hz
  have HH := Lib.hid h
  clear h hl hz
  go_enter Try.func61, Try.ntmps61
  go_wp2_with fail
  go_loopw [5, 8] (fun _ i wr => ∃ k : Nat, k ≤ n ∧ i = .int .i64 k ∧ Hid (nofI l z k) ∧ Below w.heap.size w wr) (fun _ i _ => n - (intOf i).toNat)
  case atStart => exact ⟨0, by omega, rfl, Lib.hid (fun j hj => by omega), Below.refl _ _⟩
  case round =>
    obtain ⟨k, hk, rfl, HK, hb⟩ := hrel
    have HB := Lib.hid hb
    clear hb
    by_cases hlt : k < n
    · have hs := HH.out.below HB.out
      obtain ⟨b, off, rfl, _⟩ := Rows.some hs (by omega)
      obtain ⟨c0, c1, c2, hbl⟩ := hs.item hlt
      have hlt' : (k : Int) < (n : Int) := by omega
      have hbz := World.block_lt_of_cell? w _ HZ.out
      have hzw : wr.cell? ⟨bz, 0, none⟩ = some (.int .i64 z) := (HB.out.cell (p := ⟨bz, 0, none⟩) hbz).trans HZ.out
      have hbzw : bz < wr.heap.size := Nat.lt_of_lt_of_le hbz HB.out.size
      clear hs
      by_cases ho : (atI l k).1 = z
      · have HE := Lib.hid (fndI_at (by rw [HL.out]; exact hlt) HK.out ho)
        rw [ho] at c0
        have W := fun W h hb => fnd1_yes z (atI l k).2.1 (atI l k).2.2 bz W h hb
        clear ho
        generalize (atI l k).2.1 = y1 at *
        generalize (atI l k).2.2 = y2 at *
        go_wp2_with fail
        with_reducible refine (W _ hzw hbzw).mono ?_
        rintro e w1 ⟨rfl, hb1⟩
        go_wp2_with fail
        go_ret
        exact ⟨ret_i HE.out.symm, chain HB.out hb1⟩
      · have HE : Hid (nofI l z (k + 1)) := Lib.hid (fun j hj => by
          by_cases e : j = k
          · rw [e]; exact ho
          · exact HK.out j (by omega))
        have W := fun W h hb => fnd1_no (atI l k).1 (atI l k).2.1 (atI l k).2.2 z bz ho W h hb
        clear ho
        generalize (atI l k).1 = y0 at *
        generalize (atI l k).2.1 = y1 at *
        generalize (atI l k).2.2 = y2 at *
        go_wp2_with fail
        with_reducible refine (W _ hzw hbzw).mono ?_
        rintro e w1 ⟨rfl, hb1⟩
        go_wp2_with fail
        go_roundw
        case rel => exact ⟨k + 1, by omega, by go_num, HE, chain HB.out hb1⟩
        case measure => first | (simp [intOf]; done) | (simp [intOf]; omega)
    · have hke : k = n := by omega
      subst hke
      have HE := Lib.hid (fndI_none (l := l) (z := z) (by rw [HL.out]; exact HK.out))
      go_wp2_with fail
      go_ret
      exact ⟨ret_i HE.out.symm, HB.out⟩
set_option maxRecDepth 100000 in
set_option maxHeartbeats 2000000 in
theorem find_c (v : Value) (n : Nat) (l : List It) (z : Int) (w : World) (h : Rows encI 3 w v n l) :
    Calls Try.prog 47 #[v, .int .i64 z] w fun e w' => e = .returned (.int .i64 (fndI l z)) ∧ Below w.heap.size w w' := by
  obtain ⟨A, c, rfl, hc, hn, hl, hs⟩ := h
  have C1 := idxI_c A n c l z w.heap.size hn (w.alloc (.cells #[.int .i64 z] 3)) (hs.alloc _) (by go_simp)
  clear hs
  go_enter Try.func47, Try.ntmps47
  go_wp2_with fail
  refine C1.mono ?_
  rintro e w1 ⟨rfl, hb1⟩
  go_wp2_with fail
  go_ret
  exact ⟨rfl, by (repeat' (first | (with_reducible exact Below.refl _ _) | (with_reducible assumption) | (with_reducible refine Below.alloc ?_ ?_ _) | (with_reducible refine Below.drew ?_) | (with_reducible refine Below_drewN ?_ _) | (with_reducible refine Below.setCell ?_ ?_ _) | (refine Below.step (B' := ?_) (b := ?_) ?_ ?_ ?_; rotate_left 2; (with_reducible assumption)) | go_size))⟩
end Go.Proofs.Try
