/- list.without (stage 15). -/
import Derived.Test.YtgkiijpheigpjaaLp
import Derived.Test.YtgkiijpheigpjaaShelf
import Derived.Sort.Grow
namespace Go.Proofs.Try
open Go.RowKit Go.Sort
set_option linter.unusedVariables false
set_option linter.unusedSimpArgs false
/-- All but that number. -/
def woZ (l : List Int) (id : Int) : List Int := l.filter fun x => !(x == id)
theorem woZ_len (l : List Int) (id : Int) : (woZ l id).length ≤ l.length := List.length_filter_le _ _
theorem own_lenZ {w : World} {base : Nat} {e : TypeId} {v : Value} {n : Nat} {l : List Int} (h : w.ownsRow base e 1 v n (flat encZ l)) : l.length = n := by
  have := h.1
  rw [flat_len encZ_len] at this
  omega
theorem own_holdsZ {w : World} {base : Nat} {e : TypeId} {g n c : Nat} {l : List Int} (h : w.ownsRow base e 1 (.slice (some ⟨g, 0, none⟩) n c) n (flat encZ l)) : Holds (Value.int .i64) w g 0 l.toArray := by
  have hl := own_lenZ h
  intro j hj
  have hj' : j < l.length := by simpa using hj
  obtain ⟨A, c', he, _, hs⟩ := Sees.of_own h
  simp only [Value.slice.injEq] at he
  obtain ⟨rfl, _⟩ := he
  have hc := hs.elZ hj'
  have ha : l.toArray[j]! = atZ l j := by
    unfold atZ
    rw [getElem!_pos l.toArray j hj, List.getD_eq_getElem?_getD, List.getElem?_eq_getElem hj']
    simp
  rw [ha]
  refine ⟨hc, ?_⟩
  rcases h.2 with ⟨h', _⟩ | ⟨g', cap', cur, h', hb, hg, _⟩
  · simp at h'
  · simp only [Value.slice.injEq, Option.some.injEq, Addr.mk.injEq, and_true, true_and] at h'
    obtain ⟨rfl, rfl⟩ := h'
    unfold World.frozen?
    simp only
    rw [hg]
    simp
set_option maxRecDepth 100000 in
set_option maxHeartbeats 2000000 in
theorem gives_wo (id x : Int) (B : Nat) (W : World) (hc : W.cell? ⟨B, 0, none⟩ = some (.int .i64 id)) :
    FnGives Try.prog 71 #[.pointer (some ⟨B, 0, none⟩)] #[.int .i64 x] (.bool (x == id)) W := by
  show Calls Try.prog 71 #[.int .i64 x, .pointer (some ⟨B, 0, none⟩)] W _
  go_enter Try.func71, Try.ntmps71
  go_wp2_with fail
  all_goals (go_ret; exact ⟨by first | rfl | simp_all, 0, rfl⟩)
theorem pred_wo (id : Int) (B : Nat) (w : World) (hB : B < w.heap.size) (hcell : w.cell? ⟨B, 0, none⟩ = some (.int .i64 id)) :
    PredAt Try.prog 71 #[.pointer (some ⟨B, 0, none⟩)] (Value.int .i64) (fun x => x == id) w :=
  fun W x hb => gives_wo id x B W ((hb.cell (p := ⟨B, 0, none⟩) hB).trans hcell)
theorem over_wo (id : Int) (B blk off size : Nat) (w : World) (hB : B < w.heap.size) (hne : B ≠ blk) (hcell : w.cell? ⟨B, 0, none⟩ = some (.int .i64 id)) :
    PredOver Try.prog 71 #[.pointer (some ⟨B, 0, none⟩)] (Value.int .i64) (fun x => x == id) blk off size w :=
  fun n os dk x _ => gives_wo id x B _ (by
    unfold sortWorld
    rw [cell?_grow _ _ _ (by show B < (putRow _ _ _ _ _).heap.size; rw [size_putRow]; exact hB), cell?_putRow_other _ _ blk off _ _ (Or.inl hne)]
    exact hcell)
set_option maxRecDepth 100000 in
set_option maxHeartbeats 2000000 in
theorem del_none (fv : Value) (w : World) : Calls Try.prog 70 #[.slice none 0 0, fv] w fun e w' => e = .returned (.slice none 0 0) ∧ Below w.heap.size w w' := by
  have hx := fun (W : World) => Try.slices_IndexFunc_empty (α := Int) none 0 fv W
  go_enter Try.func70, Try.ntmps70
  go_wp2_with (go_at_call 85; refine (hx _).mono ?_; rintro e w5 ⟨rfl, rfl⟩)
  go_ret
  exact ⟨rfl, by (repeat' (first | (with_reducible exact Below.refl _ _) | (with_reducible assumption) | (with_reducible refine Below.alloc ?_ ?_ _) | (with_reducible refine Below.drew ?_) | (with_reducible refine Below_drewN ?_ _) | (with_reducible refine Below.setCell ?_ ?_ _) | (refine Below.step (B' := ?_) (b := ?_) ?_ ?_ ?_; rotate_left 2; (with_reducible assumption)) | go_size))⟩
theorem cap_own {w : World} {base : Nat} {e : TypeId} {size n : Nat} {v : Value} {xs : List Value} (h : w.ownsRow base e size v n xs) : (v = .slice none 0 0 ∧ n = 0) ∨ ∃ g c, v = .slice (some ⟨g, 0, none⟩) n c ∧ n ≤ c ∧ base ≤ g ∧ g < w.heap.size := by
  rcases h.2 with ⟨h1, h2⟩ | ⟨g, cap, cur, h1, hb, hg, hn, _⟩
  · exact .inl ⟨h1, h2⟩
  · exact .inr ⟨g, cap, h1, hn, hb, (Array.getElem?_eq_some_iff.1 hg).1⟩
theorem below_putRow {B : Nat} {α : Type} [Inhabited α] {enc : α → Value} {w W : World} {g off q : Nat} {d : Array α} (h : Below B w W) (hg : B ≤ g) : Below B w (putRow enc (Sort.ahead W q) g off d) :=
  ⟨h.os, h.tape, h.output, by rw [size_putRow]; exact h.size, fun k hk => by
    have hne : g ≠ k := by omega
    have := h.block k hk
    simpa [putRow, mapBlock, Sort.ahead, Array.getElem?_modify, hne] using this⟩
set_option maxRecDepth 100000 in
set_option maxHeartbeats 4000000 in
theorem without_c (base n : Nat) (v : Value) (l : List Int) (id : Int) (hn : n ≤ 1000) (w : World) (h : w.ownsRow base 3 1 v n (flat encZ l)) (hbase : base ≤ w.heap.size) :
    Calls Try.prog 58 #[v, .int .i64 id] w fun e w' => (∃ v', e = .returned v' ∧ Rows encZ 1 w' v' (woZ l id).length (woZ l id)) ∧ w.grownBy w' v.ownBlock := by
  have hmf : ∀ (fn : Fn) (first cap : Array Value) (w : World), (Instr.makeFunc fn first cap).run Try.prog w = .ok (.func fn first cap) w := fun _ _ _ _ => rfl
  have hl := own_lenZ h
  have hwl := woZ_len l id
  rcases cap_own h with ⟨rfl, rfl⟩ | ⟨g, c, rfl, hnc, hbg, hgs⟩
  · obtain rfl : l = [] := List.eq_nil_of_length_eq_zero hl
    have DN := fun fv W => del_none fv W
    clear h hl hwl hn
    go_enter Try.func58, Try.ntmps58
    go_wp2_with (go_at_call 70; refine (DN _ _).mono ?_; rintro e w5 ⟨rfl, hb5⟩)
    go_ret
    exact ⟨⟨_, rfl, Rows.nil _ _ _⟩, grown_below (((Below.refl _ _).alloc (Nat.le_refl _) _).trans (hb5.mono (by simp)))⟩
  · have hH := own_holdsZ h
    have hsz : l.toArray.size = n := by simpa using hl
    have eg : ∀ args w, (callFunc 71 args).run Try.prog w = .ok (.enter 71 args) w := enters_of Try.func71 (by kernel_rfl) rfl
    have hH' : Holds (Value.int .i64) (w.alloc (.cells #[.int .i64 id] 3)) g 0 l.toArray := fun j hj => ⟨Lib.cell?_alloc_some _ (hH j hj).1, by rw [World.frozen?_alloc_old _ _ _ (by show g ≠ w.heap.size; omega)]; exact (hH j hj).2⟩
    have hcon := Try.slices_DeleteFunc (Value.int .i64) (fun _ => rfl) (fun x => x == id) 71 #[.pointer (some ⟨w.heap.size, 0, none⟩)] eg 0 Try.zeroValue3 g 0 c l.toArray (w.alloc (.cells #[.int .i64 id] 3))
      (pred_wo id w.heap.size _ (by simp) (by simp)) (over_wo id w.heap.size g 0 l.toArray.size _ (by simp) (by omega) (by simp)) hH' (by rw [hsz]; omega) (by rw [hsz]; exact hnc)
    rw [hsz] at hcon
    have hwd : (l.toArray.toList.filter fun x => !(x == id)) = woZ l id := rfl
    rw [hwd] at hcon
    have HC := Lib.hid hcon
    have HK := Lib.hid hH'
    clear h hH hH' hcon hsz eg
    have HH : Hid (∀ q, Rows encZ 1 (putRow (Value.int .i64) (Sort.ahead (w.alloc (.cells #[.int .i64 id] 3)) q) g 0 (woZ l id ++ List.replicate (n - (woZ l id).length) 0).toArray) (.slice (some ⟨g, 0, none⟩) (woZ l id).length c) (woZ l id).length (woZ l id)) := Lib.hid (fun q => by
      have hK := holds_putRow (Value.int .i64) (Sort.ahead (w.alloc (.cells #[.int .i64 id] 3)) q) g 0 l.toArray (woZ l id ++ List.replicate (n - (woZ l id).length) 0).toArray (holds_ahead _ _ q _ _ _ HK.out) (by simp; omega)
      refine ⟨some ⟨g, 0, none⟩, c, rfl, cap_some (by omega), by omega, rfl, by rw [flat_len encZ_len], .inr ⟨g, 0, rfl, by rw [size_putRow]; show g < (w.alloc _).heap.size; simp; omega, fun j hj => ?_⟩⟩
      rw [flat_len encZ_len, Nat.mul_one] at hj
      rw [(hK j (by simp; omega)).1, flat_encZ, List.getElem?_map, List.getElem?_eq_getElem hj]
      have hd : ∀ (a : Array Int) (hj : j < a.size), a[j]! = a[j] := fun a hj => getElem!_pos a j hj
      rw [hd _ (by simp; omega)]
      simp [List.getElem_append_left hj])
    go_enter Try.func58, Try.ntmps58
    go_wp2_with (go_at_call 70; refine HC.out.mono ?_; rintro e w5 ⟨rfl, q, rfl⟩)
    go_ret
    refine ⟨⟨_, rfl, HH.out q⟩, rfl, rfl, rfl, by rw [size_putRow]; show w.heap.size ≤ (w.alloc _).heap.size; simp, fun k hk hne => ?_⟩
    have hgk : g ≠ k := fun e => hne (by rw [e]; rfl)
    have := ((Below.refl w.heap.size w).alloc (Nat.le_refl _) (.cells #[.int .i64 id] 3)).block k hk
    simpa [putRow, mapBlock, Sort.ahead, Array.getElem?_modify, hgk] using this
end Go.Proofs.Try
