/- tune.copied, Note's literal, the search (stage 21). -/
import Derived.Test.YtjcclobnpbgmcaaDoorUh
import Derived.Test.YtjcclobnpbgmcaaDoorShelf
import Derived.Sort.Walk0
namespace Go.Proofs.Tryd
open Go.RowKit Go.Sort
set_option linter.unusedVariables false
set_option linter.unusedSimpArgs false
def noSn (n : Nat) : List Sn := List.replicate n (⟨#[]⟩, 0, 0)
theorem made_sn (n : Nat) : (madeCells #[Value.string ⟨#[]⟩, Value.int .i64 0, Value.int .i64 0] (n * 3)).toList = flat encN (noSn n) := by
  apply List.ext_getElem?
  intro i
  unfold madeCells
  by_cases hi : i < n * 3
  · have hx : (noSn n)[i / 3]? = some (⟨#[]⟩, 0, 0) := by unfold noSn; rw [List.getElem?_replicate, if_pos (by omega)]
    have hf := flat_get encN_len hx (i := i % 3) (by omega)
    rw [show i / 3 * 3 + i % 3 = i by omega] at hf
    rw [hf]
    have : i % 3 = 0 ∨ i % 3 = 1 ∨ i % 3 = 2 := by omega
    rcases this with h | h | h <;> simp [h, hi, encN]
  · rw [List.getElem?_eq_none (by simp; omega), List.getElem?_eq_none (by rw [flat_len encN_len]; unfold noSn; simp; omega)]
theorem make_sn (n : Nat) (h : n ≤ 1000000) (W : World) : (Instr.makeSlice 22 (.int .i64 (n : Int)) (.int .i64 (n : Int))).run Tryd.prog W = .ok (.slice (some ⟨W.heap.size, 0, none⟩) n n) (W.alloc (.cells (flat encN (noSn n)).toArray 25)) := by
  obtain ⟨i0, hi, hz0, hz1, hz2⟩ := infoU_parts seenInfo
  have hmk := run_make (P := Tryd.prog) W 22 25 i0 _ Tryd.underlying22 hi hz0 .i64 .i64 n n (by omega) (by omega) (by rw [hz2]; omega) (by omega)
  rw [← made_sn]
  rw [hz1] at hmk
  simpa [Value.cells] using hmk
theorem own_sn {base : Nat} (w : World) (hw : base ≤ w.heap.size) (m : Nat) (hm : m ≤ 100000) : (w.alloc (.cells (flat encN (noSn m)).toArray 25)).ownsRow base 25 3 (.slice (some ⟨w.heap.size, 0, none⟩) m m) m (flat encN (noSn m)) :=
  ⟨by rw [flat_len encN_len]; simp [noSn], .inr ⟨w.heap.size, m, _, rfl, hw, heap_alloc_new w _, Nat.le_refl _, by unfold maxLen; omega, by rw [List.size_toArray, flat_len encN_len]; simp [noSn], by
    rw [List.take_of_length_le (by simp [flat_len encN_len, noSn])]⟩⟩
/-- A whole row is filled. -/
theorem run_copy_fullN {P : Program} {w : World} (dT sT ty : TypeId) (elem : TypeId) (k : Nat) (hu : P.underlying dT = some (.slice elem)) (hsz : (P.info? elem).map (·.size) = some k)
    (n g dCap sCap base : Nat) (e : TypeId) (ad : Addr) (xs cs : List Value) (hown : w.ownsRow base e k (.slice (some ⟨g, 0, none⟩) n dCap) n xs) (hn : cs.length = n * k)
    (hsrc : ∀ j v, cs[j]? = some v → w.cell? (ad.add j) = some v) (h1 : ∀ v ∈ cs, v.oneCell' = true) :
    ∃ w', (Builtin.copy_ #[dT, sT] ty #[.slice (some ⟨g, 0, none⟩) n dCap, .slice (some ad) n sCap]).run P w = .ok (goInt n) w' ∧ w'.ownsRow base e k (.slice (some ⟨g, 0, none⟩) n dCap) n cs ∧ w.grownBy w' (some g) := by
  rcases hown.2 with ⟨h', _⟩ | ⟨g', cap', cur, h', hb, hg, hnc, hcm, hcs, ht⟩
  · simp at h'
  · simp only [Value.slice.injEq, Option.some.injEq, Addr.mk.injEq, and_true, true_and] at h'
    obtain ⟨rfl, rfl⟩ := h'
    have hle : n * k ≤ cur.size := by rw [hcs]; exact Nat.mul_le_mul_right k hnc
    have hrun := run_copy_k (P := P) w dT sT ty elem k g 0 n dCap ad n sCap cur e cs hu hsz hg (by rw [hn]; show n * k = min n n * k; rw [Nat.min_self]) hsrc (by omega) h1
    rw [show Nat.min n n = n from Nat.min_self n] at hrun
    refine ⟨_, hrun, ⟨hn, .inr ⟨g, dCap, _, rfl, hb, setRow_heap w g cur _ e _ hg, hnc, hcm, ?_, ?_⟩⟩, ⟨rfl, rfl, rfl, by simp [World.setRow], fun j hj hne => setRow_other w g j _ (fun e => hne (by rw [e]))⟩⟩
    · simp
      omega
    · simp [← hn]
theorem run_copy_zero {P : Program} (w : World) (dT sT ty elem : TypeId) (k g o dCap : Nat) (A : Option Addr) (sCap : Nat) (hu : P.underlying dT = some (.slice elem)) (hs : (P.info? elem).map (·.size) = some k) :
    (Builtin.copy_ #[dT, sT] ty #[.slice (some ⟨g, o, none⟩) 0 dCap, .slice A 0 sCap]).run P w = .ok (goInt 0) w := by
  cases hq : P.info? elem with
  | none => simp [hq] at hs
  | some i =>
    have hi : i.size = k := by simpa [hq] using hs
    cases A <;> simp [Builtin.copy_, run_underlying hu, Builtin.lenOf, Builtin.firstCells, sizeOf, typeInfo, hq, hi, loadCells, loadCellsFrom, storeCells]
set_option maxRecDepth 100000 in
set_option maxHeartbeats 4000000 in
theorem copied_c (v : Value) (n : Nat) (l : List Sn) (w : World) (h : Rows encN 3 w v n l) :
    Calls Tryd.prog 29 #[v] w fun e w' => e = .returned (.slice (some ⟨w.heap.size, 0, none⟩) n n) ∧ w'.ownsRow w.heap.size 25 3 (.slice (some ⟨w.heap.size, 0, none⟩) n n) n (flat encN l) ∧ Below w.heap.size w w' := by
  obtain ⟨A, c, rfl, hc, hn, hl, hs⟩ := h
  have hm : (Instr.makeSlice 22 (.int .i64 (n : Int)) (.int .i64 (n : Int))).run Tryd.prog w = .ok (.slice (some ⟨w.heap.size, 0, none⟩) n n) (w.alloc (.cells (flat encN (noSn n)).toArray 25)) := make_sn n (by omega) w
  have HO := Lib.hid (own_sn (base := w.heap.size) w (Nat.le_refl _) n hn)
  have HB := Lib.hid ((Below.refl w.heap.size w).alloc (Nat.le_refl _) (.cells (flat encN (noSn n)).toArray 25))
  by_cases h0 : n = 0
  · subst h0
    obtain rfl : l = [] := List.eq_nil_of_length_eq_zero hl
    have hcp := run_copy_zero (P := Tryd.prog) (w.alloc (.cells (flat encN (noSn 0)).toArray 25)) 22 22 3 25 3 w.heap.size 0 0 A c Tryd.underlying22 seen_size
    have hm0 : (Instr.makeSlice 22 (.int .i64 0) (.int .i64 0)).run Tryd.prog w = .ok (.slice (some ⟨w.heap.size, 0, none⟩) 0 0) (w.alloc (.cells (flat encN (noSn 0)).toArray 25)) := hm
    generalize w.alloc (.cells (flat encN (noSn 0)).toArray 25) = V at *
    clear hm
    go_enter Tryd.func29, Tryd.ntmps29
    go_wp2_with fail
    go_ret
    exact ⟨rfl, HO.out, HB.out⟩
  · have HS := Lib.hid (hs.alloc (.cells (flat encN (noSn n)).toArray 25))
    obtain ⟨b, off, rfl, _⟩ := Rows.some hs h0
    have hsr : Hid (∀ j v, (flat encN l)[j]? = some v → (w.alloc (.cells (flat encN (noSn n)).toArray 25)).cell? ((⟨b, off, none⟩ : Addr).add j) = some v) := Lib.hid (fun j v hv => sees_add HS.out h0 hv)
    obtain ⟨w2, hcp, hown2, hg2⟩ := run_copy_fullN (P := Tryd.prog) 22 22 3 25 3 Tryd.underlying22 seen_size n w.heap.size n c w.heap.size 25 ⟨b, off, none⟩ _ (flat encN l) HO.out (by rw [flat_len encN_len, hl]) hsr.out (flat_one encN_one l)
    have HO2 := Lib.hid hown2
    have HB2 := Lib.hid (HB.out.grown hg2 (by simp) (fun k hk => by injection hk with hk; omega))
    clear hs hown2 hg2 h0
    go_enter Tryd.func29, Tryd.ntmps29
    go_wp2_with fail
    go_ret
    exact ⟨rfl, HO2.out, HB2.out⟩
/-- How a key stands to another. -/
def cmpK (a b : ByteArray) : Int := Lib.compareBytes a.data.toList b.data.toList
set_option maxRecDepth 100000 in
set_option maxHeartbeats 4000000 in
theorem note1_c (s k : ByteArray) (x y : Int) (w : World) : Calls Tryd.prog 31 #[.agg #[.string s, .int .i64 x, .int .i64 y], .string k] w fun e w' => e = .returned (.int .i64 (cmpK s k)) ∧ Below w.heap.size w w' := by
  have CC := fun W => Tryd.strings_Compare s k W
  rw [show Lib.compareBytes s.data.toList k.data.toList = cmpK s k from rfl] at CC
  generalize cmpK s k = C at *
  go_enter Tryd.func31, Tryd.ntmps31
  go_wp2_with (go_at_call 32; refine (CC _).mono ?_; rintro e w1 ⟨rfl, rfl⟩)
  go_ret
  exact ⟨rfl, by (repeat' (first | (with_reducible exact Below.refl _ _) | (with_reducible assumption) | (with_reducible refine Below.alloc ?_ ?_ _) | (with_reducible refine Below.drew ?_) | (with_reducible refine Below_drewN ?_ _) | (with_reducible refine Below.setCell ?_ ?_ _) | (refine Below.step (B' := ?_) (b := ?_) ?_ ?_ ?_; rotate_left 2; (with_reducible assumption)) | go_size))⟩
end Go.Proofs.Tryd
