/- The contract of thing.Tags: the walk. -/
import Derived.Test.YthijffdljoeelaaThing5
import Derived.Test.YthijffdljoeelaaShelf
import Derived.Test.YthijffdljoeelaaTape6
import Derived.Maps.OwnSet
import Derived.Maps.RangeWalk
import Derived.Sort.OwnSorted
namespace Go.Proofs.Try
open Go.RowKit Go.Maps Go.Sort
set_option linter.unusedVariables false

theorem str_info : (Try.prog.info? 9).map (fun i => (i.zero, i.size, i.bytes)) = some (some (.string ⟨#[]⟩), 1, 16) := by kernel_rfl
def bytesOf (s : ByteArray) : List UInt8 := s.data.toList
theorem enc_eq (s : ByteArray) : Value.string s = encStr (bytesOf s) := by cases s; simp [encStr, bytesOf]
/-- The tags of a list: each once, rising. -/
def tagsL (ss : List ByteArray) : List (List UInt8) := ((dd ss).map bytesOf).mergeSort leB
def good (ss : List ByteArray) : Prop := (∀ s ∈ ss, 1 ≤ s.size ∧ s.size ≤ 8) ∧ (dd ss).length ≤ 3
def TagsR (ss : List ByteArray) (w : World) (r : Ending) (w' : World) : Prop :=
  Below w.heap.size w w' ∧ (good ss → ∃ A k c, r = .returned (.tuple #[.slice A k c, .int .i64 0]) ∧ (tagsL ss).length = k ∧ CapOk A k c ∧ Sees w' 1 A k ((tagsL ss).map encStr)) ∧ (¬ good ss → r = .returned (.tuple #[.slice none 0 0, .int .i64 90]))
theorem map_keep {P : Program} {k : TypeId} {R : Value → Option (DataW Unit × List MemPlace)} {w w' : World} {b n : Nat} {D : DataW Unit} (h : w.ownsMap P k R b n D) (hk : w'.heap[b]? = w.heap[b]?) : w'.ownsMap P k R b n D := by
  obtain ⟨es, clock, hb, rest⟩ := h
  exact ⟨es, clock, hk.trans hb, rest⟩
theorem ranges_keep {P : Program} {k : TypeId} {R : Value → Option (DataW Unit × List MemPlace)} {w w' : World} {b r n : Nat} {D : DataW Unit} {left : Lit → Bool} {cnt : Nat} (h : w.ranges P k R b r n D left cnt) (hk : w'.heap[b]? = w.heap[b]?) (hr : w'.heap[r]? = w.heap[r]?) : w'.ranges P k R b r n D left cnt := by
  obtain ⟨es, clock, since, seen, c0, hb, F, hs, hD, hi, rest⟩ := h
  exact ⟨es, clock, since, seen, c0, hk.trans hb, F, hs, hD, hr.trans hi, rest⟩
theorem of_zero (s : ByteArray) (h : s.size = 0 ∨ 8 < s.size) (hs : s.size ≤ 4611686018427387904) (w : World) :
    Calls Try.prog 38 #[.string s] w fun r w' => r = .returned (mkT fun _ => 0) ∧ Below w.heap.size w w' := by
  rcases h with h | h
  · have e : mkT (tf s) = mkT fun _ => 0 := by
      have hl : s.data.toList = [] := List.eq_nil_of_length_eq_zero (by rw [← Lib.size_eq]; exact h)
      simp [mkT, tf, bt, hl, h]
    rw [← e]
    exact of_short s (by omega) w
  · exact of_long s h hs w
theorem eq_zero (W : World) : (binOp .eql 64 (mkT fun _ => 0) (mkT fun _ => 0)).run Try.prog W = .ok (.bool true) W := by
  rw [eqT]; rfl
theorem eq_tag (s : ByteArray) (h1 : 1 ≤ s.size) (W : World) : (binOp .eql 64 (mkT (tf s)) (mkT fun _ => 0)).run Try.prog W = .ok (.bool false) W := by
  rw [eqT]
  have : (tf s 8 == 0) = false := by
    have e : tf s 8 = (s.size : Int) := rfl
    rw [e]
    rw [beq_eq_false_iff_ne]; omega
  rw [this]
  simp
theorem Sees.text {w : World} {n : Nat} {xs : List ByteArray} {b off : Nat} (h : Sees w 1 (some ⟨b, off, none⟩) n (xs.map Value.string)) {j : Nat} (hj : j < n) : w.cell? ⟨b, off + j, none⟩ = some (.string (xs.getD j ⟨#[]⟩)) := by
  obtain ⟨u, hu, hc⟩ := h.cell (j := j) (by omega)
  rw [List.getElem?_map] at hu
  rw [hc, List.getD_eq_getElem?_getD]
  cases hx : xs[j]? with
  | none => rw [hx] at hu; cases hu
  | some x => rw [hx] at hu; simp at hu; simp [hu]
theorem take_more {α : Type} (ss : List α) (k : Nat) (d : α) (h : k < ss.length) : ss.take (k + 1) = ss.take k ++ [ss.getD k d] := by
  rw [List.take_add_one, List.getElem?_eq_getElem h, List.getD_eq_getElem?_getD, List.getElem?_eq_getElem h]; rfl
theorem getD_mem {α : Type} (ss : List α) (k : Nat) (d : α) (h : k < ss.length) : ss.getD k d ∈ ss := by
  rw [List.getD_eq_getElem?_getD, List.getElem?_eq_getElem h]; exact List.getElem_mem h

set_option maxRecDepth 100000 in
set_option maxHeartbeats 1000000 in
theorem tags_c (A : Option Addr) (n c : Nat) (ss : List ByteArray) (w : World) (h : Sees w 1 A n (ss.map Value.string)) (hn : n ≤ 1000000) (hsz : ∀ s ∈ ss, s.size ≤ 4611686018427387904) :
    Calls Try.prog 27 #[.slice A n c] w (TagsR ss w) := by
  obtain ⟨i0, hy, hy0, hy1, hy2⟩ := info_parts str_info
  have hlen : ss.length = n := by have := h.1; simpa using this
  have hmm := @run_makeMap Try.prog
  have hgd : Try.prog.eqGuardType Try.prog.depth 64 = false := by kernel_rfl
  have HS := Lib.hid h
  have HSZ := Lib.hid hsz
  clear h hsz
  go_enter Try.func27, Try.ntmps27
  go_wp2_with fail
  go_loopw [13] (fun x wr => ∃ k : Nat, k ≤ n ∧ x = .int .i64 k ∧ (∀ s ∈ ss.take k, 1 ≤ s.size ∧ s.size ≤ 8) ∧ wr.ownsMap Try.prog 64 (plainElem Try.prog 4) w.heap.size k (tagD (ss.take k)) ∧ w.heap.size < wr.heap.size ∧ Below w.heap.size w wr) (fun x _ => n - (intOf x).toNat)
  case atStart => exact ⟨0, by omega, rfl, by simp, World.ownsMap_made _ _ _ _, by simp, by (repeat' (first | (with_reducible exact Below.refl _ _) | (with_reducible assumption) | (with_reducible refine Below.alloc ?_ ?_ _) | (with_reducible refine Below.drew ?_) | (with_reducible refine Below_drewN ?_ _) | (with_reducible refine Below.setCell ?_ ?_ _) | (refine Below.step (B' := ?_) (b := ?_) ?_ ?_ ?_; rotate_left 2; (with_reducible assumption)) | go_size))⟩
  case round =>
    obtain ⟨k, hk, rfl, hgood, hown, hz, hb⟩ := hrel
    have HG := Lib.hid hgood
    have HO := Lib.hid hown
    clear hgood hown
    by_cases hlt : k < n
    · have hse := HS.out.below hb
      obtain ⟨b, off, rfl, hbz, hxx⟩ := hse.2.resolve_left (by omega)
      have hcell := hse.text hlt
      have hmem := getD_mem ss k ⟨#[]⟩ (by omega)
      have htk := take_more ss k ⟨#[]⟩ (by omega)
      obtain ⟨s, hs⟩ : ∃ s, ss.getD k ⟨#[]⟩ = s := ⟨_, rfl⟩
      rw [hs] at hcell hmem htk
      have HTK := Lib.hid htk
      clear hse hs htk hxx
      have hss := HSZ.out s hmem
      by_cases hgs : 1 ≤ s.size ∧ s.size ≤ 8
      · obtain ⟨g1, g2⟩ := hgs
        have HF := of_short s g2
        have hq := eq_tag s g1
        have HK := Lib.hid (sKey s g2)
        unfold mkT at HF hq HK
        go_wp2_with fail
        refine (HF _).mono ?_
        rintro e w1 ⟨rfl, hb1⟩
        have hz1 := hb1.size
        have HO1 := Lib.hid (map_keep HO.out (hb1.block _ hz))
        have hzz : w.heap.size < w1.heap.size := by omega
        have HO2 := Lib.hid (map_keep HO1.out (w' := w1.alloc (.cells #[.int .u8 (tf s 0), .int .u8 (tf s 1), .int .u8 (tf s 2), .int .u8 (tf s 3), .int .u8 (tf s 4), .int .u8 (tf s 5), .int .u8 (tf s 6), .int .u8 (tf s 7), .int .u8 (tf s 8)] 64)) (Below.heap_alloc _ _ _ hzz))
        go_wp2_with (at_mapUpdate; refine wpList_mapUpdate_own _ rfl _ _ _ 62 rfl 64 4 tagLaw Try.underlying62 _ w.heap.size k _ rfl HO2.out (by unfold maxLen; omega) _ _ _ rfl rfl HK.out _ [] (plainElem_bool Try.underlying4 true) ?_; intro w2 hown2 hgrow2)
        have HO3 := Lib.hid hown2
        clear hown2
        have hz2 := hgrow2.size
        simp only [World.size_alloc] at hz2
        have hB1 : Below w.heap.size w (w1.alloc (.cells #[.int .u8 (tf s 0), .int .u8 (tf s 1), .int .u8 (tf s 2), .int .u8 (tf s 3), .int .u8 (tf s 4), .int .u8 (tf s 5), .int .u8 (tf s 6), .int .u8 (tf s 7), .int .u8 (tf s 8)] 64)) := by (repeat' (first | (with_reducible exact Below.refl _ _) | (with_reducible assumption) | (with_reducible refine Below.alloc ?_ ?_ _) | (with_reducible refine Below.drew ?_) | (with_reducible refine Below_drewN ?_ _) | (with_reducible refine Below.setCell ?_ ?_ _) | (refine Below.step (B' := ?_) (b := ?_) ?_ ?_ ?_; rotate_left 2; (with_reducible assumption)) | go_size))
        go_roundw
        case rel =>
          refine ⟨k + 1, by omega, by go_num, ?_, ?_, by omega, hB1.grown hgrow2 hB1.size (fun j hj => by cases hj; exact Nat.le_refl _)⟩
          · intro x hx
            rw [HTK.out] at hx
            rcases List.mem_append.1 hx with hx | hx
            · exact HG.out x hx
            · rw [List.mem_singleton] at hx
              subst hx
              exact ⟨g1, g2⟩
          · rw [HTK.out, tagD_snoc]
            exact HO3.out
        case measure => simp [intOf]; omega
      · have HF := of_zero s (by omega) hss
        have hq := eq_zero
        unfold mkT at HF hq
        go_wp2_with fail
        refine (HF _).mono ?_
        rintro e w1 ⟨rfl, hb1⟩
        have hz1 := hb1.size
        go_wp2_with fail
        go_ret2
        exact ⟨by (repeat' (first | (with_reducible exact Below.refl _ _) | (with_reducible assumption) | (with_reducible refine Below.alloc ?_ ?_ _) | (with_reducible refine Below.drew ?_) | (with_reducible refine Below_drewN ?_ _) | (with_reducible refine Below.setCell ?_ ?_ _) | (refine Below.step (B' := ?_) (b := ?_) ?_ ?_ ?_; rotate_left 2; (with_reducible assumption)) | go_size)), fun hg => absurd (hg.1 s hmem) hgs, fun _ => rfl⟩
    · have hke : n = k := by omega
      have HT := Lib.hid (show ss.take k = ss by rw [← hke, ← hlen, List.take_length])
      have HG2 := Lib.hid (show ∀ s ∈ ss, 1 ≤ s.size ∧ s.size ≤ 8 by have := HG.out; rwa [HT.out] at this)
      have HO2 := Lib.hid (show wr.ownsMap Try.prog 64 (plainElem Try.prog 4) w.heap.size k (tagD ss) by have := HO.out; rwa [HT.out] at this)
      have hsize := tagD_size ss (fun s hs => (HG2.out s hs).2)
      obtain ⟨m, hm⟩ : ∃ m, (dd ss).length = m := ⟨_, rfl⟩
      rw [hm] at hsize
      subst hke
      by_cases h3 : m ≤ 3
      · have e3 : decide (3 < (m : Int)) = false := by simp; omega
        obtain ⟨V, hV⟩ : ∃ V, V = wr := ⟨_, rfl⟩
        subst hV
        have HB := Lib.hid hb
        clear hb
        have hzV := hz
        go_wp2_with (first
          | (at_len; refine wpList_len_own _ rfl _ 62 rfl 64 4 Try.underlying62 _ w.heap.size n _ rfl HO2.out ?_; rw [hsize])
          | (at_range; refine wpList_range_own _ rfl _ 62 rfl 64 4 tagLaw Try.underlying62 _ w.heap.size n _ rfl HO2.out ?_; intro w0 hrg0 hg0 hs0))
        go_frame
        have HR0 := Lib.hid hrg0
        clear hrg0
        have hB0 : Below w.heap.size w w0 := HB.out.grown hg0 HB.out.size (fun j hj => by cases hj)
        have HS0 := Lib.hid hs0
        clear hs0
        go_loopw [8] (fun v W => ∃ (left : Lit → Bool) (cnt : Nat) (os : List ByteArray), W.ranges Try.prog 64 (plainElem Try.prog 4) w.heap.size V.heap.size n (tagD ss) left cnt ∧ os.length + cnt ≤ m ∧
          W.ownsRow (V.heap.size + 1) 9 1 v os.length (os.map Value.string) ∧ Coll ss left os ∧ V.heap.size + 1 ≤ W.heap.size ∧ Below w.heap.size w W) (fun _ W => W.rangeLeft w.heap.size V.heap.size)
        case atStart =>
          exact ⟨_, _, [], HR0.out, by rw [hsize]; simp, World.ownsRow_nil _ _ _ _, Coll.start ss (fun s hs => (HG2.out s hs).2), by have := HS0.out; omega, hB0⟩
        case round =>
          obtain ⟨left, cnt, os, hrg, hcs, hrow, hC, hzz, hnx⟩ := hrel
          have HC := Lib.hid hC
          have HW := Lib.hid hrow
          have HR := Lib.hid hrg
          clear hC hrow hrg
          go_wp2_with (at_next; refine wpList_next_ranges _ rfl _ rfl 64 tagLaw (plainElem Try.prog 4) (fun v : Value => v) (fun v : Value => v) (fun key kl _ => ⟨key, rfl⟩) (fun v y _ => ⟨v, rfl⟩) w.heap.size V.heap.size n _ _ _ rfl HR.out ?_ ?_)
          · intro hc0 hl0
            have hmem := HC.out.all hl0
            have hgood : good ss := ⟨HG2.out, by omega⟩
            have hperm : (os.map bytesOf).Perm ((dd ss).map bytesOf) := ((List.perm_ext_iff_of_nodup HC.out.1 (dd_nodup ss)).2 (fun x => by rw [hmem x, dd_mem])).map _
            have hts : (os.map bytesOf).mergeSort leB = tagsL ss := mergeSort_of_perm hperm
            have HTS := Lib.hid hts
            have hml : os.map Value.string = (os.map bytesOf).map encStr := by
              rw [List.map_map]; exact List.map_congr_left fun x _ => enc_eq x
            have hos : (os.map bytesOf).length = os.length := by simp
            rcases HW.out.2 with ⟨rfl, hnil⟩ | ⟨g, cap, cur, rfl, hbase, hbk, h1, h2, h3, h4⟩
            · have hx0 : os = [] := List.eq_nil_of_length_eq_zero hnil
              subst hx0
              clear hperm hts hml hos
              go_wp2_with (go_at_call 40; refine (Try.slices_Sort_string_none none 0 _).mono ?_; rintro e w' ⟨rfl, rfl⟩)
              go_ret2
              have hT0 : tagsL ss = [] := by rw [← HTS.out]; simp
              refine ⟨hnx, fun _ => ⟨none, 0, 0, rfl, by rw [hT0]; rfl, cap_none, by rw [hT0]; exact Sees.empty _ _ _⟩, fun hg => absurd hgood hg⟩
            · rw [hml] at h4
              have hH : Holds encStr wr g 0 (os.map bytesOf).toArray := holds_of_block hbk (by rw [hos]; simpa using h4)
              have hgl : g < wr.heap.size := (Array.getElem?_eq_some_iff.1 hbk).1
              have hcall := Try.slices_Sort_string g 0 cap (os.map bytesOf) wr hH hgl (by rw [hos]; omega)
              rw [hos] at hcall
              have hown := fun nn os' => ownsRow_sorted (n := nn) (os := os') (ss := os.map bytesOf) (ts := (os.map bytesOf).mergeSort leB) (by simp) hbase hbk (by rw [hos]; exact h1) h2 h3
              have HH := Lib.hid (And.intro h1 (And.intro hbase hown))
              have HOS := Lib.hid hos
              clear hown hbk h1 h2 h3 h4 hH hml hts hperm hos
              go_wp2_with (go_at_call 40; refine hcall.mono ?_; rintro e w' ⟨rfl, nn, os', rfl⟩)
              go_ret2
              obtain ⟨h1, hbase, hown⟩ := HH.out
              obtain ⟨A', c', he, hcc, hsee⟩ := Sees.of_own (hown nn os')
              cases he
              rw [HOS.out] at hsee
              refine ⟨hnx.grown (grownBy_sorted _) hnx.size (fun j hj => by cases hj; omega), fun _ => ⟨_, _, _, rfl, ?_, cap_some h1, by rw [← HTS.out]; exact hsee⟩, fun hg => absurd hgood hg⟩
              rw [← HTS.out]; simp
          · intro x cv kl yd yp w2 cnt2 hkey hlk hv hat hrg2 hlt hg2 hs2 hen
            have hhas := has_true_of_atKey hat
            obtain ⟨s, hsm, rfl⟩ := (tagD_has ss (fun s hs => (HG2.out s hs).2) kl).1 hhas
            obtain ⟨g1, g2⟩ := HG2.out s hsm
            obtain rfl : x = .agg #[.int .u8 (tf s 0), .int .u8 (tf s 1), .int .u8 (tf s 2), .int .u8 (tf s 3), .int .u8 (tf s 4), .int .u8 (tf s 5), .int .u8 (tf s 6), .int .u8 (tf s 7), .int .u8 (tf s 8)] := tagLaw.inj hkey (sKey s g2)
            have HT := text_c s g1 g2
            unfold mkT at HT
            have HRG := Lib.hid hrg2
            have HLK := Lib.hid (HC.out.step (fun s hs => (HG2.out s hs).2) s hsm hlk)
            have hz2a : w2.heap.size ≤ wr.heap.size := by omega
            have hz2b : wr.heap.size ≤ w2.heap.size := by omega
            have HW2 := Lib.hid (own_keep HW.out (W' := w2) (fun g hg hgl => hg2.block g hgl (by simp; omega)))
            have hnx2 : Below w.heap.size w w2 := hnx.grown hg2 hnx.size (fun j hj => by cases hj; omega)
            clear hs2 hrg2 hat hhas hkey hv hlk
            go_wp2_with fail
            refine (HT _).mono ?_
            rintro e w3 ⟨rfl, hb3⟩
            have hz3 := hb3.size
            simp only [World.size_alloc] at hz3
            have hk3 : ∀ i, i < w2.heap.size → w3.heap[i]? = w2.heap[i]? := fun i hi => (hb3.block i (by simp; omega)).trans (Below.heap_alloc _ _ _ hi)
            have HK3 := Lib.hid hk3
            have HW3 := Lib.hid (own_keep HW2.out (W' := w3) (fun g hg hgl => hk3 g hgl))
            have hnx3 : Below w.heap.size w w3 := by (repeat' (first | (with_reducible exact Below.refl _ _) | (with_reducible assumption) | (with_reducible refine Below.alloc ?_ ?_ _) | (with_reducible refine Below.drew ?_) | (with_reducible refine Below_drewN ?_ _) | (with_reducible refine Below.setCell ?_ ?_ _) | (refine Below.step (B' := ?_) (b := ?_) ?_ ?_ ?_; rotate_left 2; (with_reducible assumption)) | go_size))
            clear hk3
            go_wp2_with (at_builtin
                         refine wpList_app rfl (.tmp 34) (.tmp 37) _ rfl (V.heap.size + 1) 9 i0 _ 1 16 Try.underlying43 hy hy0 hy1 hy2 rfl (by omega) u8 os.length _ rfl (HW3.out.alloc _) (some ⟨w3.heap.size, 0, none⟩) 1 1 [.string s] rfl (cap_some (by omega)) (Sees.one _ _ _) (by simp [Value.oneCell']) (by unfold maxLen; omega) (by omega) (by simp; omega) ?_
                         intro v4 w4 hown4 hb4)
            have hz4 := hb4.size
            simp only [World.size_alloc] at hz4
            have hk4 : ∀ i, i < V.heap.size + 1 → w4.heap[i]? = w2.heap[i]? := fun i hi => (hb4.block i hi).trans ((Below.heap_alloc _ _ _ (by omega)).trans (HK3.out i (by omega)))
            have hrg4 := ranges_keep HRG.out (hk4 _ (by omega)) (hk4 _ (by omega))
            have HOW := Lib.hid hown4
            clear hown4
            go_roundw
            case rel =>
              refine ⟨_, cnt2, os ++ [s], hrg4, by simp; omega, ?_, HLK.out, by omega, Below.step1 hnx3 (hb4.mono (by omega))⟩
              rw [List.map_append, List.length_append]
              exact HOW.out
            case measure => rw [hrg4.left_eq, HR.out.left_eq]; exact hlt
      · have e3 : 3 < (m : Int) := by omega
        go_wp2_with (at_len; refine wpList_len_own _ rfl _ 62 rfl 64 4 Try.underlying62 _ w.heap.size n _ rfl HO2.out ?_; rw [hsize])
        go_ret2
        exact ⟨hb, fun hg => absurd hg.2 (by omega), fun _ => rfl⟩
end Go.Proofs.Try
