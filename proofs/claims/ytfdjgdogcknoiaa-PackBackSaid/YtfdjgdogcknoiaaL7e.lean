/- The walk of PackBack. -/
import Derived.Test.YtfdjgdogcknoiaaL7b
namespace Go.Proofs.Try
open Go.RowKit
set_option linter.unusedVariables false
set_option linter.unusedSimpArgs false

/-- What is left behind the first j numbers. -/
def bk (xs : List Int) (ts : List (List UInt8)) (h : List UInt8) (j : Nat) : List UInt8 := putB (xs.drop j) ++ (textsB ts ++ h)
theorem bk_next (xs : List Int) (ts : List (List UInt8)) (h : List UInt8) (j : Nat) (hj : j < xs.length) : bk xs ts h j = oneB (xs.getD j 0).toNat ++ bk xs ts h (j + 1) := by
  unfold bk
  rw [List.drop_eq_getElem_cons hj, List.getD_eq_getElem?_getD, List.getElem?_eq_getElem hj]
  show (oneB _ ++ putB _) ++ _ = _
  rw [List.append_assoc]; rfl
theorem bk_all (xs : List Int) (ts : List (List UInt8)) (h : List UInt8) (n : Nat) (hn : xs.length = n) : bk xs ts h n = textsB ts ++ h := by
  unfold bk
  rw [← hn, List.drop_length]; rfl
theorem bk_len (xs : List Int) (ts : List (List UInt8)) (h : List UInt8) (j : Nat) (hx : ∀ x ∈ xs, 0 ≤ x ∧ x < 18446744073709551616) : (bk xs ts h j).length ≤ 10 * xs.length + (textsB ts).length + h.length := by
  have h1 := putB_len (xs.drop j) (fun x hx' => hx x (List.mem_of_mem_drop hx'))
  have h2 : (xs.drop j).length ≤ xs.length := by rw [List.length_drop]; omega
  unfold bk
  rw [List.length_append, List.length_append]
  omega
set_option maxRecDepth 100000 in
set_option maxHeartbeats 4000000 in
theorem walk_PackBack (v0 v1 : Value) (a2 : ByteArray) (w2 : a2.size ≤ maxLen) (w : World) (h0 : ∃ xs, Row w .u64 v0 xs) (h1 : ∃ xs, Texts w v1 xs) :
    Calls Try.prog 4 #[v0, v1, .string a2] w fun e w' => e = .returned (.bool true) ∧ Below w.heap.size w w' := by
  obtain ⟨bs, rfl⟩ : ∃ bs, a2 = S bs := ⟨a2.data.toList, (S_of a2).symm⟩
  have hsz := S_size bs
  rw [hsz] at w2
  have w0' : bs.length ≤ 9223372036854775807 := by unfold maxLen at w2; omega
  clear w2
  obtain ⟨xs, A, n, c, rfl, hcA, hmA, hsA, hwA⟩ := h0
  obtain ⟨ss, h1⟩ := h1
  obtain ⟨ts, B, m, d, rfl, hcB, hmB, hsB⟩ := h1.lists
  have hxs := row_in hwA
  have HLA := Lib.hid hsA.len
  have HLB := Lib.hid (show ts.length = m by have := hsB.1; simpa using this)
  have HA := Lib.hid hsA
  have HB := Lib.hid hsB
  have hmA' : n ≤ 9223372036854775807 := by unfold maxLen at hmA; omega
  clear hwA hsA hsB hcA hcB h1 hmA
  by_cases c1 : n ≤ 100
  · have d1 : decide (100 < (n : Int)) = false := by simp; omega
    by_cases hf : few ts 100 = true
    · obtain ⟨f1, f2, f3⟩ := few_len ts hf
      have F1 := Lib.hid f1
      have hm : m ≤ 100 := by have := HLB.out; omega
      have f4 := textsB_len ts f3 f2
      clear f1
      have HXX := Lib.hid hxs
      clear hxs
      by_cases c0 : bs.length ≤ 1000
      · have d0 : decide (1000 < (bs.length : Int)) = false := by simp; omega
        have P1 := put_len xs n HLA.out HXX.out c1
        have hadd := fun W => add_S (putB xs ++ textsB ts) bs (by rw [List.length_append]; unfold maxLen; omega) W
        rw [show putB xs ++ textsB ts ++ bs = bk xs ts bs 0 by unfold bk; rw [List.append_assoc, List.drop_zero]] at hadd
        go_enter Try.func4, Try.ntmps4
        go_wp2_with fail
        with_reducible refine (awake7 _).mono ?_
        rintro e w1 ⟨rfl, hb1⟩
        have hz1 := hb1.size
        go_wp2_with fail
        with_reducible refine (few_c B m d ts 100 _ (HB.out.below hb1) hmB).mono ?_
        rintro e w' ⟨rfl, rfl⟩
        have HB1 := Lib.hid hb1
        clear hb1
        go_wp2_with fail
        with_reducible refine (put_e A n c xs _ (HA.out.below HB1.out) HXX.out (by omega)).mono ?_
        rintro e w2 ⟨rfl, hb2⟩
        have hz2 := hb2.size
        have HB2 := Lib.hid (HB1.out.trans (hb2.mono (by omega)))
        clear hb2
        go_wp2_with fail
        with_reducible refine (ptexts_c B m d (putB xs) ts _ (HB.out.below HB2.out) (by omega) (by omega) (by omega)).mono ?_
        rintro e w3 ⟨rfl, hb3⟩
        have hz3 := hb3.size
        have HB3 := Lib.hid (HB2.out.trans (hb3.mono (by omega)))
        clear hb3
        go_wp2_with fail
        clear hadd
        go_loopw [8, 9] (fun x i wr => ∃ j : Nat, j ≤ n ∧ i = .int .i64 j ∧ x = .string (S (bk xs ts bs j)) ∧ Below w.heap.size w wr) (fun _ i _ => n - (intOf i).toNat)
        case atStart => exact ⟨0, by omega, rfl, rfl, HB3.out⟩
        case round =>
          obtain ⟨j, hj, rfl, rfl, hbw⟩ := hrel
          have HBB := Lib.hid hbw
          have hzz := hbw.size
          have hbl := bk_len xs ts bs j HXX.out
          rw [HLA.out] at hbl
          clear hbw
          by_cases hlt : j < n
          · have hsw := HA.out.below HBB.out
            obtain ⟨b, off, rfl, hbz, hxx⟩ := hsw.2.resolve_left (by omega)
            have hcell := hsw.int hlt
            have hX : 0 ≤ xs.getD j 0 ∧ xs.getD j 0 < 18446744073709551616 := HXX.out _ (by rw [List.getD_eq_getElem?_getD, List.getElem?_eq_getElem (by have := HLA.out; omega)]; exact List.getElem_mem _)
            have hnx := bk_next xs ts bs j (by have := HLA.out; omega)
            obtain ⟨N, hN⟩ := Int.eq_ofNat_of_zero_le hX.1
            have hN' : xs.getD j 0 = (N : Int) := hN
            rw [hN'] at hcell hnx hX
            have ht := takeL_one N (by omega) (bk xs ts bs (j + 1))
            rw [show oneB N ++ bk xs ts bs (j + 1) = bk xs ts bs j from hnx.symm] at ht
            have hl2 := congrArg List.length hnx
            rw [List.length_append] at hl2
            have hl3 : (bk xs ts bs j).length = sizeB N + (bk xs ts bs (j + 1)).length := hl2
            have HC := take_c (bk xs ts bs j) (by omega)
            rw [ht] at HC
            unfold tkR at HC
            simp only at HC
            have HZ := psize_c N (by omega)
            have hs1 := S_size (bk xs ts bs j)
            have hs2 := S_size (bk xs ts bs (j + 1))
            have hs3 : (((bk xs ts bs j).length : Int) - ((bk xs ts bs (j + 1)).length : Int)) = (sizeB N : Int) := by omega
            have hw : IntKind.i64.wrap (((bk xs ts bs j).length : Int) - ((bk xs ts bs (j + 1)).length : Int)) = (sizeB N : Int) := by rw [IntKind.wrap_i64, hs3]; omega
            clear hxx hsw hX hN hN' ht hnx hl2 hl3 hs3
            generalize bk xs ts bs j = X0 at *
            obtain ⟨X1, hX1⟩ : ∃ X1, bk xs ts bs (j + 1) = X1 := ⟨_, rfl⟩
            rw [hX1] at HC hs2 hw
            have HX1 := Lib.hid hX1
            clear hX1
            generalize sizeB N = zN at *
            go_wp2_with fail
            with_reducible refine (HC _).mono ?_
            rintro e w5 ⟨rfl, hb5⟩
            have hz5 := hb5.size
            have hcell5 : w5.cell? ⟨b, off + j, none⟩ = some (.int .u64 (N : Int)) := (hb5.cell (p := ⟨b, off + j, none⟩) hbz).trans hcell
            go_wp2_with fail
            with_reducible refine (HZ _).mono ?_
            rintro e w' ⟨rfl, rfl⟩
            go_wp2_with fail
            go_roundw
            case rel => exact ⟨j + 1, by omega, by go_num, by rw [HX1.out], HBB.out.trans (hb5.mono hzz)⟩
            case measure => simp [intOf]; omega
          · have hke : j = n := by omega
            have e0 : decide ((j : Int) < (n : Int)) = false := by simp; omega
            have HE := Lib.hid (show bk xs ts bs j = textsB ts ++ bs by rw [hke]; exact bk_all xs ts bs n HLA.out)
            have HX := taketexts_c (bk xs ts bs j) (by omega)
            rw [HE.out, takeTextsL_texts ts bs F1.out (by omega), ← HE.out] at HX
            clear hke
            go_wp2_with fail
            with_reducible refine (HX _).mono ?_
            intro e w5 ht5
            obtain ⟨hb5, _, h5⟩ := ht5
            obtain ⟨A5, c5, rfl, hcap, hs5⟩ := h5 _ _ rfl
            have HS5 := Lib.hid hs5
            have HBB5 := Lib.hid (HBB.out.trans (hb5.mono hzz))
            have hz5 := hb5.size
            have HT5 := Lib.hid (HB.out.below HBB5.out)
            clear hs5 hb5 h5 HX hcap
            have hLB := HLB.out
            rw [hLB] at HS5
            go_wp2_with fail
            with_reducible refine (same_t A5 B _ c5 d ts _ HS5.out HT5.out (by omega)).mono ?_
            rintro e w6 ⟨rfl, hb6⟩
            go_wp2_with fail
            go_ret
            exact ⟨by first | rfl | (simp; done), HBB5.out.trans (hb6.mono (by omega))⟩
      · have d0 : 1000 < (bs.length : Int) := by omega
        go_enter Try.func4, Try.ntmps4
        go_wp2_with fail
        with_reducible refine (awake7 _).mono ?_
        rintro e w1 ⟨rfl, hb1⟩
        go_wp2_with fail
        with_reducible refine (few_c B m d ts 100 _ (HB.out.below hb1) hmB).mono ?_
        rintro e w' ⟨rfl, rfl⟩
        go_wp2_with fail
        go_ret
        exact ⟨rfl, by (repeat' (first | (with_reducible exact Below.refl _ _) | (with_reducible assumption) | (with_reducible refine Below.alloc ?_ ?_ _) | (with_reducible refine Below.drew ?_) | (with_reducible refine Below_drewN ?_ _) | (with_reducible refine Below.setCell ?_ ?_ _) | (refine Below.step (B' := ?_) (b := ?_) ?_ ?_ ?_; rotate_left 2; (with_reducible assumption)) | go_size))⟩
    · have hf' : few ts 100 = false := by simpa using hf
      clear hf
      go_enter Try.func4, Try.ntmps4
      go_wp2_with fail
      with_reducible refine (awake7 _).mono ?_
      rintro e w1 ⟨rfl, hb1⟩
      go_wp2_with fail
      with_reducible refine (few_c B m d ts 100 _ (HB.out.below hb1) hmB).mono ?_
      rintro e w' ⟨rfl, rfl⟩
      rw [hf']
      go_wp2_with fail
      go_ret
      exact ⟨rfl, by (repeat' (first | (with_reducible exact Below.refl _ _) | (with_reducible assumption) | (with_reducible refine Below.alloc ?_ ?_ _) | (with_reducible refine Below.drew ?_) | (with_reducible refine Below_drewN ?_ _) | (with_reducible refine Below.setCell ?_ ?_ _) | (refine Below.step (B' := ?_) (b := ?_) ?_ ?_ ?_; rotate_left 2; (with_reducible assumption)) | go_size))⟩
  · have d1 : 100 < (n : Int) := by omega
    go_enter Try.func4, Try.ntmps4
    go_wp2_with fail
    with_reducible refine (awake7 _).mono ?_
    rintro e w1 ⟨rfl, hb1⟩
    go_wp2_with fail
    go_ret
    exact ⟨rfl, by (repeat' (first | (with_reducible exact Below.refl _ _) | (with_reducible assumption) | (with_reducible refine Below.alloc ?_ ?_ _) | (with_reducible refine Below.drew ?_) | (with_reducible refine Below_drewN ?_ _) | (with_reducible refine Below.setCell ?_ ?_ _) | (refine Below.step (B' := ?_) (b := ?_) ?_ ?_ ?_; rotate_left 2; (with_reducible assumption)) | go_size))⟩
end Go.Proofs.Try
