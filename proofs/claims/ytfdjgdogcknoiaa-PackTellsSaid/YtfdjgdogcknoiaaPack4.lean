/- pack.Put, linhayref07.Put: the walks. -/
import Derived.Test.YtfdjgdogcknoiaaPack3
import Derived.OwnWalk
namespace Go.Proofs.Try
open Go.RowKit
set_option linter.unusedVariables false

/-- The bytes of numbers. -/
def putB (xs : List Int) : List UInt8 := xs.flatMap fun x => oneB x.toNat
theorem putB_app (a b : List Int) : putB (a ++ b) = putB a ++ putB b := List.flatMap_append
theorem putB_snoc (xs : List Int) (k : Nat) (h : k < xs.length) : putB (xs.take (k + 1)) = putB (xs.take k) ++ oneB (xs.getD k 0).toNat := by
  have e : xs.take (k + 1) = xs.take k ++ [xs.getD k 0] := by
    rw [List.take_add_one, List.getElem?_eq_getElem h, List.getD_eq_getElem?_getD, List.getElem?_eq_getElem h]; rfl
  rw [e, putB_app]
  simp [putB]
theorem putB_len : ∀ (xs : List Int), (∀ x ∈ xs, 0 ≤ x ∧ x < 18446744073709551616) → (putB xs).length ≤ 10 * xs.length
  | [], _ => by simp [putB]
  | x :: xs, h => by
    have ih := putB_len xs (fun y hy => h y (by simp [hy]))
    have hx := h x (by simp)
    have := sizeB_10 x.toNat (by omega)
    have e : putB (x :: xs) = oneB x.toNat ++ putB xs := rfl
    rw [e, List.length_append, List.length_cons]
    unfold sizeB at this
    omega
/-- A row of bytes, as a string. -/
theorem conv_own {base n : Nat} {v : Value} {L : List UInt8} {W : World} (h : W.ownsRow base 5 1 v n (bcells L)) (hv : v ≠ .slice none 0 0) :
    (convert 51 9 v).run Try.prog W = .ok (.string (S L)) W := by
  have hn : L.length = n := by have := h.1; rw [bcells_len] at this; omega
  rcases h.2 with ⟨rfl, _⟩ | ⟨g, cap, cur, rfl, hr⟩
  · exact absurd rfl hv
  · have hc := h.cells (g := g) rfl
    have := conv_str (S L) g cap W (fun j hj => by
      rw [S_size] at hj
      have e := hc j (.int .u8 (byteAt (S L) j)) (by
        unfold bcells byteAt
        rw [S_list, List.getElem?_map, List.getElem?_eq_getElem hj, List.getD_eq_getElem?_getD, List.getElem?_eq_getElem hj]
        rfl)
      rw [add_plain, Nat.zero_add] at e
      exact e)
    rw [S_size, hn] at this
    exact this
set_option maxRecDepth 100000 in
set_option maxHeartbeats 1000000 in
theorem pput_c0 (A : Option Addr) (k c : Nat) (s : ByteArray) (xs : List Int) (w : World) (h : Sees w 1 A k (xs.map (Value.int .u64))) (hin : ∀ x ∈ xs, 0 ≤ x ∧ x < 18446744073709551616) (hk : k ≤ 10000) (hs : s.size ≤ 500000) :
    Calls Try.prog 18 #[.string s, .slice A k c] w fun r w' => r = .returned (.string (S (s.data.toList ++ putB xs))) ∧ Below w.heap.size w w' := by
  obtain ⟨i0, hy, hy0, hy1, hy2⟩ := info_parts u8_info
  have HL := Lib.hid h.len
  have HS := Lib.hid h
  have HI := Lib.hid hin
  have hsz : s.data.toList.length = s.size := by rw [← Lib.size_eq]
  have HZ := Lib.hid hsz
  clear h hin hsz
  go_enter Try.func18, Try.ntmps18
  go_wp2_with (first
    | (at_make; refine wpList_make_own w rfl _ _ _ rfl w.heap.size 5 i0 _ 1 Try.underlying51 hy hy0 hy1 .i64 .i64 _ (s.size + k) rfl rfl (by go_num) (by rw [hy2]; omega) (by unfold maxLen; omega) (Nat.le_refl _) ?_; intro w1 hown1 hg1)
    | (at_builtin; refine Lib.wpList_append_own_string _ rfl (.tmp 14) (.tmp 15) _ _ rfl w.heap.size 5 i0 Try.underlying51 Try.underlying9 hy hy0 hy1 hy2 _ 0 [] rfl hown1 s rfl (by unfold maxLen; omega) (by omega) hg1.size ?_; intro v2 w2 hown2 hg2 hnil2))
  have hB1 : Below w.heap.size w w1 := (Below.refl _ _).grown hg1 (Nat.le_refl _) (fun j hj => by cases hj)
  have hB2 : Below w.heap.size w w2 := hB1.grown hg2 hB1.size (fun j hj => by cases hj; exact Nat.le_refl _)
  have hO2 : w2.ownsRow w.heap.size 5 1 v2 s.data.toList.length (bcells s.data.toList) := by
    have := hown2
    rw [Nat.zero_add, List.nil_append] at this
    rw [HZ.out]
    exact this
  have hv2 : v2 ≠ .slice none 0 0 := fun e => by
    have := (hnil2.1 e).1
    cases this
  have HO2 := Lib.hid hO2
  have HV2 := Lib.hid hv2
  clear hown2 hown1 hg1 hg2 hnil2 hB1 hO2 hv2
  go_wp2_with fail
  go_loopw [5, 19] (fun x i wr => ∃ j : Nat, j ≤ k ∧ i = .int .i64 j ∧ wr.ownsRow w.heap.size 5 1 x (s.data.toList ++ putB (xs.take j)).length (bcells (s.data.toList ++ putB (xs.take j))) ∧ x ≠ .slice none 0 0 ∧ Below w.heap.size w wr) (fun _ i _ => k - (intOf i).toNat)
  case atStart => exact ⟨0, by omega, rfl, by simpa [putB] using HO2.out, HV2.out, hB2⟩
  case round =>
    obtain ⟨j, hj, rfl, hown, hv, hb⟩ := hrel
    have HO := Lib.hid hown
    have HV := Lib.hid hv
    have HB := Lib.hid hb
    have hzz := hb.size
    clear hown hv hb
    by_cases hlt : j < k
    · have hsw := HS.out.below HB.out
      obtain ⟨b, off, rfl, hbz, hxx⟩ := hsw.2.resolve_left (by omega)
      have hcell := hsw.int hlt
      have hps := putB_snoc xs j (by have := HL.out; omega)
      have hX : 0 ≤ xs.getD j 0 ∧ xs.getD j 0 < 18446744073709551616 := HI.out _ (by rw [List.getD_eq_getElem?_getD, List.getElem?_eq_getElem (by have := HL.out; omega)]; exact List.getElem_mem _)
      obtain ⟨N, hN⟩ := Int.eq_ofNat_of_zero_le hX.1
      have hN' : xs.getD j 0 = (N : Int) := hN
      rw [hN'] at hcell hps hX
      have hlen : (s.data.toList ++ putB (xs.take j)).length ≤ 1000000 := by
        have h1 := putB_len (xs.take j) (fun x hx => HI.out x (List.mem_of_mem_take hx))
        have h2 : (xs.take j).length ≤ k := by rw [List.length_take]; omega
        have := HZ.out
        rw [List.length_append]
        omega
      have HP := Lib.hid (show (s.data.toList ++ putB (xs.take j)) ++ oneB N = s.data.toList ++ putB (xs.take (j + 1)) by rw [hps, List.append_assoc]; rfl)
      have HC := fun v h => play_c w.heap.size v (s.data.toList ++ putB (xs.take j)) N wr (by omega) h hzz hlen
      have HCC := Lib.hid HC
      have hone := sizeB_pos N
      have HN1 := Lib.hid (show 1 ≤ (s.data.toList ++ putB (xs.take (j + 1))).length by rw [← HP.out, List.length_append]; unfold sizeB at hone; omega)
      clear hxx hsw hps hX hN hN' hlen HC hone
      go_wp2_with fail
      with_reducible refine (HCC.out _ HO.out).mono ?_
      rintro e w5 ⟨v5, rfl, hown5, hb5⟩
      rw [HP.out] at hown5
      have HO5 := Lib.hid hown5
      clear hown5
      go_wp2_with fail
      go_roundw
      case rel =>
        refine ⟨j + 1, by omega, by go_num, HO5.out, fun e => ?_, HB.out.trans hb5⟩
        rcases HO5.out.2 with ⟨_, h0⟩ | ⟨g, cap, cur, he, _⟩
        · have := HN1.out; omega
        · rw [e] at he; cases he
      case measure => simp [intOf]; omega
    · have hke : j = k := by omega
      have HT := Lib.hid (show xs.take j = xs by rw [hke, ← HL.out, List.take_length])
      have hO := HO.out
      rw [HT.out] at hO
      have hcv := conv_own hO HV.out
      clear hO
      go_wp2_with fail
      go_ret
      exact ⟨rfl, HB.out⟩
theorem pput_c (A : Option Addr) (k c : Nat) (bs : List UInt8) (xs : List Int) (w : World) (h : Sees w 1 A k (xs.map (Value.int .u64))) (hin : ∀ x ∈ xs, 0 ≤ x ∧ x < 18446744073709551616) (hk : k ≤ 10000) (hs : bs.length ≤ 500000) :
    Calls Try.prog 18 #[.string (S bs), .slice A k c] w fun r w' => r = .returned (.string (S (bs ++ putB xs))) ∧ Below w.heap.size w w' := by
  have := pput_c0 A k c (S bs) xs w h hin hk (by rw [S_size]; exact hs)
  rwa [S_list] at this
theorem add_S (a b : List UInt8) (h : a.length + b.length ≤ maxLen) (W : World) : (Op.stringOp .add (S a) (S b)).run Try.prog W = .ok (.string (S (a ++ b))) W := by
  rw [← S_app]
  exact run_string_add_sum _ _ _ (by rw [S_size, S_size]; exact h)
set_option maxRecDepth 100000 in
set_option maxHeartbeats 1000000 in
theorem rput_c (A : Option Addr) (k c : Nat) (bs : List UInt8) (xs : List Int) (w : World) (h : Sees w 1 A k (xs.map (Value.int .u64))) (hin : ∀ x ∈ xs, 0 ≤ x ∧ x < 18446744073709551616) (hk : k ≤ 10000) (hs : bs.length ≤ 500000) :
    Calls Try.prog 19 #[.string (S bs), .slice A k c] w fun r w' => r = .returned (.string (S (bs ++ putB xs))) ∧ Below w.heap.size w w' := by
  have HL := Lib.hid h.len
  have HS := Lib.hid h
  have HI := Lib.hid hin
  clear h hin
  go_enter Try.func19, Try.ntmps19
  go_wp2_with fail
  go_loopw [0, 5] (fun x i wr => ∃ j : Nat, j ≤ k ∧ i = .int .i64 j ∧ x = .string (S (bs ++ putB (xs.take j))) ∧ Below w.heap.size w wr) (fun _ i _ => k - (intOf i).toNat)
  case atStart => exact ⟨0, by omega, rfl, by simp [putB], Below.refl _ _⟩
  case round =>
    obtain ⟨j, hj, rfl, rfl, hb⟩ := hrel
    have HB := Lib.hid hb
    have hzz := hb.size
    clear hb
    by_cases hlt : j < k
    · have hsw := HS.out.below HB.out
      obtain ⟨b, off, rfl, hbz, hxx⟩ := hsw.2.resolve_left (by omega)
      have hcell := hsw.int hlt
      have hps := putB_snoc xs j (by have := HL.out; omega)
      have hX : 0 ≤ xs.getD j 0 ∧ xs.getD j 0 < 18446744073709551616 := HI.out _ (by rw [List.getD_eq_getElem?_getD, List.getElem?_eq_getElem (by have := HL.out; omega)]; exact List.getElem_mem _)
      obtain ⟨N, hN⟩ := Int.eq_ofNat_of_zero_le hX.1
      have hN' : xs.getD j 0 = (N : Int) := hN
      rw [hN'] at hcell hps hX
      have hlen : (bs ++ putB (xs.take j)).length ≤ 1000000 := by
        have h1 := putB_len (xs.take j) (fun x hx => HI.out x (List.mem_of_mem_take hx))
        have h2 : (xs.take j).length ≤ k := by rw [List.length_take]; omega
        rw [List.length_append]
        omega
      have HP := Lib.hid (show (bs ++ putB (xs.take j)) ++ oneB N = bs ++ putB (xs.take (j + 1)) by rw [hps, List.append_assoc]; rfl)
      have h10 := sizeB_10 N (by omega)
      have HX := fun W => add_S (bs ++ putB (xs.take j)) (oneB N) (by unfold sizeB at h10; unfold maxLen; omega) W
      have HC := one_c N (by omega)
      have HR := Lib.hid (show ∀ W : World, (Op.stringOp .add (S (bs ++ putB (xs.take j))) (S (oneB N))).run Try.prog W = .ok (.string (S (bs ++ putB (xs.take (j + 1))))) W from fun W => by rw [← HP.out]; exact HX W)
      clear hxx hsw hps hX hN hN' hlen h10 HX
      have hadd := HR.out
      go_wp2_with fail
      with_reducible refine (HC _).mono ?_
      rintro e w5 ⟨rfl, hb5⟩
      go_wp2_with fail
      go_roundw
      case rel => exact ⟨j + 1, by omega, by go_num, rfl, HB.out.trans (hb5.mono hzz)⟩
      case measure => simp [intOf]; omega
    · have hke : j = k := by omega
      have HT := Lib.hid (show xs.take j = xs by rw [hke, ← HL.out, List.take_length])
      have e0 : decide ((j : Int) < (k : Int)) = false := by simp; omega
      go_wp2_with fail
      go_ret
      refine ⟨?_, HB.out⟩
      show Ending.returned (.string (S (bs ++ putB (xs.take j)))) = _
      rw [HT.out]
end Go.Proofs.Try
