/- linhayref09.put, linhayref09.Tags: the walks. -/
import Derived.Test.YthijffdljoeelaaThing7
import Derived.Test.YthijffdljoeelaaTexts
namespace Go.Proofs.Try
open Go.RowKit Go.Maps Go.Sort
set_option linter.unusedVariables false
set_option linter.unusedSimpArgs false

theorem Sees.dropT {w : World} {b off n k : Nat} {xs : List ByteArray} (h : Sees w 1 (some ⟨b, off, none⟩) n (xs.map Value.string)) (hk : k ≤ n) : Sees w 1 (some ⟨b, off + k, none⟩) (n - k) ((xs.drop k).map Value.string) := by
  have hl : xs.length = n := by have := h.1; simpa using this
  refine ⟨by rw [List.length_map, List.length_drop]; omega, ?_⟩
  rcases h.2 with h0 | ⟨b', off', hA, hb, hc⟩
  · exact .inl (by omega)
  · injection hA with hA
    injection hA with e1 e2
    subst e1 e2
    refine .inr ⟨b, off + k, rfl, hb, fun j hj => ?_⟩
    rw [List.length_map, List.length_drop] at hj
    rw [Nat.add_assoc, hc (k + j) (by rw [List.length_map]; omega), List.getElem?_map, List.getElem?_map, List.getElem?_drop]
theorem strs_one (xs : List ByteArray) : ∀ u ∈ xs.map Value.string, u.oneCell' = true := by
  intro u hu
  obtain ⟨x, _, rfl⟩ := List.mem_map.1 hu
  rfl
def PutR (ss : List ByteArray) (s : ByteArray) (w : World) (r : Ending) (w' : World) : Prop :=
  Below w.heap.size w w' ∧ ∃ A' k' c', r = .returned (.slice A' k' c') ∧ (putL ss s).length = k' ∧ CapOk A' k' c' ∧ Sees w' 1 A' k' ((putL ss s).map Value.string)

set_option maxRecDepth 100000 in
set_option maxHeartbeats 1000000 in
theorem put_c (A : Option Addr) (n c : Nat) (ss : List ByteArray) (s : ByteArray) (w : World) (h : Sees w 1 A n (ss.map Value.string)) (hcap : CapOk A n c) (hn : n ≤ 1000) (hA : n = 0 → A = none) :
    Calls Try.prog 41 #[.slice A n c, .string s] w (PutR ss s w) := by
  obtain ⟨i0, hy, hy0, hy1, hy2⟩ := info_parts str_info
  have hlen : ss.length = n := by have := h.1; simpa using this
  have HL := Lib.hid hlen
  have HS := Lib.hid h
  have hcc : (n : Int) ≤ c := by have := hcap.2; omega
  have HC := Lib.hid hcap
  have HA := Lib.hid hA
  clear h hlen hcap hA
  go_enter Try.func41, Try.ntmps41
  go_wp2_with fail
  go_loop [5] (fun i => ∃ k : Nat, k ≤ n ∧ i = .int .i64 k ∧ ∀ t ∈ ss.take k, ltT t s = true) (fun i => n - (intOf i).toNat)
  case atStart => exact ⟨0, by omega, rfl, by simp⟩
  case round =>
    obtain ⟨k, hk, rfl, hg⟩ := hrel
    have HG := Lib.hid hg
    clear hg
    by_cases hlt : k < n
    · obtain ⟨b, off, rfl, hbz, hxx⟩ := HS.out.2.resolve_left (by omega)
      have hcell := HS.out.text hlt
      have htk := take_more ss k ⟨#[]⟩ (by have := HL.out; omega)
      clear hxx
      obtain ⟨t, hs⟩ : ∃ t, ss.getD k ⟨#[]⟩ = t := ⟨_, rfl⟩
      rw [hs] at hcell htk
      have HTK := Lib.hid htk
      clear htk
      have HTT := Lib.hid hs
      clear hs
      obtain ⟨B, hB⟩ : ∃ B, Op.bytesLess t.toList s.toList = B := ⟨_, rfl⟩
      have HB : Hid (ltT t s = B) := Lib.hid hB
      cases B
      · obtain ⟨C, hC⟩ : ∃ C, (t.toList == s.toList) = C := ⟨_, rfl⟩
        cases C
        · have HP := Lib.hid (putL_new ss s k HG.out (by have := HL.out; omega) (fun _ => by rw [HTT.out]; exact ⟨HB.out, fun e => by rw [e] at hC; simp at hC⟩))
          have HD := Lib.hid (HS.out.dropT hk)
          have HT := Lib.hid (HS.out.takeT hk)
          have hw0 : w.heap.size ≤ (w.alloc (.cells #[] 9)).heap.size := by simp
          go_wp2_with (first
            | (at_builtin
               refine wpList_app rfl (.tmp 34) (.tmp 37) _ rfl w.heap.size 9 i0 _ 1 16 Try.underlying43 hy hy0 hy1 hy2 rfl (by omega) _ 0 [] rfl (World.ownsRow_made w #[] 0 (Nat.le_refl _) (Nat.zero_le _) rfl) (some ⟨b, off + k, none⟩) (n - k) (c - k) ((ss.drop k).map Value.string) rfl (cap_some (by omega)) (HD.out.alloc _) (strs_one _) (by unfold maxLen; omega) (by omega) (by simp) ?_
               intro v1 w2 hown2 hb2
               have hb12 := Below.step1 (Below.refl w.heap.size w) hb2 (Nat.le_refl _)
               have hz2 := hb12.size
               obtain ⟨X, q, rfl, hcX, hX⟩ := Sees.of_own hown2
               rw [List.nil_append, Nat.zero_add] at hX
               rw [Nat.zero_add] at hcX
               have HX := Lib.hid hX
               have HCX := Lib.hid hcX
               have HT2 := Lib.hid (HT.out.below hb12)
               clear hX hcX hown2)
            | (at_builtin
               refine wpList_app rfl (.tmp 39) (.tmp 42) _ rfl w2.heap.size 9 i0 _ 1 16 Try.underlying43 hy hy0 hy1 hy2 rfl (by omega) _ 0 [] rfl (World.ownsRow_made w2 #[] 0 (Nat.le_refl _) (Nat.zero_le _) rfl) (some ⟨b, off, none⟩) k c ((ss.take k).map Value.string) rfl (cap_some (by omega)) (HT2.out.alloc _) (strs_one _) (by unfold maxLen; omega) (by omega) (by simp) ?_
               intro v3 w3 hown3 hb3
               have hb23 := Below.step1 (Below.refl w2.heap.size w2) hb3 (Nat.le_refl _)
               have hz3 := hb23.size)
            | (at_builtin
               refine wpList_app rfl (.tmp 43) (.tmp 45) _ rfl w2.heap.size 9 i0 _ 1 16 Try.underlying43 hy hy0 hy1 hy2 rfl (by omega) v3 (0 + k) ([] ++ (ss.take k).map Value.string) rfl (hown3.alloc _) (some ⟨w3.heap.size, 0, none⟩) 1 1 [.string s] rfl (cap_some (by omega)) (Sees.one _ _ _) (by simp [Value.oneCell']) (by unfold maxLen; omega) (by omega) (by simp; omega) ?_
               intro v4 w4 hown4 hb4
               have hb24 := hb23.trans (Below.step1 (Below.refl w2.heap.size w3) hb4 hz3)
               have hz4 := hb24.size)
            | (at_builtin
               refine wpList_app rfl (.tmp 46) (.tmp 47) _ rfl w2.heap.size 9 i0 _ 1 16 Try.underlying43 hy hy0 hy1 hy2 rfl (by omega) v4 (0 + k + 1) ([] ++ (ss.take k).map Value.string ++ [.string s]) rfl hown4 X (n - k) q ((ss.drop k).map Value.string) rfl HCX.out (HX.out.below hb24) (strs_one _) (by unfold maxLen; omega) (by omega) (by omega) ?_
               intro v5 w5 hown5 hb5
               have hb25 := hb24.trans hb5))
          refine bodyPost_ret (by simp [results, Try.results41, go_sem]; try rfl) rfl ?_
          obtain ⟨Y, q', rfl, hcY, hY⟩ := Sees.of_own hown5
          rw [List.nil_append] at hY
          refine ⟨hb12.trans (hb25.mono hz2), Y, _, q', rfl, ?_, hcY, ?_⟩
          · rw [HP.out, List.length_append, List.length_append, List.length_take, List.length_drop, HL.out, List.length_singleton]
            omega
          · rw [HP.out, List.map_append, List.map_append]
            exact hY
        · have hts : t = s := toList_ext t s (by simpa using hC)
          have HP := Lib.hid (putL_there ss s k HG.out (by have := HL.out; omega) (by rw [HTT.out, hts]))
          clear hts
          go_wp2_with fail
          refine bodyPost_ret (by simp [results, Try.results41, go_sem]; try rfl) rfl ?_
          exact ⟨Below.refl _ _, _, _, _, rfl, by rw [HP.out, HL.out], HC.out, by rw [HP.out]; exact HS.out⟩
      · go_wp2_with fail
        go_round
        case rel =>
          refine ⟨k + 1, by omega, by go_num, ?_⟩
          intro x hx
          rw [HTK.out] at hx
          rcases List.mem_append.1 hx with hx | hx
          · exact HG.out x hx
          · rw [List.mem_singleton] at hx
            subst hx
            exact HB.out
        case measure => simp [intOf]; omega
    · have hke : k = n := by omega
      subst hke
      have HP := Lib.hid (putL_new ss s k HG.out (by have := HL.out; omega) (fun h => by have := HL.out; omega))
      by_cases h0 : k = 0
      · subst h0
        obtain rfl := HA.out rfl
        obtain rfl := HC.out.1 rfl
        have HD := Lib.hid (show Sees w 1 none 0 ((ss.drop 0).map Value.string) from HS.out)
        have HT := Lib.hid (HS.out.takeT hk)
        have hw0 : w.heap.size ≤ (w.alloc (.cells #[] 9)).heap.size := by simp
        go_wp2_with (first
          | (at_builtin
             refine wpList_app rfl (.tmp 34) (.tmp 37) _ rfl w.heap.size 9 i0 _ 1 16 Try.underlying43 hy hy0 hy1 hy2 rfl (by omega) _ 0 [] rfl (World.ownsRow_made w #[] 0 (Nat.le_refl _) (Nat.zero_le _) rfl) none 0 0 ((ss.drop 0).map Value.string) rfl cap_none (HD.out.alloc _) (strs_one _) (by unfold maxLen; omega) (by omega) (by simp) ?_
             intro v1 w2 hown2 hb2
             have hb12 := Below.step1 (Below.refl w.heap.size w) hb2 (Nat.le_refl _)
             have hz2 := hb12.size
             obtain ⟨X, q, rfl, hcX, hX⟩ := Sees.of_own hown2
             rw [List.nil_append, Nat.zero_add] at hX
             rw [Nat.zero_add] at hcX
             have HX := Lib.hid hX
             have HCX := Lib.hid hcX
             have HT2 := Lib.hid (HT.out.below hb12)
             clear hX hcX hown2)
          | (at_builtin
             refine wpList_app rfl (.tmp 39) (.tmp 42) _ rfl w2.heap.size 9 i0 _ 1 16 Try.underlying43 hy hy0 hy1 hy2 rfl (by omega) _ 0 [] rfl (World.ownsRow_made w2 #[] 0 (Nat.le_refl _) (Nat.zero_le _) rfl) none 0 0 ((ss.take 0).map Value.string) rfl cap_none (HT2.out.alloc _) (strs_one _) (by unfold maxLen; omega) (by omega) (by simp) ?_
             intro v3 w3 hown3 hb3
             have hb23 := Below.step1 (Below.refl w2.heap.size w2) hb3 (Nat.le_refl _)
             have hz3 := hb23.size)
          | (at_builtin
             refine wpList_app rfl (.tmp 43) (.tmp 45) _ rfl w2.heap.size 9 i0 _ 1 16 Try.underlying43 hy hy0 hy1 hy2 rfl (by omega) v3 (0 + 0) ([] ++ (ss.take 0).map Value.string) rfl (hown3.alloc _) (some ⟨w3.heap.size, 0, none⟩) 1 1 [.string s] rfl (cap_some (by omega)) (Sees.one _ _ _) (by simp [Value.oneCell']) (by unfold maxLen; omega) (by omega) (by simp; omega) ?_
             intro v4 w4 hown4 hb4
             have hb24 := hb23.trans (Below.step1 (Below.refl w2.heap.size w3) hb4 hz3)
             have hz4 := hb24.size)
          | (at_builtin
             refine wpList_app rfl (.tmp 46) (.tmp 47) _ rfl w2.heap.size 9 i0 _ 1 16 Try.underlying43 hy hy0 hy1 hy2 rfl (by omega) v4 (0 + 0 + 1) ([] ++ (ss.take 0).map Value.string ++ [.string s]) rfl hown4 X 0 q ((ss.drop 0).map Value.string) rfl HCX.out (HX.out.below hb24) (strs_one _) (by unfold maxLen; omega) (by omega) (by omega) ?_
             intro v5 w5 hown5 hb5
             have hb25 := hb24.trans hb5))
        refine bodyPost_ret (by simp [results, Try.results41, go_sem]; try rfl) rfl ?_
        obtain ⟨Y, q', rfl, hcY, hY⟩ := Sees.of_own hown5
        rw [List.nil_append] at hY
        refine ⟨hb12.trans (hb25.mono hz2), Y, _, q', rfl, ?_, hcY, ?_⟩
        · rw [HP.out, List.length_append, List.length_append, List.length_take, List.length_drop, HL.out, List.length_singleton]
          omega
        · rw [HP.out, List.map_append, List.map_append]
          exact hY
      · obtain ⟨b, off, rfl, hbz, hxx⟩ := HS.out.2.resolve_left (by omega)
        clear hxx
        obtain ⟨ad, had⟩ : ∃ ad : Addr, (if c = k then some (⟨b, off, none⟩ : Addr) else some ⟨b, off + k, none⟩) = some ad := by split <;> exact ⟨_, rfl⟩
        have HD := Lib.hid (show Sees w 1 (some ad) 0 ((ss.drop k).map Value.string) from by rw [List.drop_eq_nil_of_le (by have := HL.out; omega)]; exact Sees.empty _ _ _)
        have HT := Lib.hid (HS.out.takeT hk)
        have hw0 : w.heap.size ≤ (w.alloc (.cells #[] 9)).heap.size := by simp
        go_wp2_with (first
          | (at_builtin
             refine wpList_app rfl (.tmp 34) (.tmp 37) _ rfl w.heap.size 9 i0 _ 1 16 Try.underlying43 hy hy0 hy1 hy2 rfl (by omega) _ 0 [] rfl (World.ownsRow_made w #[] 0 (Nat.le_refl _) (Nat.zero_le _) rfl) (some ad) 0 (c - k) ((ss.drop k).map Value.string) rfl (cap_some (by omega)) (HD.out.alloc _) (strs_one _) (by unfold maxLen; omega) (by omega) (by simp) ?_
             intro v1 w2 hown2 hb2
             have hb12 := Below.step1 (Below.refl w.heap.size w) hb2 (Nat.le_refl _)
             have hz2 := hb12.size
             obtain ⟨X, q, rfl, hcX, hX⟩ := Sees.of_own hown2
             rw [List.nil_append, Nat.zero_add] at hX
             rw [Nat.zero_add] at hcX
             have HX := Lib.hid hX
             have HCX := Lib.hid hcX
             have HT2 := Lib.hid (HT.out.below hb12)
             clear hX hcX hown2)
          | (at_builtin
             refine wpList_app rfl (.tmp 39) (.tmp 42) _ rfl w2.heap.size 9 i0 _ 1 16 Try.underlying43 hy hy0 hy1 hy2 rfl (by omega) _ 0 [] rfl (World.ownsRow_made w2 #[] 0 (Nat.le_refl _) (Nat.zero_le _) rfl) (some ⟨b, off, none⟩) k c ((ss.take k).map Value.string) rfl (cap_some (by omega)) (HT2.out.alloc _) (strs_one _) (by unfold maxLen; omega) (by omega) (by simp) ?_
             intro v3 w3 hown3 hb3
             have hb23 := Below.step1 (Below.refl w2.heap.size w2) hb3 (Nat.le_refl _)
             have hz3 := hb23.size)
          | (at_builtin
             refine wpList_app rfl (.tmp 43) (.tmp 45) _ rfl w2.heap.size 9 i0 _ 1 16 Try.underlying43 hy hy0 hy1 hy2 rfl (by omega) v3 (0 + k) ([] ++ (ss.take k).map Value.string) rfl (hown3.alloc _) (some ⟨w3.heap.size, 0, none⟩) 1 1 [.string s] rfl (cap_some (by omega)) (Sees.one _ _ _) (by simp [Value.oneCell']) (by unfold maxLen; omega) (by omega) (by simp; omega) ?_
             intro v4 w4 hown4 hb4
             have hb24 := hb23.trans (Below.step1 (Below.refl w2.heap.size w3) hb4 hz3)
             have hz4 := hb24.size)
          | (at_builtin
             refine wpList_app rfl (.tmp 46) (.tmp 47) _ rfl w2.heap.size 9 i0 _ 1 16 Try.underlying43 hy hy0 hy1 hy2 rfl (by omega) v4 (0 + k + 1) ([] ++ (ss.take k).map Value.string ++ [.string s]) rfl hown4 X 0 q ((ss.drop k).map Value.string) rfl HCX.out (HX.out.below hb24) (strs_one _) (by unfold maxLen; omega) (by omega) (by omega) ?_
             intro v5 w5 hown5 hb5
             have hb25 := hb24.trans hb5))
        refine bodyPost_ret (by simp [results, Try.results41, go_sem]; try rfl) rfl ?_
        obtain ⟨Y, q', rfl, hcY, hY⟩ := Sees.of_own hown5
        rw [List.nil_append] at hY
        refine ⟨hb12.trans (hb25.mono hz2), Y, _, q', rfl, ?_, hcY, ?_⟩
        · rw [HP.out, List.length_append, List.length_append, List.length_take, List.length_drop, HL.out, List.length_singleton]
          omega
        · rw [HP.out, List.map_append, List.map_append]
          exact hY
end Go.Proofs.Try
