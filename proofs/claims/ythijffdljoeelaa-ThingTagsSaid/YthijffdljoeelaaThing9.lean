/- linhayref09.Tags: the walk. -/
import Derived.Test.YthijffdljoeelaaThing8
import Derived.Test.YthijffdljoeelaaL9c
namespace Go.Proofs.Try
open Go.RowKit Go.Maps Go.Sort
set_option linter.unusedVariables false
theorem putL_pos (l : List ByteArray) (s : ByteArray) : 1 ≤ (putL l s).length := List.length_pos_of_mem ((putL_mem l s s).2 (.inr rfl))
theorem risen_le (ss : List ByteArray) : (risen ss).length ≤ ss.length := by rw [risen_len]; exact dd_le ss

set_option maxRecDepth 100000 in
set_option maxHeartbeats 1000000 in
theorem rtags_c (A : Option Addr) (n c : Nat) (ss : List ByteArray) (w : World) (h : Sees w 1 A n (ss.map Value.string)) (hn : n ≤ 1000) :
    Calls Try.prog 28 #[.slice A n c] w (TagsR ss w) := by
  have HL := Lib.hid (show ss.length = n by have := h.1; simpa using this)
  have HS := Lib.hid h
  clear h
  go_enter Try.func28, Try.ntmps28
  go_wp2_with fail
  go_loopw [4, 5] (fun o i wr => ∃ (k : Nat) (B : Option Addr) (q d : Nat), k ≤ n ∧ i = .int .i64 k ∧ o = .slice B q d ∧ (risen (ss.take k)).length = q ∧ CapOk B q d ∧ Sees wr 1 B q ((risen (ss.take k)).map Value.string) ∧ (q = 0 → B = none) ∧ (∀ s ∈ ss.take k, 1 ≤ s.size ∧ s.size ≤ 8) ∧ Below w.heap.size w wr) (fun _ i _ => n - (intOf i).toNat)
  case atStart => exact ⟨0, none, 0, 0, by omega, rfl, rfl, rfl, cap_none, Sees.empty _ _ _, fun _ => rfl, by simp, Below.refl _ _⟩
  case round =>
    obtain ⟨k, B, q, d, hk, rfl, rfl, hq, hcap, hse, hB, hg, hb⟩ := hrel
    have HQ := Lib.hid hq
    have HC := Lib.hid hcap
    have HE := Lib.hid hse
    have HBB := Lib.hid hB
    have HG := Lib.hid hg
    have HB := Lib.hid hb
    have hzr := hb.size
    have hql : q ≤ 1000 := by
      have h1 := risen_le (ss.take k)
      have h2 : (ss.take k).length ≤ n := by rw [List.length_take]; omega
      omega
    clear hq hcap hse hB hg hb
    by_cases hlt : k < n
    · have hsw := HS.out.below HB.out
      obtain ⟨b, off, rfl, hbz, hxx⟩ := hsw.2.resolve_left (by omega)
      have hcell := hsw.text hlt
      have hmem := getD_mem ss k ⟨#[]⟩ (by have := HL.out; omega)
      have htk := take_more ss k ⟨#[]⟩ (by have := HL.out; omega)
      clear hxx hsw
      obtain ⟨s, hs⟩ : ∃ s, ss.getD k ⟨#[]⟩ = s := ⟨_, rfl⟩
      rw [hs] at hcell htk hmem
      have HTK := Lib.hid htk
      have HM := Lib.hid hmem
      clear htk hmem hs
      by_cases g0 : s.size = 0
      · have e0 : ((s.size : Int) == 0) = true := by rw [beq_iff_eq]; omega
        have HN := Lib.hid (show ¬ good ss from fun h => by have := (h.1 s HM.out).1; omega)
        clear g0
        go_wp2_with fail
        refine bodyPost_ret (by simp [results, Try.results28, go_sem]; try rfl) rfl ?_
        exact ⟨HB.out, fun h => absurd h HN.out, fun _ => rfl⟩
      · have e0 : ((s.size : Int) == 0) = false := by rw [beq_eq_false_iff_ne]; omega
        by_cases g8 : 8 < s.size
        · have e8 : (8 : Int) < s.size := by omega
          have HN := Lib.hid (show ¬ good ss from fun h => by have := (h.1 s HM.out).2; omega)
          clear g0 g8
          go_wp2_with fail
          refine bodyPost_ret (by simp [results, Try.results28, go_sem]; try rfl) rfl ?_
          exact ⟨HB.out, fun h => absurd h HN.out, fun _ => rfl⟩
        · have e8 : decide ((8 : Int) < s.size) = false := by simp; omega
          have HZ : Hid (1 ≤ s.size ∧ s.size ≤ 8) := Lib.hid ⟨by omega, by omega⟩
          clear g0 g8
          go_wp2_with fail
          refine (put_c B q d (risen (ss.take k)) s _ HE.out HC.out hql HBB.out).mono ?_
          rintro e w2 ⟨hb2, B', q', d', rfl, hq', hc', hs'⟩
          have HQ' := Lib.hid hq'
          have HC' := Lib.hid hc'
          have HS' := Lib.hid hs'
          clear hq' hc' hs'
          go_wp2_with fail
          go_roundw
          case rel =>
            refine ⟨k + 1, B', q', d', by omega, by go_num, rfl, by rw [HTK.out, risen_snoc]; exact HQ'.out, HC'.out, by rw [HTK.out, risen_snoc]; exact HS'.out, ?_, ?_, HB.out.trans (hb2.mono hzr)⟩
            · intro h
              have := putL_pos (risen (ss.take k)) s
              have := HQ'.out
              omega
            · intro x hx
              rw [HTK.out] at hx
              rcases List.mem_append.1 hx with hx | hx
              · exact HG.out x hx
              · rw [List.mem_singleton] at hx
                subst hx
                exact HZ.out
          case measure => simp [intOf]; omega
    · have hke : n = k := by omega
      have HT := Lib.hid (show ss.take k = ss by rw [← hke, ← HL.out, List.take_length])
      have HG2 := Lib.hid (show ∀ s ∈ ss, 1 ≤ s.size ∧ s.size ≤ 8 by have := HG.out; rwa [HT.out] at this)
      have HQ2 := Lib.hid (show (risen ss).length = q by have := HQ.out; rwa [HT.out] at this)
      have HE2 := Lib.hid (show Sees wr 1 B q ((risen ss).map Value.string) by have := HE.out; rwa [HT.out] at this)
      clear HG HQ HE HT
      subst hke
      by_cases h3 : q ≤ 3
      · have e3 : decide ((3 : Int) < q) = false := by simp; omega
        have HX := Lib.hid h3
        clear h3
        go_wp2_with fail
        refine bodyPost_ret (by simp [results, Try.results28, go_sem]; try rfl) rfl ?_
        refine ⟨HB.out, fun _ => ⟨B, q, d, rfl, by rw [tagsL_risen, List.length_map]; exact HQ2.out, HC.out, by rw [risen_enc]; exact HE2.out⟩, fun h => absurd ⟨HG2.out, ?_⟩ h⟩
        rw [← risen_len, HQ2.out]
        exact HX.out
      · have e3 : (3 : Int) < q := by omega
        have HX := Lib.hid h3
        clear h3
        go_wp2_with fail
        refine bodyPost_ret (by simp [results, Try.results28, go_sem]; try rfl) rfl ?_
        refine ⟨HB.out, fun h => absurd h.2 ?_, fun _ => rfl⟩
        rw [← risen_len, HQ2.out]
        exact HX.out
end Go.Proofs.Try
