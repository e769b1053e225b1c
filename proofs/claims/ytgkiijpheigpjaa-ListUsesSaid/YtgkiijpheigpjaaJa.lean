/- linhayref15: Of, Without (stage 15). -/
import Derived.Test.YtgkiijpheigpjaaLy
namespace Go.Proofs.Try
open Go.RowKit
set_option linter.unusedVariables false
set_option linter.unusedSimpArgs false
set_option maxRecDepth 100000 in
set_option maxHeartbeats 4000000 in
theorem rof_c (v : Value) (n : Nat) (l : List Int) (w : World) (h : Rows encZ 1 w v n l) :
    Calls Try.prog 34 #[v] w fun e w' => e = .returned (.tuple #[.agg (celV (lsC (laidF l))), .int .i64 (errL l)]) ∧ Below w.heap.size w w' := by
  have hzc := zero_cells
  have HH := Lib.hid h
  have MC := fun W (hb : Below w.heap.size w W) => may_c v n l W (HH.out.below hb)
  obtain ⟨A, c, rfl, _⟩ := h
  have HR0 := Lib.hid (vbk.new w (lsC z0) 55)
  by_cases hi : isL l
  · rw [decide_eq_true hi] at MC
    have HE := Lib.hid (errL_yes hi)
    have HLF := Lib.hid (laidF_yes hi)
    have TC := fun W (hb : Below w.heap.size w W) => told_c (.slice A n c) n (nat l) W (may_nat hi) (by rw [zs_nat hi]; exact HH.out.below hb)
    clear hi
    go_enter Try.func34, Try.ntmps34
    go_wp2_with (first
      | (go_at_call 55; refine (MC _ (chain1 (Below.refl _ _) _)).mono ?_; rintro e w1 ⟨rfl, hb1⟩)
      | (go_at_call 45; refine (TC _ (chain2 (Below.refl _ _) hb1)).mono ?_; rintro e w2 ⟨rfl, hb2⟩; have HR2 := Lib.hid ((HR0.out.below hb1).below hb2))
      | (refine wpList_store_vbk rfl 55 (.tmp 2) (.tmp 11) rfl w.heap.size 55 (lsC z0) (lsC (told (nat l))) (by first | rfl | (simp [Act.eval]; done)) (by first | rfl | (simp [Act.eval]; done)) HR2.out (by rw [lsC_len, lsC_len]) (lsC_one _) (lsC_info _) ?_))
    refine bodyPost_ret (results_vbk2 rfl (by rfl) (v := .int .i64 0) (by first | rfl | (simp; done)) (HR2.out.setRow (lsC (told (nat l)))) Try.underlying55 rfl (lsC_info _)) rfl ⟨by rw [HE.out, HLF.out], ?_⟩
    exact below_setRow (chain (chain2 (Below.refl _ _) hb1) hb2) (Nat.le_refl _) _
  · rw [decide_eq_false hi] at MC
    have HE := Lib.hid (errL_no hi)
    have HLF := Lib.hid (laidF_no hi)
    have TC := fun W => told_c (.slice none 0 0) 0 [] W may_nil (Rows.nil _ _ _)
    clear hi
    go_enter Try.func34, Try.ntmps34
    go_wp2_with (first
      | (go_at_call 55; refine (MC _ (chain1 (Below.refl _ _) _)).mono ?_; rintro e w1 ⟨rfl, hb1⟩)
      | (go_at_call 45; refine (TC _).mono ?_; rintro e w2 ⟨rfl, hb2⟩; have HR2 := Lib.hid ((HR0.out.below hb1).below hb2))
      | (refine wpList_store_vbk rfl 55 (.tmp 2) (.tmp 9) rfl w.heap.size 55 (lsC z0) (lsC (told [])) (by first | rfl | (simp [Act.eval]; done)) (by first | rfl | (simp [Act.eval]; done)) HR2.out (by rw [lsC_len, lsC_len]) (lsC_one _) (lsC_info _) ?_))
    refine bodyPost_ret (results_vbk2 rfl (by rfl) (v := .int .i64 110) (by first | rfl | (simp; done)) (HR2.out.setRow (lsC (told []))) Try.underlying55 rfl (lsC_info _)) rfl ⟨by rw [HE.out, HLF.out], ?_⟩
    exact below_setRow (chain (chain2 (Below.refl _ _) hb1) hb2) (Nat.le_refl _) _
theorem woZ_one (l : List Int) (k : Nat) (hk : k < l.length) (z : Int) : woZ (l.take (k + 1)) z = woZ (l.take k) z ++ (if atZ l k = z then [] else [atZ l k]) := by
  rw [takeZ_one hk]
  unfold woZ
  rw [List.filter_append]
  congr 1
  by_cases h : atZ l k = z
  · simp [h]
  · simp [h]
theorem flat_appZ (a b : List Int) : flat encZ (a ++ b) = flat encZ a ++ flat encZ b := flat_app a b
set_option maxRecDepth 100000 in
set_option maxHeartbeats 4000000 in
theorem rwithout_c (v : Value) (n : Nat) (l : List Int) (z : Int) (hn : n ≤ 1000) (w : World) (h : Rows encZ 1 w v n l) :
    Calls Try.prog 59 #[v, .int .i64 z] w fun e w' => (∃ v', e = .returned v' ∧ Rows encZ 1 w' v' (woZ l z).length (woZ l z)) ∧ Below w.heap.size w w' := by
  obtain ⟨i0, hi, hq0, hq1, hq2⟩ := info_parts int_info
  obtain ⟨A, c, rfl, hc, _, hl, hs⟩ := h
  have HL := Lib.hid hl
  have HH := Lib.hid hs
  have hwl := woZ_len l z
  rw [hl] at hwl
  clear hl hs hc
  go_enter Try.func59, Try.ntmps59
  go_wp2_with fail
  go_loopw [5, 6] (fun v i wr => ∃ k m : Nat, k ≤ n ∧ m ≤ k ∧ i = .int .i64 k ∧ Hid ((woZ (l.take k) z).length = m) ∧ Hid (wr.ownsRow w.heap.size 3 1 v m (flat encZ (woZ (l.take k) z))) ∧ Hid (Below w.heap.size w wr)) (fun _ i _ => n - (intOf i).toNat)
  case atStart => exact ⟨0, 0, by omega, by omega, rfl, Lib.hid rfl, Lib.hid (World.ownsRow_nil _ _ _ _), Lib.hid (Below.refl _ _)⟩
  case round =>
    obtain ⟨k, m, hk, hm, rfl, HM, HO, HB⟩ := hrel
    by_cases hlt : k < n
    · have hs := HH.out.below HB.out
      obtain ⟨b, off, rfl, hbl⟩ := Rows.some hs (by omega)
      have hkl : k < l.length := by rw [HL.out]; exact hlt
      have s0 := hs.elZ hkl
      have hlt' : (k : Int) < (n : Int) := by omega
      have HW := Lib.hid (woZ_one l k hkl z)
      have hbz := HB.out.size
      clear hs hkl
      by_cases he : atZ l k = z
      · have hne : (atZ l k != z) = false := by simp [he]
        have HW2 := Lib.hid (show woZ (l.take (k + 1)) z = woZ (l.take k) z by rw [HW.out, if_pos he]; simp)
        clear he
        generalize atZ l k = y0 at *
        go_wp2_with fail
        go_roundw
        case rel => exact ⟨k + 1, m, by omega, by omega, by go_num, Lib.hid (by rw [HW2.out]; exact HM.out), Lib.hid (by rw [HW2.out]; exact HO.out), HB⟩
        case measure => first | (simp [intOf]; done) | (simp [intOf]; omega)
      · have hne : (atZ l k != z) = true := by simp [he]
        obtain ⟨y0, hy0⟩ : ∃ x, atZ l k = x := ⟨_, rfl⟩
        have HW2 := Lib.hid (show woZ (l.take (k + 1)) z = woZ (l.take k) z ++ [y0] by rw [HW.out, if_neg he, ← hy0])
        rw [hy0] at s0 hne
        clear he hy0 HW
        go_wp2_with (at_builtin
                     go_loud (refine wpList_app rfl (.tmp 19) (.tmp 24) _ rfl w.heap.size 3 i0 _ 1 8 Try.underlying51 hi hq0 hq1 hq2 rfl (by omega) u5 m (flat encZ (woZ (l.take k) z)) rfl (HO.out.alloc _) (some ⟨wr.heap.size, 0, none⟩) 1 1 [.int .i64 y0] (by first | rfl | (simp [Act.eval]; done)) (cap_some (by omega)) (by have := sees_blk wr #[.int .i64 y0] 3 1 1 rfl; simpa using this) (by simp [Value.oneCell']) (by unfold maxLen; omega) (by omega) (by simp; omega) ?_
                              intro v4 w4 hown4 hb4))
        have HO4 := Lib.hid hown4
        have HB4 := Lib.hid (Below.step1 HB.out hb4 hbz)
        clear hown4 hb4
        go_roundw
        case rel => exact ⟨k + 1, m + 1, by omega, by omega, by go_num, Lib.hid (by rw [HW2.out, List.length_append, HM.out]; rfl), Lib.hid (by rw [HW2.out, flat_snocZ]; exact HO4.out), HB4⟩
        case measure => first | (simp [intOf]; done) | (simp [intOf]; omega)
    · have hke : k = n := by omega
      subst hke
      have HT := Lib.hid (show l.take k = l by rw [← HL.out, List.take_length])
      go_wp2_with fail
      go_ret
      refine ⟨⟨_, rfl, ?_⟩, HB.out⟩
      have := HO.out
      have h2 := HM.out
      rw [HT.out] at this h2
      rw [h2]
      exact Rows.of_own this h2 (by omega)
end Go.Proofs.Try
