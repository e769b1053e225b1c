/- list.laid (stage 15). -/
import Derived.Test.YtgkiijpheigpjaaLq
namespace Go.Proofs.Try
open Go.RowKit
set_option linter.unusedVariables false
set_option linter.unusedSimpArgs false
theorem isL_step {l : List Int} {k : Nat} (hk : k < l.length) : isL (l.take (k + 1)) ↔ isL (l.take k) ∧ atZ l k ∉ l.take k ∧ 0 ≤ atZ l k ∧ atZ l k < 64 := by rw [takeZ_one hk, isL_snoc]
theorem isL_not {l : List Int} {k : Nat} (hk : k < l.length) (h : ¬(atZ l k ∉ l.take k ∧ 0 ≤ atZ l k ∧ atZ l k < 64)) : ¬isL l := fun hl => h ((isL_step hk).1 (isL_take hl (k + 1))).2
theorem nat_step {l : List Int} {k z : Nat} (hk : k < l.length) (hx : atZ l k = (z : Int)) : nat (l.take (k + 1)) = nat (l.take k) ++ [z] := by rw [takeZ_one hk, nat_snoc, hx]; rfl
theorem nat_take_len (l : List Int) (k : Nat) : (nat (l.take k)).length = min k l.length := by unfold nat; rw [List.length_map, List.length_take]
set_option maxRecDepth 100000 in
set_option maxHeartbeats 8000000 in
theorem laid_c (v : Value) (n : Nat) (l : List Int) (w : World) (h : Rows encZ 1 w v n l) :
    Calls Try.prog 54 #[v] w fun e w' => e = .returned (.tuple #[.agg (celV (lsC (laidF l))), .bool (decide (isL l))]) ∧ Below w.heap.size w w' := by
  obtain ⟨A, c, rfl, hc, hn, hl, hs⟩ := h
  have HL := Lib.hid hl
  have HH := Lib.hid hs
  clear hl hs hc
  have hzc := zero_cells
  go_enter Try.func54, Try.ntmps54
  go_wp2_with (first
    | (go_at_call 44; refine (new_c _).mono ?_; rintro e w1 ⟨rfl, hb1⟩)
    | (refine wpList_store_vbk rfl 55 (.tmp 4) (.tmp 7) rfl w1.heap.size 55 (lsC z0) (lsC (told [])) (by first | rfl | (simp [Act.eval]; done)) (by first | rfl | (simp [Act.eval]; done)) (by first | exact vbk.new' (by simp) | (rw [hzc]; exact vbk.new' (by simp))) (by rw [lsC_len, lsC_len]) (lsC_one _) (lsC_info _) ?_))
  have hz1 : w.heap.size < w1.heap.size := by have := hb1.size; simp at this; omega
  have HV := Lib.hid (show vbk ((w1.alloc (.cells (celV (lsC z0)) 55)).setRow w1.heap.size (celV (lsC (told [])))) w1.heap.size 55 (lsC (told [])) from (vbk.new' rfl).setRow _)
  have HU := Lib.hid (show vbk ((w1.alloc (.cells (celV (lsC z0)) 55)).setRow w1.heap.size (celV (lsC (told [])))) w.heap.size 55 (lsC z0) from (((vbk.new w _ _).below hb1).alloc _).otherRow (by omega) _)
  have HB := Lib.hid (show Below w.heap.size w ((w1.alloc (.cells (celV (lsC z0)) 55)).setRow w1.heap.size (celV (lsC (told [])))) from below_setRow ((((Below.refl _ _).alloc (Nat.le_refl _) _).trans (hb1.mono (by simp))).alloc (by omega) _) (by omega) _)
  clear hzc hb1
  obtain ⟨B, hB⟩ : ∃ B, B = w1.heap.size := ⟨_, rfl⟩
  rw [← hB] at HV HU HB hz1
  have HT0 := Lib.hid (show nat (l.take 0) = [] by rw [List.take_zero]; rfl)
  rw [← hB]
  clear hB
  go_loopw [10] (fun i wr => ∃ k : Nat, k ≤ n ∧ i = .int .i64 k ∧ Hid (isL (l.take k)) ∧ Hid (vbk wr B 55 (lsC (told (nat (l.take k))))) ∧ Hid (vbk wr w.heap.size 55 (lsC z0)) ∧ Hid (Below w.heap.size w wr)) (fun i _ => n - (intOf i).toNat)
  case atStart => exact ⟨0, by omega, rfl, Lib.hid (by rw [List.take_zero]; exact isL_nil), Lib.hid (by rw [HT0.out]; exact HV.out), HU, HB⟩
  case round =>
    clear HV HU HB HT0
    obtain ⟨k, hk, rfl, HK, H1, H2, HB⟩ := hrel
    have hy := H1.out.lt
    have hy2 := H2.out.lt
    have hbz := HB.out.size
    by_cases hlt : k < n
    · have hs := HH.out.below HB.out
      obtain ⟨b, off, rfl, hbl⟩ := Rows.some hs (by omega)
      have hkl : k < l.length := by rw [HL.out]; exact hlt
      have HKL := Lib.hid hkl
      have c0 := hs.elZ hkl
      have hlt' : (k : Int) < (n : Int) := by omega
      have HBL := Lib.hid hbl
      clear hs hkl hbl
      obtain ⟨x, hx⟩ : ∃ x, atZ l k = x := ⟨_, rfl⟩
      rw [hx] at c0
      have HXX := Lib.hid hx
      clear hx
      by_cases hr : 0 ≤ x ∧ x < 64
      · obtain ⟨z, rfl⟩ := Int.eq_ofNat_of_zero_le hr.1
        have hz : z < 64 := by omega
        have hz0 : (0 : Int) ≤ (z : Int) := by omega
        have hzl : (z : Int) < 64 := by omega
        have N1 := fun W => lnamed_yes (z : Int) hz0 hzl W
        have ci := H1.out.inn hz
        clear hr
        by_cases hm : z ∈ nat (l.take k)
        · have HD := Lib.hid (isL_not HKL.out (by rw [HXX.out]; exact fun h => h.1 ((mem_nat HK.out).1 hm)))
          rw [show (told (nat (l.take k))).inn z = true from decide_eq_true hm] at ci
          clear hm
          clear HXX
          go_wp2_with (first
            | (go_at_call 57; refine (N1 _).mono ?_; rintro e w5 ⟨rfl, rfl⟩)
            | (go_at_call 44; refine (new_c _).mono ?_; rintro e w5 ⟨rfl, hb5⟩; have H5 := Lib.hid (H2.out.below (hb5.mono (Nat.le_refl _))); have HB5 := Lib.hid (chain HB.out hb5); clear hb5)
            | (refine wpList_store_vbk rfl 55 (.tmp 2) (.tmp 23) rfl w.heap.size 55 (lsC z0) (lsC (told [])) (by first | rfl | (simp [Act.eval]; done)) (by first | rfl | (simp [Act.eval]; done)) H5.out (by rw [lsC_len, lsC_len]) (lsC_one _) (lsC_info _) ?_))
          refine bodyPost_ret (results_vbk2 rfl (by rfl) (v := .bool false) (by first | rfl | (simp; done)) (H5.out.setRow (lsC (told []))) Try.underlying55 rfl (lsC_info _)) rfl ⟨by rw [laidF_no HD.out, decide_eq_false HD.out], ?_⟩
          exact below_setRow HB5.out (Nat.le_refl _) _
        · rw [show (told (nat (l.take k))).inn z = false from decide_eq_false hm] at ci
          have HKN := Lib.hid ((isL_step HKL.out).2 ⟨HK.out, by rw [HXX.out]; exact fun h => hm ((mem_nat HK.out).2 h), by rw [HXX.out]; exact hz0, by rw [HXX.out]; exact hzl⟩)
          have HNS := Lib.hid (nat_step HKL.out HXX.out)
          have HMY := Lib.hid (may_nat HK.out)
          have HNM := Lib.hid hm
          clear hm HXX
          by_cases hk0 : nat (l.take k) = []
          · rw [hk0] at H1 HNS
            have HK0 := Lib.hid hk0
            clear hk0
            have fi := H1.out.frozen (128 + z)
            have ct : wr.cell? ⟨B, 193, none⟩ = some (.int .i64 (-1)) := H1.out.tlC
            have H1a := Lib.hid (H1.out.setIn hz true)
            have cp := H1a.out.pv hz
            have fp := H1a.out.frozen (64 + z)
            have H1b := Lib.hid (H1a.out.setPv hz (-1))
            have ct2 : ((wr.setCell ⟨B, 128 + z, none⟩ (.bool true)).setCell ⟨B, 64 + z, none⟩ (.int .i64 (-1))).cell? ⟨B, 193, none⟩ = some (.int .i64 (-1)) := H1b.out.tlC
            have ch := H1b.out.hdC
            have fh := H1b.out.frozen 192
            have H1c := Lib.hid (H1b.out.setHd (z : Int))
            have ct3 := H1c.out.tlC
            have ft := H1c.out.frozen 193
            have H1d := Lib.hid (H1c.out.setTl (z : Int))
            go_wp2_with (go_at_call 57; refine (N1 _).mono ?_; rintro e w5 ⟨rfl, rfl⟩)
            go_roundw
            case rel => exact ⟨k + 1, by omega, by go_num, HKN, Lib.hid (by rw [HNS.out, List.nil_append, told_one]; exact H1d.out), (((((H2.out.other (by simp; omega) _).other (by simp; omega) _).other (by simp; omega) _).other (by simp; omega) _) : vbk _ _ _ _) |> Lib.hid, Lib.hid ((((HB.out.setCell (by simp; omega) _).setCell (by simp; omega) _).setCell (by simp; omega) _).setCell (by simp; omega) _)⟩
            case measure => first | (simp [intOf]; done) | (simp [intOf]; omega)
          · obtain ⟨y, hym, hyt⟩ := tl_nat hk0
            have hy6 : y < 64 := HMY.out.2 y hym
            have HTS := Lib.hid (told_snoc HMY.out hk0 HNM.out)
            rw [hyt] at HTS
            have hyn : ((y : Int) == -1) = false := by rw [beq_eq_false_iff_ne]; omega
            have hy0 : (0 : Int) ≤ (y : Int) := by omega
            have hyl : (y : Int) < 64 := by omega
            have HYT := Lib.hid hyt
            clear hk0 hym hyt
            have fi := H1.out.frozen (128 + z)
            have ct : wr.cell? ⟨B, 193, none⟩ = some (.int .i64 (y : Int)) := by rw [← HYT.out]; exact H1.out.tlC
            have H1a := Lib.hid (H1.out.setIn hz true)
            have cp := H1a.out.pv hz
            have fp := H1a.out.frozen (64 + z)
            have H1b := Lib.hid (H1a.out.setPv hz (y : Int))
            have ct2 : ((wr.setCell ⟨B, 128 + z, none⟩ (.bool true)).setCell ⟨B, 64 + z, none⟩ (.int .i64 (y : Int))).cell? ⟨B, 193, none⟩ = some (.int .i64 (y : Int)) := by have h := H1b.out.tlC; rw [show (((told (nat (l.take k))).setIn z true).setPv z (y : Int)).tl = (y : Int) from HYT.out] at h; exact h
            have cn := H1b.out.nx hy6
            have fn := H1b.out.frozen y
            have H1c := Lib.hid (H1b.out.setNx hy6 (z : Int))
            have ct3 := H1c.out.tlC
            have ft := H1c.out.frozen 193
            have H1d := Lib.hid (H1c.out.setTl (z : Int))
            go_wp2_with (go_at_call 57; refine (N1 _).mono ?_; rintro e w5 ⟨rfl, rfl⟩)
            go_roundw
            case rel => exact ⟨k + 1, by omega, by go_num, HKN, Lib.hid (by rw [HNS.out, HTS.out]; exact H1d.out), (((((H2.out.other (by simp; omega) _).other (by simp; omega) _).other (by simp; omega) _).other (by simp; omega) _) : vbk _ _ _ _) |> Lib.hid, Lib.hid ((((HB.out.setCell (by simp; omega) _).setCell (by simp; omega) _).setCell (by simp; omega) _).setCell (by simp; omega) _)⟩
            case measure => first | (simp [intOf]; done) | (simp [intOf]; omega)
      · have N1 := fun W => lnamed_no x (by omega) W
        have HD := Lib.hid (isL_not HKL.out (by rw [HXX.out]; exact fun h => hr h.2))
        clear hr
        clear HXX
        go_wp2_with (first
          | (go_at_call 57; refine (N1 _).mono ?_; rintro e w5 ⟨rfl, rfl⟩)
          | (go_at_call 44; refine (new_c _).mono ?_; rintro e w5 ⟨rfl, hb5⟩; have H5 := Lib.hid (H2.out.below (hb5.mono (Nat.le_refl _))); have HB5 := Lib.hid (chain HB.out hb5); clear hb5)
          | (refine wpList_store_vbk rfl 55 (.tmp 2) (.tmp 23) rfl w.heap.size 55 (lsC z0) (lsC (told [])) (by first | rfl | (simp [Act.eval]; done)) (by first | rfl | (simp [Act.eval]; done)) H5.out (by rw [lsC_len, lsC_len]) (lsC_one _) (lsC_info _) ?_))
        refine bodyPost_ret (results_vbk2 rfl (by rfl) (v := .bool false) (by first | rfl | (simp; done)) (H5.out.setRow (lsC (told []))) Try.underlying55 rfl (lsC_info _)) rfl ⟨by rw [laidF_no HD.out, decide_eq_false HD.out], ?_⟩
        exact below_setRow HB5.out (Nat.le_refl _) _
    · have hke : k = n := by omega
      subst hke
      have HLF := Lib.hid (show isL l by have := HK.out; rwa [← HL.out, List.take_length] at this)
      have HTL := Lib.hid (show told (nat (l.take k)) = laidF l by rw [laidF_yes HLF.out, ← HL.out, List.take_length])
      rw [HTL.out] at H1
      go_wp2_with (first
        | (refine wpList_load_vbk rfl 55 (.tmp 4) rfl B 55 (lsC (laidF l)) (by first | rfl | (simp [Act.eval]; done)) H1.out _ Try.underlying55 rfl (lsC_info _) ?_)
        | (refine wpList_store_vbk rfl 55 (.tmp 2) (.tmp 45) rfl w.heap.size 55 (lsC z0) (lsC (laidF l)) (by first | rfl | (simp [Act.eval]; done)) (by first | rfl | (simp [Act.eval]; done)) H2.out (by rw [lsC_len, lsC_len]) (lsC_one _) (lsC_info _) ?_))
      refine bodyPost_ret (results_vbk2 rfl (by rfl) (v := .bool true) (by first | rfl | (simp; done)) (H2.out.setRow (lsC (laidF l))) Try.underlying55 rfl (lsC_info _)) rfl ⟨by rw [decide_eq_true HLF.out], ?_⟩
      exact below_setRow HB.out (Nat.le_refl _) _
end Go.Proofs.Try
