/- linhayref15.Told (stage 15). -/
import Derived.Test.YtgkiijpheigpjaaLx
namespace Go.Proofs.Try
open Go.RowKit
set_option linter.unusedVariables false
set_option linter.unusedSimpArgs false
theorem told_one' (x : Nat) : told [x] = { (told []).setIn x true with tl := (x : Int), hd := (x : Int) } := by
  unfold told Ls.setIn
  simp only [Ls.mk.injEq]
  refine ⟨?_, ?_, ?_, rfl, rfl⟩
  · funext j; simp [nxt]
  · funext j; simp [prv]
  · funext j; by_cases h : j = x <;> simp [h]
theorem told_snoc' {l : List Nat} (hm : mayL l) (hl : l ≠ []) {x : Nat} (hx : x ∉ l) : told (l ++ [x]) = (({ (told l).setIn x true with tl := (x : Int) } : Ls).setPv x (tlI l)).setNx (tlI l).toNat x := by
  rw [told_snoc hm hl hx]
  rfl
theorem vbk.drewN {W : World} {b : Nat} {T : TypeId} {l : List Value} (h : vbk W b T l) (m : Nat) : vbk (W.drewN m) b T l := h.below (Below_drewN (Below.refl _ _) m)
def atN (m : List Nat) (k : Nat) : Nat := m.getD k 0
theorem atZ_zs {m : List Nat} {k : Nat} (hk : k < m.length) : atZ (zs m) k = (atN m k : Int) := by
  unfold atZ zs atN
  simp [List.getD_eq_getElem?_getD, List.getElem?_map, List.getElem?_eq_getElem hk]
theorem takeN_one {l : List Nat} {k : Nat} (hk : k < l.length) : l.take (k + 1) = l.take k ++ [atN l k] := by
  rw [List.take_add_one, List.getElem?_eq_getElem hk]
  simp [atN, List.getD_eq_getElem?_getD, List.getElem?_eq_getElem hk]
theorem at_may {m : List Nat} (h : mayL m) {k : Nat} (hk : k < m.length) : mayL (m.take k) ∧ atN m k ∉ m.take k ∧ atN m k < 64 := by
  have := may_take h (k + 1)
  rw [takeN_one hk, may_snoc] at this
  exact this
theorem tl_take {m : List Nat} {k : Nat} (hk : k < m.length) (h0 : 0 < k) : tlI (m.take k) = (atN m (k - 1) : Int) := by
  have := takeN_one (l := m) (k := k - 1) (by omega)
  rw [show k - 1 + 1 = k by omega] at this
  rw [this, tl_snoc]
set_option maxRecDepth 100000 in
set_option maxHeartbeats 8000000 in
theorem told_c (v : Value) (n : Nat) (m : List Nat) (w : World) (hm : mayL m) (h : Rows encZ 1 w v n (zs m)) :
    Calls Try.prog 45 #[v] w fun e w' => e = .returned (.agg (celV (lsC (told m)))) ∧ Below w.heap.size w w' := by
  obtain ⟨A, c, rfl, hc, hn, hl, hs⟩ := h
  rw [zs_len] at hl
  have HL := Lib.hid hl
  have HH := Lib.hid hs
  have HM := Lib.hid hm
  clear hs hc hl hm
  have hzc := zero_cells
  have hzn := zero_new
  rw [nzL_zero] at hzn
  have hcs : (celV (lsC z0)).size = 194 := by rw [celV_size, lsC_len]
  go_enter Try.func45, Try.ntmps45
  go_wp2_with (refine wpList_store_vbk rfl 55 (.tmp 3) (.tmp 6) rfl (w.heap.size + 1) 55 (lsC z0) (lsC (nzL 0)) (by first | rfl | (simp [Act.eval]; done)) (by first | rfl | (simp [Act.eval]; done)) (by first | exact vbk.new' (by simp) | (rw [hzc]; exact vbk.new' (by simp))) (by rw [lsC_len, lsC_len]) (lsC_one _) (lsC_info _) ?_)
  have HV := Lib.hid (show vbk (((w.alloc (.cells (celV (lsC z0)) 55)).alloc (.cells (celV (lsC z0)) 55)).setRow (w.heap.size + 1) (celV (lsC (nzL 0)))) (w.heap.size + 1) 55 (lsC (nzL 0)) from (vbk.new' (by simp)).setRow _)
  have HU := Lib.hid (show vbk (((w.alloc (.cells (celV (lsC z0)) 55)).alloc (.cells (celV (lsC z0)) 55)).setRow (w.heap.size + 1) (celV (lsC (nzL 0)))) w.heap.size 55 (lsC z0) from ((vbk.new w _ _).alloc _).otherRow (by omega) _)
  have HB := Lib.hid (show Below w.heap.size w (((w.alloc (.cells (celV (lsC z0)) 55)).alloc (.cells (celV (lsC z0)) 55)).setRow (w.heap.size + 1) (celV (lsC (nzL 0)))) from below_setRow (((Below.refl _ _).alloc (Nat.le_refl _) _).alloc (by simp) _) (by omega) _)
  clear hzc hzn hcs
  go_loopw [4] (fun i wr => ∃ k : Nat, k ≤ 64 ∧ i = .int .i64 k ∧ Hid (vbk wr (w.heap.size + 1) 55 (lsC (nzL k))) ∧ Hid (vbk wr w.heap.size 55 (lsC z0)) ∧ Hid (Below w.heap.size w wr)) (fun i _ => 64 - (intOf i).toNat)
  case atStart => exact ⟨0, by omega, rfl, HV, HU, HB⟩
  case round =>
    clear HV HU HB
    obtain ⟨k, hk, rfl, H1, H2, HB⟩ := hrel
    have hy := H1.out.lt
    have hy2 := H2.out.lt
    by_cases hlt : k < 64
    · have hlt' : (k : Int) < 64 := by omega
      have c0 := H1.out.nx hlt
      have f0 := H1.out.frozen k
      have H1a := Lib.hid (H1.out.set k (.int .i64 (-1)))
      have c1 := H1a.out.cell (k := 64 + k) (by rw [List.length_set, lsC_len]; omega)
      have f1 := H1a.out.frozen (64 + k)
      have H1b := Lib.hid (H1a.out.set (64 + k) (.int .i64 (-1)))
      have H2b := Lib.hid ((H2.out.other (a := ⟨w.heap.size + 1, k, none⟩) (by simp) (.int .i64 (-1))).other (a := ⟨w.heap.size + 1, 64 + k, none⟩) (by simp) (.int .i64 (-1)))
      have HMM := Lib.hid (nz_cells k hlt)
      have HBB := Lib.hid (show Below w.heap.size w ((wr.setCell ⟨w.heap.size + 1, k, none⟩ (.int .i64 (-1))).setCell ⟨w.heap.size + 1, 64 + k, none⟩ (.int .i64 (-1))) from (HB.out.setCell (by simp) _).setCell (by simp) _)
      go_wp2_with fail
      go_roundw
      case rel => exact ⟨k + 1, by omega, by go_num, Lib.hid (by rw [← HMM.out]; exact H1b.out), H2b, HBB⟩
      case measure => first | (simp [intOf]; done) | (simp [intOf]; omega)
    · obtain rfl : k = 64 := by omega
      have H1s := Lib.hid (show vbk wr (w.heap.size + 1) 55 (lsC (told (m.take 0))) by rw [List.take_zero, ← nzL_all]; exact H1.out)
      clear H1
      obtain ⟨V, hV⟩ : ∃ V, V = wr := ⟨_, rfl⟩
      subst hV
      go_wp2_with fail
      go_loopw [5] (fun i wr => ∃ k : Nat, k ≤ n ∧ i = .int .i64 k ∧ Hid (vbk wr (w.heap.size + 1) 55 (lsC (told (m.take k)))) ∧ Hid (vbk wr w.heap.size 55 (lsC z0)) ∧ Hid (Below w.heap.size w wr)) (fun i _ => n - (intOf i).toNat)
      case atStart => exact ⟨0, by omega, rfl, H1s, H2, HB⟩
      case round =>
        clear H1s H2 HB hy hy2
        obtain ⟨k, hk, rfl, H1, H2, HB⟩ := hrel
        have hy := H1.out.lt
        have hy2 := H2.out.lt
        by_cases hlt : k < n
        · have hlt' : (k : Int) < (n : Int) := by omega
          obtain ⟨b, off, rfl, hbl⟩ := Rows.some HH.out (by omega)
          have hkl : k < m.length := by rw [HL.out]; exact hlt
          obtain ⟨hmk, hzn, hz⟩ := at_may HM.out hkl
          have HC : Hid (∀ W, Below w.heap.size w W → ∀ j, j < n → W.cell? ⟨b, off + j, none⟩ = some (.int .i64 (atN m j : Int))) := Lib.hid (fun W hb j hj => by
            have := (HH.out.below hb).elZ (j := j) (by rw [zs_len, HL.out]; exact hj)
            rwa [atZ_zs (by rw [HL.out]; exact hj)] at this)
          have HT := Lib.hid (takeN_one hkl)
          obtain ⟨z, hzz⟩ : ∃ z, atN m k = z := ⟨_, rfl⟩
          rw [hzz] at hzn hz HT
          have hz0 : (0 : Int) ≤ (z : Int) := by omega
          have hzl : (z : Int) < 64 := by omega
          have HZZ := Lib.hid hzz
          have c0 := HC.out wr HB.out k hlt
          rw [hzz] at c0
          have ci := H1.out.inn hz
          have fi := H1.out.frozen (128 + z)
          have H1a := Lib.hid (H1.out.setIn hz true)
          have HBa := Lib.hid (show Below w.heap.size w (wr.setCell ⟨w.heap.size + 1, 128 + z, none⟩ (.bool true)) from HB.out.setCell (by simp) _)
          have c1 := HC.out _ HBa.out k hlt
          rw [hzz] at c1
          have ct := H1a.out.tlC
          have ft := H1a.out.frozen 193
          have H1b := Lib.hid (H1a.out.setTl (z : Int))
          have HBb := Lib.hid (show Below w.heap.size w ((wr.setCell ⟨w.heap.size + 1, 128 + z, none⟩ (.bool true)).setCell ⟨w.heap.size + 1, 193, none⟩ (.int .i64 (z : Int))) from HBa.out.setCell (by simp) _)
          have H2b := Lib.hid ((H2.out.other (a := ⟨w.heap.size + 1, 128 + z, none⟩) (by simp) (.bool true)).other (a := ⟨w.heap.size + 1, 193, none⟩) (by simp) (.int .i64 (z : Int)))
          have c2 := HC.out _ HBb.out k hlt
          rw [hzz] at c2
          clear hzz
          by_cases hk0 : k = 0
          · subst hk0
            simp only [Nat.add_zero] at c0 c1 c2
            have ch := H1b.out.hdC
            have fh := H1b.out.frozen 192
            have H1c := Lib.hid (H1b.out.setHd (z : Int))
            have HE := Lib.hid (show told (m.take (0 + 1)) = { (told (m.take 0)).setIn z true with tl := (z : Int), hd := (z : Int) } by rw [HT.out, List.take_zero]; exact told_one' z)
            have H2c := Lib.hid (H2b.out.other (a := ⟨w.heap.size + 1, 192, none⟩) (by simp) (.int .i64 (z : Int)))
            have HBc := Lib.hid (HBb.out.setCell (p := ⟨w.heap.size + 1, 192, none⟩) (by simp) (.int .i64 (z : Int)))
            clear HT hmk hzn hkl
            go_wp2_with fail
            go_roundw
            case rel => exact ⟨0 + 1, by omega, by go_num, Lib.hid (by rw [HE.out]; exact H1c.out), H2c, HBc⟩
            case measure => first | (simp [intOf]; done) | (simp [intOf]; omega)
          · have hy1 : m.take k ≠ [] := by intro e; have := congrArg List.length e; rw [List.length_take] at this; simp only [List.length_nil] at this; omega
            have HTT := Lib.hid (tl_take hkl (by omega))
            have HE := Lib.hid (told_snoc' hmk hy1 hzn)
            rw [← HT.out, HTT.out, Int.toNat_natCast] at HE
            have hyy := (at_may HM.out (k := k - 1) (by omega)).2.2
            have d2 := HC.out _ HBb.out (k - 1) (by omega)
            obtain ⟨y, hyz⟩ : ∃ y, atN m (k - 1) = y := ⟨_, rfl⟩
            rw [hyz] at hyy d2 HE
            have HYZ := Lib.hid hyz
            have hyy0 : (0 : Int) ≤ (y : Int) := by omega
            have hyyl : (y : Int) < 64 := by omega
            have hkz : ((k : Int) == 0) = false := by rw [beq_eq_false_iff_ne]; omega
            have hk1 : (k : Int) - 1 = ((k - 1 : Nat) : Int) := by omega
            have hkl1 : ((k - 1 : Nat) : Int) < (n : Int) := by omega
            have HYL := Lib.hid hyy
            have HZL := Lib.hid hz
            have HNN := Lib.hid hlt
            clear hyz hy1 hkl hmk hzn HT
            go_wp2_with fail
            refine region_quiet_tail 11 (by kernel_rfl) (by kernel_rfl) ?_
            simp only [List.take_succ_cons, List.take_zero, List.drop_succ_cons, List.drop_zero]
            repeat (go_big_quiet_step (fail))
            refine wpQuiet_nil ?_
            intro q1
            have H1q := Lib.hid (H1b.out.drewN q1)
            have HBq := Lib.hid (Below_drewN HBb.out q1)
            have H2q := Lib.hid (H2b.out.drewN q1)
            obtain ⟨V1, hV1⟩ : ∃ V1, ((wr.setCell ⟨w.heap.size + 1, 128 + z, none⟩ (.bool true)).setCell ⟨w.heap.size + 1, 193, none⟩ (.int .i64 (z : Int))).drewN q1 = V1 := ⟨_, rfl⟩
            rw [hV1] at H1q HBq H2q ⊢
            clear hV1
            have cp := H1q.out.pv HZL.out
            have fp := H1q.out.frozen (64 + z)
            have H1c := Lib.hid (H1q.out.setPv HZL.out (y : Int))
            have HBc := Lib.hid (show Below w.heap.size w (V1.setCell ⟨w.heap.size + 1, 64 + z, none⟩ (.int .i64 (y : Int))) from HBq.out.setCell (by simp) _)
            have H2c := Lib.hid (H2q.out.other (a := ⟨w.heap.size + 1, 64 + z, none⟩) (by simp) (.int .i64 (y : Int)))
            have c3 := HC.out _ HBc.out k HNN.out
            have d3 := HC.out _ HBc.out (k - 1) (by omega)
            rw [HZZ.out] at c3
            rw [HYZ.out] at d3
            go_wp2_with fail
            refine region_quiet_tail 11 (by kernel_rfl) (by kernel_rfl) ?_
            simp only [List.take_succ_cons, List.take_zero, List.drop_succ_cons, List.drop_zero]
            repeat (go_big_quiet_step (fail))
            refine wpQuiet_nil ?_
            intro q2
            have H1d := Lib.hid (H1c.out.drewN q2)
            have HBd := Lib.hid (Below_drewN HBc.out q2)
            have H2d := Lib.hid (H2c.out.drewN q2)
            obtain ⟨V2, hV2⟩ : ∃ V2, (V1.setCell ⟨w.heap.size + 1, 64 + z, none⟩ (.int .i64 (y : Int))).drewN q2 = V2 := ⟨_, rfl⟩
            rw [hV2] at H1d HBd H2d ⊢
            clear hV2
            have cx := H1d.out.nx HYL.out
            have fx := H1d.out.frozen y
            have H1e := Lib.hid (H1d.out.setNx HYL.out (z : Int))
            have HBe := Lib.hid (show Below w.heap.size w (V2.setCell ⟨w.heap.size + 1, y, none⟩ (.int .i64 (z : Int))) from HBd.out.setCell (by simp) _)
            have H2e := Lib.hid (H2d.out.other (a := ⟨w.heap.size + 1, y, none⟩) (by simp) (.int .i64 (z : Int)))
            go_wp2_with fail
            refine ⟨?_, ?measure⟩
            · repeat apply Exists.intro
              refine ⟨?_, rfl⟩
              exact ⟨k + 1, by omega, by go_num, Lib.hid (by rw [HE.out]; exact H1e.out), H2e, HBe⟩
            case measure => first | (simp [intOf]; done) | (simp [intOf]; omega)
        · have hke : k = n := by omega
          subst hke
          have HE := Lib.hid (show m.take k = m by rw [← HL.out, List.take_length])
          rw [HE.out] at H1
          go_wp2_with (first
            | (refine wpList_load_vbk rfl 55 (.tmp 3) rfl (w.heap.size + 1) 55 (lsC (told m)) (by first | rfl | (simp [Act.eval]; done)) H1.out _ Try.underlying55 rfl (lsC_info _) ?_)
            | (refine wpList_store_vbk rfl 55 (.tmp 2) (.tmp 63) rfl w.heap.size 55 (lsC z0) (lsC (told m)) (by first | rfl | (simp [Act.eval]; done)) (by first | rfl | (simp [Act.eval]; done)) H2.out (by rw [lsC_len, lsC_len]) (lsC_one _) (lsC_info _) ?_))
          refine bodyPost_ret (results_vbk rfl (by rfl) (H2.out.setRow (lsC (told m))) Try.underlying55 rfl (lsC_info _)) rfl ⟨rfl, ?_⟩
          exact below_setRow HB.out (by omega) _
end Go.Proofs.Try
