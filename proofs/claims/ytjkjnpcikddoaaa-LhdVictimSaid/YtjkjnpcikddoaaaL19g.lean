/- The walk of LhdVictim: someone goes. -/
import Derived.Test.YtjkjnpcikddoaaaL19f
namespace Go.Proofs.Try
open Go.RowKit
set_option linter.unusedVariables false
set_option linter.unusedSimpArgs false
set_option maxRecDepth 100000 in
set_option maxHeartbeats 4000000 in
theorem vic_true (l : List Nat) (hl : Rk l) (A1 A2 A3 : Option Addr) (n1 n2 n3 c1 c2 c3 : Nat) (ages : List Int) (sizes : List Nat) (some_ : List Int) (hn1 : n1 ≤ 100) (hn2 : n2 ≤ 100) (hn3 : n3 ≤ 100) (hsz : ∀ k, sizes.getD k 0 < 18446744073709551616)
    (a : Nat) (hf : lstS (vsI (vrL l ages sizes some_)) n3 = (a, true)) (w : World)
    (h1 : Sees w 1 A1 n1 (ages.map (Value.int .i64))) (h2 : Sees w 1 A2 n2 (sizes.map fun (n : Nat) => Value.int .u64 (n : Int))) (h3 : Sees w 1 A3 n3 (some_.map (Value.int .i64))) :
    Calls Try.prog 12 #[.agg (u64V l), .slice A1 n1 c1, .slice A2 n2 c2, .slice A3 n3 c3] w fun e w' => e = .returned (.bool true) ∧ Below w.heap.size w w' := by
  have L1 := Lib.hid (show ages.length = n1 from h1.len)
  have L2 := Lib.hid (show sizes.length = n2 by have := h2.1; simpa using this)
  have L3 := Lib.hid (show some_.length = n3 from h3.len)
  obtain ⟨han, hva, hvy⟩ := vic_yes l ages sizes some_ hsz a (by rw [L3.out]; exact hf)
  obtain ⟨⟨g1, g2, g3⟩, hvr⟩ := vr_ok l ages sizes _ hva
  rw [L3.out] at han
  rw [L1.out] at g2
  rw [L2.out] at g3
  have HVy := Lib.hid (show ∀ k, k < n3 → _ from fun k hk => hvy k (by rw [L3.out]; exact hk))
  obtain ⟨r, hr⟩ := Int.eq_ofNat_of_zero_le g1
  have HRa := Lib.hid hr
  rw [hr, Int.toNat_natCast] at hvr
  rw [hr] at hva g2 g3
  simp only [hr] at HVy
  have HVa := Lib.hid hva
  have HValR := Lib.hid hvr
  have HSN := Lib.hid (show sizes.getD r 0 ≠ 0 by have := hva; rw [hvr] at this; exact this)
  have hr1 : r < n1 := by omega
  have hr2 : r < n2 := by omega
  clear hvy hva hvr g1 g2 g3
  have H1 := Lib.hid h1
  have H2 := Lib.hid h2
  have H3 := Lib.hid h3
  have HSZ := Lib.hid hsz
  have HRk := Lib.hid hl
  have HI := Lib.hid (rk_info hl)
  have qn1 : decide (100 < (n1 : Int)) = false := by simp; omega
  have qn2 : decide (100 < (n2 : Int)) = false := by simp; omega
  have qn3 : decide (100 < (n3 : Int)) = false := by simp; omega
  have VC := fun W => victim_c l hl A1 A2 A3 n1 n2 n3 c1 c2 c3 ages sizes some_ (by omega) (by omega) (by omega) hsz a true hf (fun _ => han) (r : Int) (by rw [if_pos rfl]; exact hr) W
  clear h1 h2 h3 hsz hl hf
  clear hr
  go_enter Try.func12, Try.ntmps12
  have Br := Lib.hid (blk.new w l 49)
  have yr := Br.out.lt
  have HBW := Lib.hid ((Below.refl w.heap.size w).alloc (Nat.le_refl _) (.cells (u64V l) 49))
  go_wp2_with fail
  with_reducible refine (awake19 _).mono ?_
  rintro e w1 ⟨rfl, hb1⟩
  dsimp only
  replace HBW := Lib.hid (chain HBW.out hb1)
  replace Br := Lib.hid (Br.out.below hb1)
  replace yr := Br.out.lt
  clear hb1
  go_wp2_with (first
    | (refine wpList_load_blk rfl 49 (.tmp 4) rfl w.heap.size 49 l (by rfl) (Br.out) _ Try.underlying49 rfl HI.out ?_))
  with_reducible refine (VC _ (H1.out.below HBW.out) (H2.out.below HBW.out) (H3.out.below HBW.out)).mono ?_
  rintro e w2 ⟨rfl, hb2⟩
  dsimp only
  replace HBW := Lib.hid (chain HBW.out hb2)
  replace Br := Lib.hid (Br.out.below hb2)
  replace yr := Br.out.lt
  clear hb2
  go_wp2_with fail
  clear VC qn1 qn2 qn3
  go_loopw [12, 13] (fun s i wr => ∃ k : Nat, k ≤ n3 ∧ i = .int .i64 k ∧ (∃ F : Bool, s = .bool F ∧ (a < k → F = true)) ∧ Hid (blk wr w.heap.size 49 l) ∧ Below w.heap.size w wr) (fun _ i _ => n3 - (intOf i).toNat)
  case atStart => exact ⟨0, by omega, rfl, ⟨false, rfl, fun h => by omega⟩, Br, HBW.out⟩
  case round =>
    obtain ⟨k, hk, rfl, ⟨F, rfl, hF⟩, Br, hb⟩ := hrel
    have yr := Br.out.lt
    have hz := hb.size
    have HB := Lib.hid hb
    have HF := Lib.hid hF
    clear HBW hF
    by_cases hlt : k < n3
    · have hlt' : (k : Int) < (n3 : Int) := by omega
      have hS3 := H3.out.below hb
      clear hb
      rcases hS3.2 with h0 | ⟨b3, o3, rfl, hb3, _⟩
      · omega
      have s3 := hS3.int hlt
      have HV := Lib.hid (HVy.out k hlt)
      have HID := Lib.hid (show k = a → some_.getD k 0 = (r : Int) from fun h => by rw [h]; exact HRa.out)
      obtain ⟨id, hid⟩ : ∃ id, some_.getD k 0 = id := ⟨_, rfl⟩
      rw [hid] at s3 HV HID
      clear hid hS3
      by_cases q0 : 0 ≤ id
      · by_cases q1 : id < (n1 : Int)
        · by_cases q2 : id < (n2 : Int)
          · obtain ⟨j, rfl⟩ := Int.eq_ofNat_of_zero_le q0
            have hS2 := H2.out.below HB.out
            rcases hS2.2 with h0 | ⟨b2, o2, rfl, hb2, _⟩
            · omega
            have s2 := (hS2.nat (j := j) (by omega)).1
            have t2 := (hS2.nat (j := r) (by omega)).1
            have q1n : decide (n1 ≤ j) = false := by simp; omega
            have q2n : decide (n2 ≤ j) = false := by simp; omega
            have q1m : ¬(n1 ≤ j) := by omega
            have q2m : ¬(n2 ≤ j) := by omega
            have HVal : Hid (vrAt l ages sizes (j : Int) = (dens l (ages.getD j 0), sizes.getD j 0)) := Lib.hid (by
              unfold vrAt
              rw [if_pos ⟨by omega, by rw [L1.out]; exact q1, by rw [L2.out]; exact q2⟩, Int.toNat_natCast])
            have HSB := Lib.hid (HSZ.out j)
            have HSR := Lib.hid (HSZ.out r)
            obtain ⟨size, hsize⟩ : ∃ size, sizes.getD j 0 = size := ⟨_, rfl⟩
            rw [hsize] at s2 HVal HSB
            clear hS2
            by_cases q3 : size = 0
            · have HNE := Lib.hid (show a ≠ k from fun h => HVa.out (by rw [← HID.out h.symm, HVal.out]; exact q3))
              subst q3
              clear q1 q2 t2 HVal
              go_wp2_with fail
              go_roundw
              case rel => exact ⟨k + 1, by omega, by go_num, ⟨F, rfl, fun h => HF.out (by have := HNE.out; omega)⟩, Br, HB.out⟩
              case measure => first | (simp [intOf]; done) | (simp [intOf]; omega)
            · have hS1 := H1.out.below HB.out
              rcases hS1.2 with h0 | ⟨b1, o1, rfl, hb1, _⟩
              · omega
              have q3' : ((size : Int) == 0) = false := by rw [beq_eq_false_iff_ne]; omega
              have q1' : (j : Int) < (n1 : Int) := q1
              have q2' : (j : Int) < (n2 : Int) := q2
              have r1' : (r : Int) < (n1 : Int) := by omega
              have r2' : (r : Int) < (n2 : Int) := by omega
              have r1n : decide (n1 ≤ r) = false := by simp; omega
              have r2n : decide (n2 ≤ r) = false := by simp; omega
              have r1m : ¬(n1 ≤ r) := by omega
              have r2m : ¬(n2 ≤ r) := by omega
              by_cases hjr : j = r
              · subst hjr
                have s1 := hS1.int (j := j) (by omega)
                have HV2 := HV.out (by rw [HVal.out]; exact q3)
                rw [HVal.out] at HV2
                simp only at HV2
                have D1 := fun W => dens_c l HRk.out (ages.getD j 0) ((dens l (ages.getD j 0) : Nat) : Int) (dens_nat _ _) W
                have D2 := D1
                have CM := fun W => rrcmp_c ((dens l (ages.getD j 0) : Nat) : Int) (size : Int) ((dens l (ages.getD j 0) : Nat) : Int) (size : Int) (by omega) (by omega) (by omega) (by omega) (by have := dens_lt l (ages.getD j 0); omega) (by have := HSB.out; omega) (by have := dens_lt l (ages.getD j 0); omega) (by have := HSB.out; omega) W
                rw [show rcE (size : Int) (size : Int) = 0 by unfold rcE; rw [if_neg (by omega)]] at CM
                clear hS1 t2 HVal hsize
                generalize ages.getD j 0 = xj at *
                generalize dens l xj = dj at *
                generalize rcV ((dj : Nat) : Int) (size : Int) ((dj : Nat) : Int) (size : Int) = V at *
                obtain ⟨hv0, hv1⟩ := HV2
                by_cases hV : V = 0
                · subst hV
                  clear hv0 hv1
                  go_wp2_with fail
                  (refine region_later (by kernel_rfl) (by kernel_rfl) ?_); (intro hlat); (try simp only [List.append]); (repeat (first | (refine wpQuiet_load_blk rfl 49 (.tmp 4) rfl w.heap.size 49 l (by rfl) (later_blk Br.out) _ Try.underlying49 rfl HI.out ?_; (simp only [Act.put, List.setIfInBounds_toArray, List.set_cons_zero, List.set_cons_succ])) | go_big_quiet_step ((first | (go_at_call 38; with_reducible exact later_call (D1 _)) | (go_at_call 38; with_reducible exact later_call (D2 _)) | (go_at_call 40; with_reducible exact later_call (CM _)))))); (refine wpQuiet_nil ?_); (intro W1 hbW); (clear hlat)
                  replace HB := Lib.hid (chain HB.out hbW)
                  replace Br := Lib.hid (Br.out.below hbW)
                  clear hbW
                  go_wp2_with fail
                  go_roundw
                  case rel => exact ⟨k + 1, by omega, by go_num, ⟨true, rfl, fun _ => rfl⟩, Br, HB.out⟩
                  case measure => first | (simp [intOf]; done) | (simp [intOf]; omega)
                · have p1 : decide (V < 0) = false := by simp; omega
                  have p2 : ¬(V < 0) := by omega
                  have p3 : (V == 0) = false := by rw [beq_eq_false_iff_ne]; exact hV
                  clear hv0 hv1
                  go_wp2_with fail
                  (refine region_later (by kernel_rfl) (by kernel_rfl) ?_); (intro hlat); (try simp only [List.append]); (repeat (first | (refine wpQuiet_load_blk rfl 49 (.tmp 4) rfl w.heap.size 49 l (by rfl) (later_blk Br.out) _ Try.underlying49 rfl HI.out ?_; (simp only [Act.put, List.setIfInBounds_toArray, List.set_cons_zero, List.set_cons_succ])) | go_big_quiet_step ((first | (go_at_call 38; with_reducible exact later_call (D1 _)) | (go_at_call 38; with_reducible exact later_call (D2 _)) | (go_at_call 40; with_reducible exact later_call (CM _)))))); (refine wpQuiet_nil ?_); (intro W1 hbW); (clear hlat)
                  replace HB := Lib.hid (chain HB.out hbW)
                  replace Br := Lib.hid (Br.out.below hbW)
                  clear hbW
                  go_wp2_with fail
                  go_roundw
                  case rel => exact ⟨k + 1, by omega, by go_num, ⟨true, rfl, fun _ => rfl⟩, Br, HB.out⟩
                  case measure => first | (simp [intOf]; done) | (simp [intOf]; omega)
              · have HNE := Lib.hid (show a ≠ k from fun h => hjr (by have := HID.out h.symm; omega))
                have s1 := hS1.int (j := j) (by omega)
                have t1 := hS1.int (j := r) (by omega)
                have HV2 := HV.out (by rw [HVal.out]; exact q3)
                rw [HVal.out, HValR.out] at HV2
                simp only at HV2
                have D1 := fun W => dens_c l HRk.out (ages.getD j 0) ((dens l (ages.getD j 0) : Nat) : Int) (dens_nat _ _) W
                have D2 := fun W => dens_c l HRk.out (ages.getD r 0) ((dens l (ages.getD r 0) : Nat) : Int) (dens_nat _ _) W
                have CM := fun W => rrcmp_c ((dens l (ages.getD j 0) : Nat) : Int) (size : Int) ((dens l (ages.getD r 0) : Nat) : Int) ((sizes.getD r 0 : Nat) : Int) (by omega) (by omega) (by omega) (by omega) (by have := dens_lt l (ages.getD j 0); omega) (by have := HSB.out; omega) (by have := dens_lt l (ages.getD r 0); omega) (by have := HSR.out; omega) W
                rw [show rcE (size : Int) ((sizes.getD r 0 : Nat) : Int) = 0 by unfold rcE; rw [if_neg (by have := HSN.out; omega)]] at CM
                clear hS1 HVal hsize
                generalize ages.getD j 0 = xj at *
                generalize ages.getD r 0 = xr at *
                generalize sizes.getD r 0 = sr at *
                generalize dens l xj = dj at *
                generalize dens l xr = dr at *
                generalize rcV ((dj : Nat) : Int) (size : Int) ((dr : Nat) : Int) ((sr : Nat) : Int) = V at *
                obtain ⟨hv0, hv1⟩ := HV2
                have p0 : ((j : Int) == (r : Int)) = false := by rw [beq_eq_false_iff_ne]; omega
                have p0' : (j == r) = false := by rw [beq_eq_false_iff_ne]; omega
                by_cases hV : V = 0
                · subst hV
                  have ht := HF.out (by have := HNE.out; by_cases e : k < a; exact absurd rfl (hv1 e); omega)
                  subst ht
                  clear hv0 hv1
                  go_wp2_with fail
                  (refine region_later (by kernel_rfl) (by kernel_rfl) ?_); (intro hlat); (try simp only [List.append]); (repeat (first | (refine wpQuiet_load_blk rfl 49 (.tmp 4) rfl w.heap.size 49 l (by rfl) (later_blk Br.out) _ Try.underlying49 rfl HI.out ?_; (simp only [Act.put, List.setIfInBounds_toArray, List.set_cons_zero, List.set_cons_succ])) | go_big_quiet_step ((first | (go_at_call 38; with_reducible exact later_call (D1 _)) | (go_at_call 38; with_reducible exact later_call (D2 _)) | (go_at_call 40; with_reducible exact later_call (CM _)))))); (refine wpQuiet_nil ?_); (intro W1 hbW); (clear hlat)
                  replace HB := Lib.hid (chain HB.out hbW)
                  replace Br := Lib.hid (Br.out.below hbW)
                  clear hbW
                  go_wp2_with fail
                  go_roundw
                  case rel => exact ⟨k + 1, by omega, by go_num, ⟨true, rfl, fun _ => rfl⟩, Br, HB.out⟩
                  case measure => first | (simp [intOf]; done) | (simp [intOf]; omega)
                · have p1 : decide (V < 0) = false := by simp; omega
                  have p2 : ¬(V < 0) := by omega
                  have p3 : (V == 0) = false := by rw [beq_eq_false_iff_ne]; exact hV
                  clear hv0 hv1
                  go_wp2_with fail
                  (refine region_later (by kernel_rfl) (by kernel_rfl) ?_); (intro hlat); (try simp only [List.append]); (repeat (first | (refine wpQuiet_load_blk rfl 49 (.tmp 4) rfl w.heap.size 49 l (by rfl) (later_blk Br.out) _ Try.underlying49 rfl HI.out ?_; (simp only [Act.put, List.setIfInBounds_toArray, List.set_cons_zero, List.set_cons_succ])) | go_big_quiet_step ((first | (go_at_call 38; with_reducible exact later_call (D1 _)) | (go_at_call 38; with_reducible exact later_call (D2 _)) | (go_at_call 40; with_reducible exact later_call (CM _)))))); (refine wpQuiet_nil ?_); (intro W1 hbW); (clear hlat)
                  replace HB := Lib.hid (chain HB.out hbW)
                  replace Br := Lib.hid (Br.out.below hbW)
                  clear hbW
                  go_wp2_with fail
                  go_roundw
                  case rel => exact ⟨k + 1, by omega, by go_num, ⟨F, rfl, fun h => HF.out (by have := HNE.out; omega)⟩, Br, HB.out⟩
                  case measure => first | (simp [intOf]; done) | (simp [intOf]; omega)
          · have HNE := Lib.hid (show a ≠ k from fun h => HVa.out (by rw [← HID.out h.symm]; unfold vrAt; rw [if_neg (by rw [L2.out]; omega)]))
            have hq1 : decide ((n1 : Int) ≤ id) = false := by simp; omega
            have hr1 : ¬((n1 : Int) ≤ id) := by omega
            have hq0 : decide (id < 0) = false := by simp; omega
            have hr0 : ¬(id < 0) := by omega
            have hq : decide ((n2 : Int) ≤ id) = true := by simp; omega
            have hr : (n2 : Int) ≤ id := by omega
            clear q1 q0 q2
            go_wp2_with fail
            go_roundw
            case rel => exact ⟨k + 1, by omega, by go_num, ⟨F, rfl, fun h => HF.out (by have := HNE.out; omega)⟩, Br, HB.out⟩
            case measure => first | (simp [intOf]; done) | (simp [intOf]; omega)
        · have HNE := Lib.hid (show a ≠ k from fun h => HVa.out (by rw [← HID.out h.symm]; unfold vrAt; rw [if_neg (by rw [L1.out]; omega)]))
          have hq0 : decide (id < 0) = false := by simp; omega
          have hr0 : ¬(id < 0) := by omega
          have hq : decide ((n1 : Int) ≤ id) = true := by simp; omega
          have hr : (n1 : Int) ≤ id := by omega
          clear q0 q1
          go_wp2_with fail
          go_roundw
          case rel => exact ⟨k + 1, by omega, by go_num, ⟨F, rfl, fun h => HF.out (by have := HNE.out; omega)⟩, Br, HB.out⟩
          case measure => first | (simp [intOf]; done) | (simp [intOf]; omega)
      · have HNE := Lib.hid (show a ≠ k from fun h => HVa.out (by rw [← HID.out h.symm]; unfold vrAt; rw [if_neg (by omega)]))
        have hq : decide (id < 0) = true := by simp; omega
        have hr : id < 0 := by omega
        clear q0
        go_wp2_with fail
        go_roundw
        case rel => exact ⟨k + 1, by omega, by go_num, ⟨F, rfl, fun h => HF.out (by have := HNE.out; omega)⟩, Br, HB.out⟩
        case measure => first | (simp [intOf]; done) | (simp [intOf]; omega)
    · obtain rfl : k = n3 := by omega
      have ht := HF.out han
      subst ht
      go_wp2_with fail
      go_ret
      exact ⟨rfl, hb⟩
end Go.Proofs.Try
