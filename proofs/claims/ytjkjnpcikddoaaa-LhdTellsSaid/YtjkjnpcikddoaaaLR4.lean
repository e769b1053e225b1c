/- The document's answer for lhd: Victim. -/
import Derived.Test.YtjkjnpcikddoaaaLR3
import Derived.Test.YtjkjnpcikddoaaaVic
import Derived.Test.YtjkjnpcikddoaaaTailB
namespace Go.Proofs.Try
open Go.RowKit
set_option linter.unusedVariables false
set_option linter.unusedSimpArgs false
theorem vic_step (l : List Nat) (ages : List Int) (sizes : List Nat) (some : List Int) (k a : Nat) (f : Bool) (hk : k < some.length) (h : lstS (vsI (vrL l ages sizes some)) k = (a, f)) :
    ((vrAt l ages sizes (some.getD k 0)).2 = 0 → lstS (vsI (vrL l ages sizes some)) (k + 1) = (a, f)) ∧
    ((vrAt l ages sizes (some.getD k 0)).2 ≠ 0 → f = false → lstS (vsI (vrL l ages sizes some)) (k + 1) = (k, true)) ∧
    (f = true → a < some.length → (vrAt l ages sizes (some.getD k 0)).2 ≠ 0 →
      (rcV ((vrAt l ages sizes (some.getD k 0)).1 : Int) ((vrAt l ages sizes (some.getD k 0)).2 : Int) ((vrAt l ages sizes (some.getD a 0)).1 : Int) ((vrAt l ages sizes (some.getD a 0)).2 : Int) < 0 → lstS (vsI (vrL l ages sizes some)) (k + 1) = (k, true)) ∧
      (¬ rcV ((vrAt l ages sizes (some.getD k 0)).1 : Int) ((vrAt l ages sizes (some.getD k 0)).2 : Int) ((vrAt l ages sizes (some.getD a 0)).1 : Int) ((vrAt l ages sizes (some.getD a 0)).2 : Int) < 0 → lstS (vsI (vrL l ages sizes some)) (k + 1) = (a, f))) := by
  obtain ⟨n1, n2, n3, n4⟩ := lstS_next _ k a f h
  rw [v_at l ages sizes some k hk] at n1 n2 n3 n4
  simp only at n1 n2 n3 n4
  refine ⟨fun e => n1 (by rw [e]; rfl), fun e => n2 (fun x => e (by omega)), fun hf ha e => ⟨fun c => ?_, fun c => ?_⟩⟩
  · rw [v_at l ages sizes some a ha] at n3
    exact n3 (fun x => e (by omega)) hf c
  · rw [v_at l ages sizes some a ha] at n4
    exact n4 (fun x => e (by omega)) hf c
def BestOk (l : List Nat) (ages : List Int) (sizes : List Nat) (some : List Int) (k a : Nat) (f : Bool) (B : Int) : Prop :=
  (f = false → B = -1) ∧ (f = true → a < k ∧ some.getD a 0 = B ∧ (vrAt l ages sizes B).2 ≠ 0)
set_option maxRecDepth 100000 in
set_option maxHeartbeats 4000000 in
theorem rvictim_c (l : List Nat) (hl : Rk l) (A1 A2 A3 : Option Addr) (n1 n2 n3 c1 c2 c3 : Nat) (ages : List Int) (sizes : List Nat) (some_ : List Int) (hn1 : n1 ≤ 1000000) (hn2 : n2 ≤ 1000000) (hn3 : n3 ≤ 1000000) (hsz : ∀ k, sizes.getD k 0 < 18446744073709551616)
    (a0 : Nat) (f0 : Bool) (hf : lstS (vsI (vrL l ages sizes some_)) n3 = (a0, f0)) (R : Int) (hR : (if f0 = true then some_.getD a0 0 else 0) = R) (w : World)
    (h1 : Sees w 1 A1 n1 (ages.map (Value.int .i64))) (h2 : Sees w 1 A2 n2 (sizes.map fun (n : Nat) => Value.int .u64 (n : Int))) (h3 : Sees w 1 A3 n3 (some_.map (Value.int .i64))) :
    Calls Try.prog 29 #[.agg (u64V l), .slice A1 n1 c1, .slice A2 n2 c2, .slice A3 n3 c3] w fun e w' => e = .returned (.tuple #[.int .i64 R, .bool f0]) ∧ Below w.heap.size w w' := by
  have L1 := Lib.hid (show ages.length = n1 from h1.len)
  have L2 := Lib.hid (show sizes.length = n2 by have := h2.1; simpa using this)
  have L3 := Lib.hid (show some_.length = n3 from h3.len)
  have H1 := Lib.hid h1
  have H2 := Lib.hid h2
  have H3 := Lib.hid h3
  have HSZ := Lib.hid hsz
  have HRk := Lib.hid hl
  have HI := Lib.hid (rk_info hl)
  have HF := Lib.hid hf
  have HR := Lib.hid hR
  have B0 := Lib.hid (blk.new w l 49)
  clear h1 h2 h3 hsz hl hf hR
  go_enter Try.func29, Try.ntmps29
  go_wp2_with fail
  go_loopw [10, 11] (fun b i wr => ∃ (k : Nat) (B : Int) (a : Nat) (f : Bool), k ≤ n3 ∧ i = .int .i64 k ∧ b = .int .i64 B ∧ lstS (vsI (vrL l ages sizes some_)) k = (a, f) ∧ BestOk l ages sizes some_ k a f B ∧ Hid (blk wr w.heap.size 49 l) ∧ Below w.heap.size w wr) (fun _ i _ => n3 - (intOf i).toNat)
  case atStart => exact ⟨0, -1, 0, false, by omega, rfl, rfl, rfl, ⟨(fun _ => rfl), (fun h => by cases h)⟩, B0, by (repeat' (first | (with_reducible exact Below.refl _ _) | (with_reducible assumption) | (with_reducible refine Below.alloc ?_ ?_ _) | (with_reducible refine Below.drew ?_) | (with_reducible refine Below_drewN ?_ _) | (with_reducible refine Below.setCell ?_ ?_ _) | (refine Below.step (B' := ?_) (b := ?_) ?_ ?_ ?_; rotate_left 2; (with_reducible assumption)) | go_size))⟩
  case round =>
    obtain ⟨k, B, a, f, hk, rfl, rfl, hls, hok, Br, hb⟩ := hrel
    have yr := Br.out.lt
    have hz := hb.size
    have HB := Lib.hid hb
    have HL := Lib.hid hls
    obtain ⟨ok1, ok2⟩ := hok
    clear hb hls
    by_cases hlt : k < n3
    · have hlt' : (k : Int) < (n3 : Int) := by omega
      have hS3 := H3.out.below HB.out
      rcases hS3.2 with h0 | ⟨b3, o3, rfl, hb3, _⟩
      · omega
      have s3 := hS3.int hlt
      clear hS3
      cases f with
      | false =>
        obtain rfl : B = -1 := ok1 rfl
        clear ok1 ok2
        have HS := Lib.hid (vic_step l ages sizes some_ k a false (by rw [L3.out]; exact hlt) HL.out).1
        have HT := Lib.hid (vic_step l ages sizes some_ k a false (by rw [L3.out]; exact hlt) HL.out).2
        have HID : Hid (some_.getD k 0 = some_.getD k 0) := Lib.hid rfl
        obtain ⟨id, hid⟩ : ∃ id, some_.getD k 0 = id := ⟨_, rfl⟩
        rw [hid] at s3 HS HT
        replace HID := Lib.hid hid
        clear hid
        by_cases q0 : 0 ≤ id
        · by_cases q1 : id < (n1 : Int)
          · by_cases q2 : id < (n2 : Int)
            · obtain ⟨j, rfl⟩ := Int.eq_ofNat_of_zero_le q0
              have hS2 := H2.out.below HB.out
              rcases hS2.2 with h0 | ⟨b2, o2, rfl, hb2, _⟩
              · omega
              have s2 := (hS2.nat (j := j) (by omega)).1
              have q1n : decide (n1 ≤ j) = false := by simp; omega
              have q2n : decide (n2 ≤ j) = false := by simp; omega
              have q1m : ¬(n1 ≤ j) := by omega
              have q2m : ¬(n2 ≤ j) := by omega
              have HVal : Hid (vrAt l ages sizes (j : Int) = (dens l (ages.getD j 0), sizes.getD j 0)) := Lib.hid (by
                unfold vrAt
                rw [if_pos ⟨by omega, by rw [L1.out]; exact q1, by rw [L2.out]; exact q2⟩, Int.toNat_natCast])
              have HSB := Lib.hid (HSZ.out j)
              obtain ⟨size, hsize⟩ : ∃ size, sizes.getD j 0 = size := ⟨_, rfl⟩
              rw [hsize] at s2 HVal HSB
              by_cases q3 : size = 0
              · have HZ := Lib.hid (show (vrAt l ages sizes (j : Int)).2 = 0 by rw [HVal.out]; exact q3)
                subst q3
                clear q1 q2 HVal hS2
                go_wp2_with fail
                go_roundw
                case rel => exact ⟨k + 1, (-1), a, false, by omega, by go_num, rfl, HS.out HZ.out, ⟨(fun _ => rfl), (fun h => by cases h)⟩, Br, HB.out⟩
                case measure => first | (simp [intOf]; done) | (simp [intOf]; omega)
              · have HOK := Lib.hid (show (vrAt l ages sizes (j : Int)).2 ≠ 0 by rw [HVal.out]; exact q3)
                have q3' : ((size : Int) == 0) = false := by rw [beq_eq_false_iff_ne]; omega
                have q1' : (j : Int) < (n1 : Int) := q1
                have q2' : (j : Int) < (n2 : Int) := q2
                have HNX := Lib.hid (HT.out.1 HOK.out rfl)
                clear HVal hS2
                go_wp2_with fail
                go_roundw
                case rel => exact ⟨k + 1, (j : Int), k, true, by omega, by go_num, rfl, HNX.out, ⟨(fun h => by cases h), fun _ => ⟨by omega, HID.out, HOK.out⟩⟩, Br, HB.out⟩
                case measure => first | (simp [intOf]; done) | (simp [intOf]; omega)
            · have HZ := Lib.hid (show (vrAt l ages sizes id).2 = 0 by unfold vrAt; rw [if_neg (by rw [L2.out]; omega)])
              have hq1 : decide ((n1 : Int) ≤ id) = false := by simp; omega
              have hr1 : ¬((n1 : Int) ≤ id) := by omega
              have hq0 : decide (id < 0) = false := by simp; omega
              have hr0 : ¬(id < 0) := by omega
              have hq : decide ((n2 : Int) ≤ id) = true := by simp; omega
              have hr : (n2 : Int) ≤ id := by omega
              clear q1 q0 q2
              go_wp2_with fail
              go_roundw
              case rel => exact ⟨k + 1, (-1), a, false, by omega, by go_num, rfl, HS.out HZ.out, ⟨(fun _ => rfl), (fun h => by cases h)⟩, Br, HB.out⟩
              case measure => first | (simp [intOf]; done) | (simp [intOf]; omega)
          · have HZ := Lib.hid (show (vrAt l ages sizes id).2 = 0 by unfold vrAt; rw [if_neg (by rw [L1.out]; omega)])
            have hq0 : decide (id < 0) = false := by simp; omega
            have hr0 : ¬(id < 0) := by omega
            have hq : decide ((n1 : Int) ≤ id) = true := by simp; omega
            have hr : (n1 : Int) ≤ id := by omega
            clear q0 q1
            go_wp2_with fail
            go_roundw
            case rel => exact ⟨k + 1, (-1), a, false, by omega, by go_num, rfl, HS.out HZ.out, ⟨(fun _ => rfl), (fun h => by cases h)⟩, Br, HB.out⟩
            case measure => first | (simp [intOf]; done) | (simp [intOf]; omega)
        · have HZ := Lib.hid (show (vrAt l ages sizes id).2 = 0 by unfold vrAt; rw [if_neg (by omega)])
          have hq : decide (id < 0) = true := by simp; omega
          have hr : id < 0 := by omega
          clear q0
          go_wp2_with fail
          go_roundw
          case rel => exact ⟨k + 1, (-1), a, false, by omega, by go_num, rfl, HS.out HZ.out, ⟨(fun _ => rfl), (fun h => by cases h)⟩, Br, HB.out⟩
          case measure => first | (simp [intOf]; done) | (simp [intOf]; omega)
      | true =>
        obtain ⟨hak, hra, hrv⟩ := ok2 rfl
        obtain ⟨⟨g1, g2, g3⟩, hvr⟩ := vr_ok l ages sizes B hrv
        rw [L1.out] at g2
        rw [L2.out] at g3
        obtain ⟨r, rfl⟩ := Int.eq_ofNat_of_zero_le g1
        rw [Int.toNat_natCast] at hvr
        have HAK := Lib.hid hak
        have HRa := Lib.hid hra
        have HRv := Lib.hid hrv
        have HVr := Lib.hid hvr
        have r1' : (r : Int) < (n1 : Int) := g2
        have r2' : (r : Int) < (n2 : Int) := g3
        have r1n : r < n1 := by omega
        have r2n : r < n2 := by omega
        clear ok1 ok2 hak hra hrv hvr g1 g2 g3
        have HS := Lib.hid (vic_step l ages sizes some_ k a true (by rw [L3.out]; exact hlt) HL.out).1
        have HT := Lib.hid (vic_step l ages sizes some_ k a true (by rw [L3.out]; exact hlt) HL.out).2
        have HID : Hid (some_.getD k 0 = some_.getD k 0) := Lib.hid rfl
        obtain ⟨id, hid⟩ : ∃ id, some_.getD k 0 = id := ⟨_, rfl⟩
        rw [hid] at s3 HS HT
        replace HID := Lib.hid hid
        clear hid
        by_cases q0 : 0 ≤ id
        · by_cases q1 : id < (n1 : Int)
          · by_cases q2 : id < (n2 : Int)
            · obtain ⟨j, rfl⟩ := Int.eq_ofNat_of_zero_le q0
              have hS2 := H2.out.below HB.out
              rcases hS2.2 with h0 | ⟨b2, o2, rfl, hb2, _⟩
              · omega
              have s2 := (hS2.nat (j := j) (by omega)).1
              have q1n : decide (n1 ≤ j) = false := by simp; omega
              have q2n : decide (n2 ≤ j) = false := by simp; omega
              have q1m : ¬(n1 ≤ j) := by omega
              have q2m : ¬(n2 ≤ j) := by omega
              have HVal : Hid (vrAt l ages sizes (j : Int) = (dens l (ages.getD j 0), sizes.getD j 0)) := Lib.hid (by
                unfold vrAt
                rw [if_pos ⟨by omega, by rw [L1.out]; exact q1, by rw [L2.out]; exact q2⟩, Int.toNat_natCast])
              have HSB := Lib.hid (HSZ.out j)
              obtain ⟨size, hsize⟩ : ∃ size, sizes.getD j 0 = size := ⟨_, rfl⟩
              rw [hsize] at s2 HVal HSB
              by_cases q3 : size = 0
              · have HZ := Lib.hid (show (vrAt l ages sizes (j : Int)).2 = 0 by rw [HVal.out]; exact q3)
                subst q3
                clear q1 q2 HVal hS2
                go_wp2_with fail
                go_roundw
                case rel => exact ⟨k + 1, (r : Int), a, true, by omega, by go_num, rfl, HS.out HZ.out, ⟨(fun h => by cases h), fun _ => ⟨by have := HAK.out; omega, HRa.out, HRv.out⟩⟩, Br, HB.out⟩
                case measure => first | (simp [intOf]; done) | (simp [intOf]; omega)
              · have HOK := Lib.hid (show (vrAt l ages sizes (j : Int)).2 ≠ 0 by rw [HVal.out]; exact q3)
                have q3' : ((size : Int) == 0) = false := by rw [beq_eq_false_iff_ne]; omega
                have q1' : (j : Int) < (n1 : Int) := q1
                have q2' : (j : Int) < (n2 : Int) := q2
                have HTT := Lib.hid (HT.out.2 rfl (by have := HAK.out; rw [L3.out]; omega) HOK.out)
                rw [HRa.out] at HTT
                have hS1 := H1.out.below HB.out
                rcases hS1.2 with h0 | ⟨b1, o1, rfl, hb1, _⟩
                · omega
                have s1 := hS1.int (j := j) (by omega)
                by_cases hjr : j = r
                · subst hjr
                  rw [HVal.out] at HTT
                  simp only at HTT
                  replace HTT := Lib.hid HTT.out
                  have D1 := fun W => rdens_c l HRk.out (ages.getD j 0) ((dens l (ages.getD j 0) : Nat) : Int) (dens_nat _ _) W
                  have D2 := D1
                  have CM := fun W => rrcmp_c ((dens l (ages.getD j 0) : Nat) : Int) (size : Int) ((dens l (ages.getD j 0) : Nat) : Int) (size : Int) (by omega) (by omega) (by omega) (by omega) (by have := dens_lt l (ages.getD j 0); omega) (by have := HSB.out; omega) (by have := dens_lt l (ages.getD j 0); omega) (by have := HSB.out; omega) W
                  clear hS1 hS2 hsize
                  generalize hxj : ages.getD j 0 = xj at s1 D1 D2 CM HTT
                  generalize hdj : dens l xj = dj at D1 D2 CM HTT
                  clear hxj hdj HVal HVr
                  generalize rcV ((dj : Nat) : Int) (size : Int) ((dj : Nat) : Int) (size : Int) = V at *
                  generalize rcE (size : Int) (size : Int) = VE at *
                  by_cases hV : V < 0
                  · have hV' : decide (V < 0) = true := by simp; omega
                    have HNX := Lib.hid (HTT.out.1 hV)
                    go_wp2_with fail
                    (refine region_later (by kernel_rfl) (by kernel_rfl) ?_); (intro hlat); (try simp only [List.append]); (repeat (first | (refine wpQuiet_load_blk rfl 49 (.tmp 4) rfl w.heap.size 49 l (by rfl) (later_blk Br.out) _ Try.underlying49 rfl HI.out ?_; (simp only [Act.put, List.setIfInBounds_toArray, List.set_cons_zero, List.set_cons_succ])) | go_big_quiet_step ((first | (go_at_call 39; with_reducible exact later_call (D1 _)) | (go_at_call 39; with_reducible exact later_call (D2 _)) | (go_at_call 40; with_reducible exact later_call (CM _)))))); (refine wpQuiet_nil ?_); (intro W1 hbW); (clear hlat)
                    replace HB := Lib.hid (chain HB.out hbW)
                    replace Br := Lib.hid (Br.out.below hbW)
                    clear hbW
                    go_wp2_with fail
                    go_roundw
                    case rel => exact ⟨k + 1, (j : Int), k, true, by omega, by go_num, rfl, HNX.out, ⟨(fun h => by cases h), fun _ => ⟨by omega, HID.out, HOK.out⟩⟩, Br, HB.out⟩
                    case measure => first | (simp [intOf]; done) | (simp [intOf]; omega)
                  · have hV' : decide (V < 0) = false := by simp; omega
                    have HNX := Lib.hid (HTT.out.2 hV)
                    go_wp2_with fail
                    (refine region_later (by kernel_rfl) (by kernel_rfl) ?_); (intro hlat); (try simp only [List.append]); (repeat (first | (refine wpQuiet_load_blk rfl 49 (.tmp 4) rfl w.heap.size 49 l (by rfl) (later_blk Br.out) _ Try.underlying49 rfl HI.out ?_; (simp only [Act.put, List.setIfInBounds_toArray, List.set_cons_zero, List.set_cons_succ])) | go_big_quiet_step ((first | (go_at_call 39; with_reducible exact later_call (D1 _)) | (go_at_call 39; with_reducible exact later_call (D2 _)) | (go_at_call 40; with_reducible exact later_call (CM _)))))); (refine wpQuiet_nil ?_); (intro W1 hbW); (clear hlat)
                    replace HB := Lib.hid (chain HB.out hbW)
                    replace Br := Lib.hid (Br.out.below hbW)
                    clear hbW
                    go_wp2_with fail
                    go_roundw
                    case rel => exact ⟨k + 1, (j : Int), a, true, by omega, by go_num, rfl, HNX.out, ⟨(fun h => by cases h), fun _ => ⟨by have := HAK.out; omega, HRa.out, HRv.out⟩⟩, Br, HB.out⟩
                    case measure => first | (simp [intOf]; done) | (simp [intOf]; omega)
                · have t1 := hS1.int (j := r) (by omega)
                  have t2 := (hS2.nat (j := r) (by omega)).1
                  have HSR := Lib.hid (HSZ.out r)
                  rw [HVal.out, HVr.out] at HTT
                  simp only at HTT
                  replace HTT := Lib.hid HTT.out
                  have D1 := fun W => rdens_c l HRk.out (ages.getD j 0) ((dens l (ages.getD j 0) : Nat) : Int) (dens_nat _ _) W
                  have D2 := fun W => rdens_c l HRk.out (ages.getD r 0) ((dens l (ages.getD r 0) : Nat) : Int) (dens_nat _ _) W
                  have CM := fun W => rrcmp_c ((dens l (ages.getD j 0) : Nat) : Int) (size : Int) ((dens l (ages.getD r 0) : Nat) : Int) ((sizes.getD r 0 : Nat) : Int) (by omega) (by omega) (by omega) (by omega) (by have := dens_lt l (ages.getD j 0); omega) (by have := HSB.out; omega) (by have := dens_lt l (ages.getD r 0); omega) (by have := HSR.out; omega) W
                  clear hS1 hS2 hsize
                  generalize hxj : ages.getD j 0 = xj at s1 D1 CM HTT
                  generalize hxr : ages.getD r 0 = xr at t1 D2 CM HTT
                  generalize hsr : sizes.getD r 0 = sr at t2 CM HTT
                  generalize hdj : dens l xj = dj at D1 CM HTT
                  generalize hdr : dens l xr = dr at D2 CM HTT
                  clear hxj hxr hsr hdj hdr HVal HVr
                  generalize rcV ((dj : Nat) : Int) (size : Int) ((dr : Nat) : Int) ((sr : Nat) : Int) = V at *
                  generalize rcE (size : Int) ((sr : Nat) : Int) = VE at *
                  by_cases hV : V < 0
                  · have hV' : decide (V < 0) = true := by simp; omega
                    have HNX := Lib.hid (HTT.out.1 hV)
                    go_wp2_with fail
                    (refine region_later (by kernel_rfl) (by kernel_rfl) ?_); (intro hlat); (try simp only [List.append]); (repeat (first | (refine wpQuiet_load_blk rfl 49 (.tmp 4) rfl w.heap.size 49 l (by rfl) (later_blk Br.out) _ Try.underlying49 rfl HI.out ?_; (simp only [Act.put, List.setIfInBounds_toArray, List.set_cons_zero, List.set_cons_succ])) | go_big_quiet_step ((first | (go_at_call 39; with_reducible exact later_call (D1 _)) | (go_at_call 39; with_reducible exact later_call (D2 _)) | (go_at_call 40; with_reducible exact later_call (CM _)))))); (refine wpQuiet_nil ?_); (intro W1 hbW); (clear hlat)
                    replace HB := Lib.hid (chain HB.out hbW)
                    replace Br := Lib.hid (Br.out.below hbW)
                    clear hbW
                    go_wp2_with fail
                    go_roundw
                    case rel => exact ⟨k + 1, (j : Int), k, true, by omega, by go_num, rfl, HNX.out, ⟨(fun h => by cases h), fun _ => ⟨by omega, HID.out, HOK.out⟩⟩, Br, HB.out⟩
                    case measure => first | (simp [intOf]; done) | (simp [intOf]; omega)
                  · have hV' : decide (V < 0) = false := by simp; omega
                    have HNX := Lib.hid (HTT.out.2 hV)
                    go_wp2_with fail
                    (refine region_later (by kernel_rfl) (by kernel_rfl) ?_); (intro hlat); (try simp only [List.append]); (repeat (first | (refine wpQuiet_load_blk rfl 49 (.tmp 4) rfl w.heap.size 49 l (by rfl) (later_blk Br.out) _ Try.underlying49 rfl HI.out ?_; (simp only [Act.put, List.setIfInBounds_toArray, List.set_cons_zero, List.set_cons_succ])) | go_big_quiet_step ((first | (go_at_call 39; with_reducible exact later_call (D1 _)) | (go_at_call 39; with_reducible exact later_call (D2 _)) | (go_at_call 40; with_reducible exact later_call (CM _)))))); (refine wpQuiet_nil ?_); (intro W1 hbW); (clear hlat)
                    replace HB := Lib.hid (chain HB.out hbW)
                    replace Br := Lib.hid (Br.out.below hbW)
                    clear hbW
                    go_wp2_with fail
                    go_roundw
                    case rel => exact ⟨k + 1, (r : Int), a, true, by omega, by go_num, rfl, HNX.out, ⟨(fun h => by cases h), fun _ => ⟨by have := HAK.out; omega, HRa.out, HRv.out⟩⟩, Br, HB.out⟩
                    case measure => first | (simp [intOf]; done) | (simp [intOf]; omega)
            · have HZ := Lib.hid (show (vrAt l ages sizes id).2 = 0 by unfold vrAt; rw [if_neg (by rw [L2.out]; omega)])
              have hq1 : decide ((n1 : Int) ≤ id) = false := by simp; omega
              have hr1 : ¬((n1 : Int) ≤ id) := by omega
              have hq0 : decide (id < 0) = false := by simp; omega
              have hr0 : ¬(id < 0) := by omega
              have hq : decide ((n2 : Int) ≤ id) = true := by simp; omega
              have hr : (n2 : Int) ≤ id := by omega
              clear q1 q0 q2
              go_wp2_with fail
              go_roundw
              case rel => exact ⟨k + 1, (r : Int), a, true, by omega, by go_num, rfl, HS.out HZ.out, ⟨(fun h => by cases h), fun _ => ⟨by have := HAK.out; omega, HRa.out, HRv.out⟩⟩, Br, HB.out⟩
              case measure => first | (simp [intOf]; done) | (simp [intOf]; omega)
          · have HZ := Lib.hid (show (vrAt l ages sizes id).2 = 0 by unfold vrAt; rw [if_neg (by rw [L1.out]; omega)])
            have hq0 : decide (id < 0) = false := by simp; omega
            have hr0 : ¬(id < 0) := by omega
            have hq : decide ((n1 : Int) ≤ id) = true := by simp; omega
            have hr : (n1 : Int) ≤ id := by omega
            clear q0 q1
            go_wp2_with fail
            go_roundw
            case rel => exact ⟨k + 1, (r : Int), a, true, by omega, by go_num, rfl, HS.out HZ.out, ⟨(fun h => by cases h), fun _ => ⟨by have := HAK.out; omega, HRa.out, HRv.out⟩⟩, Br, HB.out⟩
            case measure => first | (simp [intOf]; done) | (simp [intOf]; omega)
        · have HZ := Lib.hid (show (vrAt l ages sizes id).2 = 0 by unfold vrAt; rw [if_neg (by omega)])
          have hq : decide (id < 0) = true := by simp; omega
          have hr : id < 0 := by omega
          clear q0
          go_wp2_with fail
          go_roundw
          case rel => exact ⟨k + 1, (r : Int), a, true, by omega, by go_num, rfl, HS.out HZ.out, ⟨(fun h => by cases h), fun _ => ⟨by have := HAK.out; omega, HRa.out, HRv.out⟩⟩, Br, HB.out⟩
          case measure => first | (simp [intOf]; done) | (simp [intOf]; omega)
    · obtain rfl : k = n3 := by omega
      have hfin := HL.out.symm.trans HF.out
      simp only [Prod.mk.injEq] at hfin
      obtain ⟨rfl, rfl⟩ := hfin
      cases f with
      | false =>
        obtain rfl : B = -1 := ok1 rfl
        have HR0 : Hid (R = 0) := Lib.hid (by have := HR.out; rw [if_neg (by simp)] at this; exact this.symm)
        clear ok1 ok2
        go_wp2_with fail
        go_ret2
        exact ⟨by rw [HR0.out]; rfl, HB.out⟩
      | true =>
        obtain ⟨hak, hra, hrv⟩ := ok2 rfl
        obtain ⟨⟨g1, g2, g3⟩, hvr⟩ := vr_ok l ages sizes B hrv
        have HR0 : Hid (B = R) := Lib.hid (by have := HR.out; rw [if_pos rfl, hra] at this; exact this)
        have hmx : max B 0 = B := by omega
        have q : decide (0 ≤ B) = true := by simp; omega
        clear ok1 ok2 hak hra hrv hvr g2 g3
        go_wp2_with fail
        go_ret2
        exact ⟨by rw [← HR0.out]; rfl, HB.out⟩
end Go.Proofs.Try
