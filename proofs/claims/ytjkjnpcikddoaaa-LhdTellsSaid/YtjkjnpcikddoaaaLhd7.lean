/- lhd.Victim: the walk. -/
import Derived.Test.YtjkjnpcikddoaaaLhd6
import Derived.Test.YtjkjnpcikddoaaaTailB
namespace Go.Proofs.Try
open Go.RowKit
set_option linter.unusedVariables false
set_option linter.unusedSimpArgs false
/-- A slice of natural numbers (uint64) is read. -/
theorem Sees.nat {w : World} {n : Nat} {l : List Nat} {b off : Nat} (h : Sees w 1 (some ⟨b, off, none⟩) n (l.map fun (n : Nat) => Value.int .u64 (n : Int))) {j : Nat} (hj : j < n) : w.cell? ⟨b, off + j, none⟩ = some (.int .u64 ((l.getD j 0 : Nat) : Int)) ∧ b < w.heap.size := by
  obtain ⟨u, hu, hc⟩ := h.cell (j := j) (by omega)
  rw [List.getElem?_map] at hu
  refine ⟨?_, World.block_lt_of_cell? w _ hc⟩
  rw [hc, List.getD_eq_getElem?_getD]
  cases hx : l[j]? with
  | none => rw [hx] at hu; cases hu
  | some x => rw [hx] at hu; simp at hu; simp [hu]
set_option maxRecDepth 100000 in
set_option maxHeartbeats 8000000 in
theorem victim_c (l : List Nat) (hl : Rk l) (A1 A2 A3 : Option Addr) (n1 n2 n3 c1 c2 c3 : Nat) (ages : List Int) (sizes : List Nat) (some_ : List Int) (hn1 : n1 ≤ 1000000) (hn2 : n2 ≤ 1000000) (hn3 : n3 ≤ 1000000) (hsz : ∀ k, sizes.getD k 0 < 18446744073709551616)
    (a : Nat) (f : Bool) (hf : lstS (vsI (vrL l ages sizes some_)) n3 = (a, f)) (ha : f = true → a < n3) (R : Int) (hR : (if f = true then some_.getD a 0 else 0) = R) (w : World)
    (h1 : Sees w 1 A1 n1 (ages.map (Value.int .i64))) (h2 : Sees w 1 A2 n2 (sizes.map fun (n : Nat) => Value.int .u64 (n : Int))) (h3 : Sees w 1 A3 n3 (some_.map (Value.int .i64))) :
    Calls Try.prog 28 #[.agg (u64V l), .slice A1 n1 c1, .slice A2 n2 c2, .slice A3 n3 c3] w fun e w' => e = .returned (.tuple #[.int .i64 R, .bool f]) ∧ Below w.heap.size w w' := by
  have hM := make_rat n3 hn3
  have H1 := Lib.hid h1
  have H2 := Lib.hid h2
  have H3 := Lib.hid h3
  have L1 := Lib.hid (show ages.length = n1 from h1.len)
  have L2 := Lib.hid (show sizes.length = n2 by have := h2.1; simpa using this)
  have L3 := Lib.hid (show some_.length = n3 from h3.len)
  have HF := Lib.hid hf
  have HR := Lib.hid hR
  have HA := Lib.hid ha
  have HSZ := Lib.hid hsz
  have HRk := Lib.hid hl
  have HI := Lib.hid (rk_info hl)
  clear h1 h2 h3 hf hR ha hsz hl
  go_enter Try.func28, Try.ntmps28
  go_wp2_with fail
  go_loopw [20] (fun i wr => ∃ k : Nat, k ≤ n3 ∧ i = .int .i64 k ∧ Hid (blk wr w.heap.size 49 l) ∧ Hid (blk wr (w.heap.size + 1) 65 (rkTo (vrL l ages sizes some_) n3 k)) ∧ Below w.heap.size w wr) (fun i _ => n3 - (intOf i).toNat)
  case atStart => exact ⟨0, by omega, rfl, Lib.hid ((blk.new w l _).alloc _), Lib.hid (by rw [rk_zero]; exact blk.new' (by simp)), by (repeat' (first | (with_reducible exact Below.refl _ _) | (with_reducible assumption) | (with_reducible refine Below.alloc ?_ ?_ _) | (with_reducible refine Below.drew ?_) | (with_reducible refine Below_drewN ?_ _) | (with_reducible refine Below.setCell ?_ ?_ _) | (refine Below.step (B' := ?_) (b := ?_) ?_ ?_ ?_; rotate_left 2; (with_reducible assumption)) | go_size))⟩
  case round =>
    obtain ⟨k, hk, rfl, B1, B2, hb⟩ := hrel
    have hz := hb.size
    have hy := B1.out.lt
    have hy2 := B2.out.lt
    have HB := Lib.hid hb
    by_cases hlt : k < n3
    · have hlt' : (k : Int) < (n3 : Int) := by omega
      have hS3 := H3.out.below hb
      clear hb
      rcases hS3.2 with h0 | ⟨b3, o3, rfl, hb3, _⟩
      · omega
      have s3 := hS3.int hlt
      have HV := Lib.hid (vr_at l ages sizes some_ k (by rw [L3.out]; exact hlt))
      have HLen : Hid (((rkTo (vrL l ages sizes some_) n3 k)).length = 2 * n3) := Lib.hid (rk_len _ _ _)
      obtain ⟨id, hid⟩ : ∃ id, some_.getD k 0 = id := ⟨_, rfl⟩
      rw [hid] at s3 HV
      clear hid hS3
      by_cases q0 : 0 ≤ id
      · by_cases q1 : id < (n1 : Int)
        · by_cases q2 : id < (n2 : Int)
          · obtain ⟨j, rfl⟩ := Int.eq_ofNat_of_zero_le q0
            have hS1 := H1.out.below HB.out
            have hS2 := H2.out.below HB.out
            rcases hS1.2 with h0 | ⟨b1, o1, rfl, hb1, _⟩
            · omega
            rcases hS2.2 with h0 | ⟨b2, o2, rfl, hb2, _⟩
            · omega
            have s1 := hS1.int (j := j) (by omega)
            have s2 := (hS2.nat (j := j) (by omega)).1
            have q1' : (j : Int) < (n1 : Int) := q1
            have q2' : (j : Int) < (n2 : Int) := q2
            have q0' : (0 : Int) ≤ (j : Int) := by omega
            have q1n : decide (j < n1) = true := by simp; omega
            have q2n : decide (j < n2) = true := by simp; omega
            have HVal : Hid (vrAt l ages sizes (j : Int) = (dens l (ages.getD j 0), sizes.getD j 0)) := Lib.hid (by
              unfold vrAt
              rw [if_pos ⟨by omega, by rw [L1.out]; exact q1, by rw [L2.out]; exact q2⟩, Int.toNat_natCast])
            obtain ⟨age, hage⟩ : ∃ age, ages.getD j 0 = age := ⟨_, rfl⟩
            obtain ⟨size, hsize⟩ : ∃ size, sizes.getD j 0 = size := ⟨_, rfl⟩
            rw [hage] at s1 HVal
            rw [hsize] at s2 HVal
            have D := fun W => dens_c l HRk.out age ((dens l age : Nat) : Int) (dens_nat l age) W
            have HM := Lib.hid (rk_more (vrL l ages sizes some_) n3 k hlt)
            rw [HV.out, HVal.out] at HM
            simp only at HM
            obtain ⟨dv, hdv⟩ : ∃ dv, dens l age = dv := ⟨_, rfl⟩
            rw [hdv] at D HM
            have g0 := B2.out.cell (k := k * 2) (by rw [HLen.out]; omega)
            have g1 := B2.out.cell (k := k * 2 + 1) (by rw [HLen.out]; omega)
            have f0 := B2.out.frozen (k * 2)
            have f1 := B2.out.frozen (k * 2 + 1)
            have HM1 := Lib.hid (fun W (hW : Below wr.heap.size wr W) => ((B2.out.below hW).set (k * 2) dv).set (k * 2 + 1) size)
            have HM2 := Lib.hid (fun W (hW : Below wr.heap.size wr W) => ((B1.out.below hW).other (a := ⟨w.heap.size + 1, k * 2, none⟩) (by simp) (.int .u64 (dv : Int))).other (a := ⟨w.heap.size + 1, k * 2 + 1, none⟩) (by simp) (.int .u64 (size : Int)))
            clear hage hsize hdv hS1 hS2 q1 q2
            go_wp2_with fail
            (refine region_later_tail 14 (by kernel_rfl) (by kernel_rfl) ?_); (intro hlat); (simp only [List.take_succ_cons, List.take_zero, List.drop_succ_cons, List.drop_zero]); (repeat ((first | (refine wpQuiet_load_blk rfl 49 (.tmp 4) rfl w.heap.size 49 l (by rfl) (later_blk B1.out) _ Try.underlying49 rfl HI.out ?_; (simp only [Act.put, List.setIfInBounds_toArray, List.set_cons_zero, List.set_cons_succ])) | go_big_quiet_step ((go_at_call 38; with_reducible exact later_call (D _)))))); (refine wpQuiet_nil ?_); (intro W1 hbW); (clear hlat)
            have B2W := Lib.hid (B2.out.below hbW)
            have hy3 := B2W.out.lt
            have g0 := B2W.out.cell (k := k * 2) (by rw [HLen.out]; omega)
            have g1 := B2W.out.cell (k := k * 2 + 1) (by rw [HLen.out]; omega)
            have f0 := B2W.out.frozen (k * 2)
            have f1 := B2W.out.frozen (k * 2 + 1)
            have HBW := Lib.hid hbW
            clear hbW
            go_wp2_with fail
            go_roundw
            case rel => exact ⟨k + 1, by omega, by go_num, Lib.hid (HM2.out W1 HBW.out), Lib.hid (by rw [← HM.out]; exact HM1.out W1 HBW.out), ((chain HB.out HBW.out).setCell (by simp) _).setCell (by simp) _⟩
            case measure => first | (simp [intOf]; done) | (simp [intOf]; omega)
          · have hq : decide (id < (n2 : Int)) = false := by simp; omega
            have HS := Lib.hid (rk_skip (vrL l ages sizes some_) n3 k (by rw [HV.out]; unfold vrAt; rw [if_neg (by rw [L2.out]; omega)]))
            clear q2
            go_wp2_with fail
            go_roundw
            case rel => exact ⟨k + 1, by omega, by go_num, B1, Lib.hid (by rw [← HS.out]; exact B2.out), HB.out⟩
            case measure => first | (simp [intOf]; done) | (simp [intOf]; omega)
        · have hq : decide (id < (n1 : Int)) = false := by simp; omega
          have HS := Lib.hid (rk_skip (vrL l ages sizes some_) n3 k (by rw [HV.out]; unfold vrAt; rw [if_neg (by rw [L1.out]; omega)]))
          clear q1
          go_wp2_with fail
          go_roundw
          case rel => exact ⟨k + 1, by omega, by go_num, B1, Lib.hid (by rw [← HS.out]; exact B2.out), HB.out⟩
          case measure => first | (simp [intOf]; done) | (simp [intOf]; omega)
      · have hq : decide (0 ≤ id) = false := by simp; omega
        have HS := Lib.hid (rk_skip (vrL l ages sizes some_) n3 k (by rw [HV.out]; unfold vrAt; rw [if_neg (by omega)]))
        clear q0
        go_wp2_with fail
        go_roundw
        case rel => exact ⟨k + 1, by omega, by go_num, B1, Lib.hid (by rw [← HS.out]; exact B2.out), HB.out⟩
        case measure => first | (simp [intOf]; done) | (simp [intOf]; omega)
    · obtain rfl : k = n3 := by omega
      have LS := least_t (some ⟨w.heap.size + 1, 0, none⟩) k k (vsI (vrL l ages sizes some_)) a f HF.out (vr_64 l ages sizes some_ HSZ.out) hn3 wr (rk_sees B2.out (by unfold vrL; rw [List.length_map]; exact L3.out))
      have H3' := Lib.hid (H3.out.below hb)
      clear hb
      go_wp2_with fail
      refine LS.mono ?_
      rintro e w9 ⟨rfl, hb9⟩
      have HB9 := Lib.hid (chain HB.out hb9)
      have H3'' := Lib.hid (H3'.out.below hb9)
      clear hb9 LS
      cases f with
      | false =>
        have HR0 : Hid (R = 0) := Lib.hid (by have := HR.out; rw [if_neg (by simp)] at this; exact this.symm)
        go_wp2_with fail
        go_ret2
        exact ⟨by rw [HR0.out]; rfl, HB9.out⟩
      | true =>
        have HR0 : Hid (some_.getD a 0 = R) := Lib.hid (by have := HR.out; rw [if_pos rfl] at this; exact this)
        have han := HA.out rfl
        have han' : (a : Int) < (k : Int) := by omega
        rcases H3''.out.2 with h0 | ⟨b3, o3, rfl, hb3, _⟩
        · omega
        have s3 := H3''.out.int han
        rw [HR0.out] at s3
        go_wp2_with fail
        go_ret2
        exact ⟨rfl, HB9.out⟩
end Go.Proofs.Try
