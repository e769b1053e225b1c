/- The walk of LhdVictim. -/
import Derived.Test.YtjkjnpcikddoaaaW19
import Derived.Test.YtjkjnpcikddoaaaVic
import Derived.Test.YtjkjnpcikddoaaaTailB
import Derived.Test.YtjkjnpcikddoaaaRow
namespace Go.Proofs.Try
open Go.RowKit
set_option linter.unusedVariables false
set_option linter.unusedSimpArgs false
theorem row_nats {w : World} {v : Value} {xs : List Int} (h : Row w .u64 v xs) : ∃ A n c, ∃ l : List Nat, v = .slice A n c ∧ Sees w 1 A n (l.map fun (n : Nat) => Value.int .u64 (n : Int)) ∧ (∀ k, l.getD k 0 < 18446744073709551616) := by
  obtain ⟨A, n, c, rfl, _, _, hs, hx⟩ := h
  refine ⟨A, n, c, xs.map Int.toNat, rfl, ?_, fun k => ?_⟩
  · have e : (xs.map Int.toNat).map (fun (n : Nat) => Value.int .u64 (n : Int)) = xs.map (Value.int .u64) := by
      rw [List.map_map]
      apply List.map_congr_left
      intro x hm
      have := bounds_u64 (hx x hm)
      show Value.int .u64 ((x.toNat : Nat) : Int) = _
      rw [Int.toNat_of_nonneg this.1]
    rw [e]
    exact hs
  · rw [List.getD_eq_getElem?_getD, List.getElem?_map]
    cases hk : xs[k]? with
    | none => simp
    | some x =>
      have := bounds_u64 (hx x (List.mem_of_getElem? hk))
      show x.toNat < _
      omega
set_option maxRecDepth 100000 in
set_option maxHeartbeats 4000000 in
theorem vic_false (l : List Nat) (hl : Rk l) (A1 A2 A3 : Option Addr) (n1 n2 n3 c1 c2 c3 : Nat) (ages : List Int) (sizes : List Nat) (some_ : List Int) (hn1 : n1 ≤ 100) (hn2 : n2 ≤ 100) (hn3 : n3 ≤ 100) (hsz : ∀ k, sizes.getD k 0 < 18446744073709551616)
    (a : Nat) (hf : lstS (vsI (vrL l ages sizes some_)) n3 = (a, false)) (w : World)
    (h1 : Sees w 1 A1 n1 (ages.map (Value.int .i64))) (h2 : Sees w 1 A2 n2 (sizes.map fun (n : Nat) => Value.int .u64 (n : Int))) (h3 : Sees w 1 A3 n3 (some_.map (Value.int .i64))) :
    Calls Try.prog 12 #[.agg (u64V l), .slice A1 n1 c1, .slice A2 n2 c2, .slice A3 n3 c3] w fun e w' => e = .returned (.bool true) ∧ Below w.heap.size w w' := by
  have L1 := Lib.hid (show ages.length = n1 from h1.len)
  have L2 := Lib.hid (show sizes.length = n2 by have := h2.1; simpa using this)
  have L3 := Lib.hid (show some_.length = n3 from h3.len)
  obtain ⟨a0, hvn⟩ := vic_no l ages sizes some_ hsz a (by rw [L3.out]; exact hf)
  have HVn := Lib.hid (show ∀ k, k < n3 → (vrAt l ages sizes (some_.getD k 0)).2 = 0 from fun k hk => hvn k (by rw [L3.out]; exact hk))
  clear hvn a0
  have H1 := Lib.hid h1
  have H2 := Lib.hid h2
  have H3 := Lib.hid h3
  have HSZ := Lib.hid hsz
  have HRk := Lib.hid hl
  have HI := Lib.hid (rk_info hl)
  have qn1 : decide (100 < (n1 : Int)) = false := by simp; omega
  have qn2 : decide (100 < (n2 : Int)) = false := by simp; omega
  have qn3 : decide (100 < (n3 : Int)) = false := by simp; omega
  have VC := fun W => victim_c l hl A1 A2 A3 n1 n2 n3 c1 c2 c3 ages sizes some_ (by omega) (by omega) (by omega) hsz a false hf (fun h => by cases h) 0 (by rw [if_neg (by simp)]) W
  clear h1 h2 h3 hsz hl hf
  go_enter Try.func12, Try.ntmps12
  have Br := Lib.hid (blk.new w l 49)
  have yr := Br.out.lt
  have HBW := Lib.hid ((Below.refl w.heap.size w).alloc (Nat.le_refl _) (.cells (u64V l) 49))
  go_wp2_with fail
  with_reducible refine (awake19 _).mono ?_
  rintro e w1 ⟨rfl, hb1⟩
  dsimp only
  replace HBW := Lib.hid (chain HBW.out hb1)
  replace Br := Lib.hid (Br.out.below hb1)
  replace yr := Br.out.lt
  clear hb1
  go_wp2_with (first
    | (refine wpList_load_blk rfl 49 (.tmp 4) rfl w.heap.size 49 l (by rfl) (Br.out) _ Try.underlying49 rfl HI.out ?_))
  with_reducible refine (VC _ (H1.out.below HBW.out) (H2.out.below HBW.out) (H3.out.below HBW.out)).mono ?_
  rintro e w2 ⟨rfl, hb2⟩
  dsimp only
  replace HBW := Lib.hid (chain HBW.out hb2)
  replace Br := Lib.hid (Br.out.below hb2)
  replace yr := Br.out.lt
  clear hb2
  go_wp2_with fail
  clear VC qn1 qn2 qn3
  go_loopw [12, 13] (fun s i wr => ∃ k : Nat, k ≤ n3 ∧ i = .int .i64 k ∧ s = .bool false ∧ Hid (blk wr w.heap.size 49 l) ∧ Below w.heap.size w wr) (fun _ i _ => n3 - (intOf i).toNat)
  case atStart => exact ⟨0, by omega, rfl, rfl, Br, HBW.out⟩
  case round =>
    obtain ⟨k, hk, rfl, rfl, Br, hb⟩ := hrel
    have yr := Br.out.lt
    have hz := hb.size
    have HB := Lib.hid hb
    clear HBW
    by_cases hlt : k < n3
    · have hlt' : (k : Int) < (n3 : Int) := by omega
      have hS3 := H3.out.below hb
      clear hb
      rcases hS3.2 with h0 | ⟨b3, o3, rfl, hb3, _⟩
      · omega
      have s3 := hS3.int hlt
      have HV := Lib.hid (HVn.out k hlt)
      obtain ⟨id, hid⟩ : ∃ id, some_.getD k 0 = id := ⟨_, rfl⟩
      rw [hid] at s3 HV
      clear hid hS3
      by_cases q0 : 0 ≤ id
      · by_cases q1 : id < (n1 : Int)
        · by_cases q2 : id < (n2 : Int)
          · obtain ⟨j, rfl⟩ := Int.eq_ofNat_of_zero_le q0
            have hS2 := H2.out.below HB.out
            rcases hS2.2 with h0 | ⟨b2, o2, rfl, hb2, _⟩
            · omega
            have s2 := (hS2.nat (j := j) (by omega)).1
            have q1n : decide (n1 ≤ j) = false := by simp; omega
            have q2n : decide (n2 ≤ j) = false := by simp; omega
            have q1m : ¬(n1 ≤ j) := by omega
            have q2m : ¬(n2 ≤ j) := by omega
            have HVal : Hid (vrAt l ages sizes (j : Int) = (dens l (ages.getD j 0), sizes.getD j 0)) := Lib.hid (by
              unfold vrAt
              rw [if_pos ⟨by omega, by rw [L1.out]; exact q1, by rw [L2.out]; exact q2⟩, Int.toNat_natCast])
            obtain ⟨size, hsize⟩ : ∃ size, sizes.getD j 0 = size := ⟨_, rfl⟩
            have HSB := Lib.hid (HSZ.out j)
            rw [hsize] at s2 HVal HSB
            clear hS2
            by_cases q3 : size = 0
            · subst q3
              clear q1 q2
              go_wp2_with fail
              go_roundw
              case rel => exact ⟨k + 1, by omega, by go_num, rfl, Br, HB.out⟩
              case measure => first | (simp [intOf]; done) | (simp [intOf]; omega)
            · exact absurd (show size = 0 by have := HV.out; rw [HVal.out] at this; exact this) q3
          · have hq1 : decide ((n1 : Int) ≤ id) = false := by simp; omega
            have hr1 : ¬((n1 : Int) ≤ id) := by omega
            have hq0 : decide (id < 0) = false := by simp; omega
            have hr0 : ¬(id < 0) := by omega
            clear q1 q0
            have hq : decide ((n2 : Int) ≤ id) = true := by simp; omega
            have hr : (n2 : Int) ≤ id := by omega
            clear q2
            go_wp2_with fail
            go_roundw
            case rel => exact ⟨k + 1, by omega, by go_num, rfl, Br, HB.out⟩
            case measure => first | (simp [intOf]; done) | (simp [intOf]; omega)
        · have hq0 : decide (id < 0) = false := by simp; omega
          have hr0 : ¬(id < 0) := by omega
          clear q0
          have hq : decide ((n1 : Int) ≤ id) = true := by simp; omega
          have hr : (n1 : Int) ≤ id := by omega
          clear q1
          go_wp2_with fail
          go_roundw
          case rel => exact ⟨k + 1, by omega, by go_num, rfl, Br, HB.out⟩
          case measure => first | (simp [intOf]; done) | (simp [intOf]; omega)
      · have hq : decide (id < 0) = true := by simp; omega
        have hr : id < 0 := by omega
        clear q0
        go_wp2_with fail
        go_roundw
        case rel => exact ⟨k + 1, by omega, by go_num, rfl, Br, HB.out⟩
        case measure => first | (simp [intOf]; done) | (simp [intOf]; omega)
    · obtain rfl : k = n3 := by omega
      go_wp2_with fail
      go_ret
      exact ⟨rfl, hb⟩
end Go.Proofs.Try
