/- linhayref14: Less, Without, Has, Find. -/
import Derived.Test.YtgkiijpheigpjaaStp
namespace Go.Proofs.Try
open Go.RowKit
set_option linter.unusedVariables false
set_option linter.unusedSimpArgs false
set_option maxRecDepth 100000 in
set_option maxHeartbeats 2000000 in
theorem rless_c (a0 a1 a2 b0 b1 b2 : Int) (w : World) : Calls Try.prog 23 #[.agg #[.int .i64 a0, .int .u64 a1, .int .u64 a2], .agg #[.int .i64 b0, .int .u64 b1, .int .u64 b2]] w fun e w' => e = .returned (.bool (decide (LtI (a0, a1, a2) (b0, b1, b2)))) ∧ Below w.heap.size w w' := by
  by_cases h1 : a1 = b1
  · by_cases h2 : a2 = b2
    · have HE := Lib.hid (show decide (LtI (a0, a1, a2) (b0, b1, b2)) = decide (a0 < b0) from decide_eq_decide.2 (by unfold LtI; simp only; omega))
      have q1 : (a1 != b1) = false := by simp [h1]
      have q2 : (a2 != b2) = false := by simp [h2]
      clear h1 h2
      go_enter Try.func23, Try.ntmps23
      go_wp2_with fail
      go_ret
      exact ⟨ret_b HE.out.symm, by (repeat' (first | (with_reducible exact Below.refl _ _) | (with_reducible assumption) | (with_reducible refine Below.alloc ?_ ?_ _) | (with_reducible refine Below.drew ?_) | (with_reducible refine Below_drewN ?_ _) | (with_reducible refine Below.setCell ?_ ?_ _) | (refine Below.step (B' := ?_) (b := ?_) ?_ ?_ ?_; rotate_left 2; (with_reducible assumption)) | go_size))⟩
    · have HE := Lib.hid (show decide (LtI (a0, a1, a2) (b0, b1, b2)) = decide (a2 < b2) from decide_eq_decide.2 (by unfold LtI; simp only; omega))
      have q1 : (a1 != b1) = false := by simp [h1]
      have q2 : (a2 != b2) = true := by simp [h2]
      clear h1 h2
      go_enter Try.func23, Try.ntmps23
      go_wp2_with fail
      go_ret
      exact ⟨ret_b HE.out.symm, by (repeat' (first | (with_reducible exact Below.refl _ _) | (with_reducible assumption) | (with_reducible refine Below.alloc ?_ ?_ _) | (with_reducible refine Below.drew ?_) | (with_reducible refine Below_drewN ?_ _) | (with_reducible refine Below.setCell ?_ ?_ _) | (refine Below.step (B' := ?_) (b := ?_) ?_ ?_ ?_; rotate_left 2; (with_reducible assumption)) | go_size))⟩
  · have HE := Lib.hid (show decide (LtI (a0, a1, a2) (b0, b1, b2)) = decide (a1 < b1) from decide_eq_decide.2 (by unfold LtI; simp only; omega))
    have q1 : (a1 != b1) = true := by simp [h1]
    clear h1
    go_enter Try.func23, Try.ntmps23
    go_wp2_with fail
    go_ret
    exact ⟨ret_b HE.out.symm, by (repeat' (first | (with_reducible exact Below.refl _ _) | (with_reducible assumption) | (with_reducible refine Below.alloc ?_ ?_ _) | (with_reducible refine Below.drew ?_) | (with_reducible refine Below_drewN ?_ _) | (with_reducible refine Below.setCell ?_ ?_ _) | (refine Below.step (B' := ?_) (b := ?_) ?_ ?_ ?_; rotate_left 2; (with_reducible assumption)) | go_size))⟩
theorem wo_one (l : List It) (k : Nat) (hk : k < l.length) (z : Int) : wo (l.take (k + 1)) z = wo (l.take k) z ++ (if (atI l k).1 = z then [] else [atI l k]) := by
  rw [take_one hk]
  unfold wo
  rw [List.filter_append]
  congr 1
  by_cases h : (atI l k).1 = z
  · simp [h]
  · simp [h]
set_option maxRecDepth 100000 in
set_option maxHeartbeats 4000000 in
theorem without_c (v : Value) (n : Nat) (l : List It) (z : Int) (hn : n ≤ 1000) (w : World) (h : Rows encI 3 w v n l) :
    Calls Try.prog 30 #[v, .int .i64 z] w fun e w' => (∃ v', e = .returned v' ∧ Rows encI 3 w' v' (wo l z).length (wo l z)) ∧ Below w.heap.size w w' := by
  obtain ⟨i0, hi, hz0, hz1, hz2⟩ := info_parts item_info
  obtain ⟨A, c, rfl, hc, _, hl, hs⟩ := h
  have HL := Lib.hid hl
  have HH := Lib.hid hs
  have hwl := wo_len l z
  rw [hl] at hwl
  clear hl hs hc
  go_enter Try.func30, Try.ntmps30
  go_wp2_with fail
  go_loopw [5, 6] (fun v i wr => ∃ k m : Nat, k ≤ n ∧ m ≤ k ∧ i = .int .i64 k ∧ Hid ((wo (l.take k) z).length = m) ∧ Hid (wr.ownsRow w.heap.size 25 3 v m (flat encI (wo (l.take k) z))) ∧ Hid (Below w.heap.size w wr)) (fun _ i _ => n - (intOf i).toNat)
  case atStart => exact ⟨0, 0, by omega, by omega, rfl, Lib.hid rfl, Lib.hid (World.ownsRow_nil _ _ _ _), Lib.hid (Below.refl _ _)⟩
  case round =>
    obtain ⟨k, m, hk, hm, rfl, HM, HO, HB⟩ := hrel
    by_cases hlt : k < n
    · have hs := HH.out.below HB.out
      obtain ⟨b, off, rfl, hbl⟩ := Rows.some hs (by omega)
      obtain ⟨s0, s1, s2, _⟩ := hs.item hlt
      have hlt' : (k : Int) < (n : Int) := by omega
      have hkl : k < l.length := by rw [HL.out]; exact hlt
      have HW := Lib.hid (wo_one l k hkl z)
      have hbz := HB.out.size
      clear hs hkl
      by_cases he : (atI l k).1 = z
      · have hne : ((atI l k).1 != z) = false := by simp [he]
        have HW2 := Lib.hid (show wo (l.take (k + 1)) z = wo (l.take k) z by rw [HW.out, if_pos he]; simp)
        clear he
        generalize (atI l k).1 = y0 at *
        go_wp2_with fail
        go_roundw
        case rel => exact ⟨k + 1, m, by omega, by omega, by go_num, Lib.hid (by rw [HW2.out]; exact HM.out), Lib.hid (by rw [HW2.out]; exact HO.out), HB⟩
        case measure => first | (simp [intOf]; done) | (simp [intOf]; omega)
      · have hne : ((atI l k).1 != z) = true := by simp [he]
        obtain ⟨y0, hy0⟩ : ∃ x, (atI l k).1 = x := ⟨_, rfl⟩
        obtain ⟨y1, hy1⟩ : ∃ x, (atI l k).2.1 = x := ⟨_, rfl⟩
        obtain ⟨y2, hy2⟩ : ∃ x, (atI l k).2.2 = x := ⟨_, rfl⟩
        have HW2 := Lib.hid (show wo (l.take (k + 1)) z = wo (l.take k) z ++ [(y0, y1, y2)] by rw [HW.out, if_neg he, ← hy0, ← hy1, ← hy2])
        rw [hy0] at s0 hne
        rw [hy1] at s1
        rw [hy2] at s2
        clear he hy0 hy1 hy2 HW
        go_wp2_with (at_builtin
                     refine wpList_app rfl (.tmp 20) (.tmp 25) _ rfl w.heap.size 25 i0 _ 3 24 Try.underlying22 hi hz0 hz1 hz2 rfl (by omega) u5 m (flat encI (wo (l.take k) z)) rfl (HO.out.alloc _) (some ⟨wr.heap.size, 0, none⟩) 1 1 [.int .i64 y0, .int .u64 y1, .int .u64 y2] rfl (cap_some (by omega)) (sees_blk _ _ _ 3 1 rfl) (by simp [Value.oneCell']) (by unfold maxLen; omega) (by omega) (by simp; omega) ?_
                     intro v4 w4 hown4 hb4)
        have HO4 := Lib.hid hown4
        have HB4 := Lib.hid (Below.step1 HB.out hb4 hbz)
        clear hown4 hb4
        go_roundw
        case rel => exact ⟨k + 1, m + 1, by omega, by omega, by go_num, Lib.hid (by rw [HW2.out, List.length_append, HM.out]; rfl), Lib.hid (by rw [HW2.out, flat_app]; exact HO4.out), HB4⟩
        case measure => first | (simp [intOf]; done) | (simp [intOf]; omega)
    · have hke : k = n := by omega
      subst hke
      have HT := Lib.hid (show l.take k = l by rw [← HL.out, List.take_length])
      go_wp2_with fail
      go_ret
      refine ⟨⟨_, rfl, ?_⟩, HB.out⟩
      have := HO.out
      have h2 := HM.out
      rw [HT.out] at this h2
      rw [h2]
      exact Rows.of_own this h2 (by omega)
set_option maxRecDepth 100000 in
set_option maxHeartbeats 2000000 in
theorem has14_c (v : Value) (n : Nat) (l : List It) (z : Int) (hn : n ≤ 1000) (w : World) (h : Rows encI 3 w v n l) :
    Calls Try.prog 29 #[v, .int .i64 z] w fun e w' => e = .returned (.bool (hasI l z)) ∧ Below w.heap.size w w' := by
  have HL := Lib.hid h.len
  have WC := without_c v n l z hn w h
  obtain ⟨A, c, rfl, _⟩ := h
  go_enter Try.func29, Try.ntmps29
  go_wp2_with fail
  refine WC.mono ?_
  rintro e w1 ⟨⟨v1, rfl, hr⟩, hb1⟩
  obtain ⟨A1, c1, rfl, _⟩ := hr
  have HE := Lib.hid (show decide ((((wo l z).length : Nat) : Int) < (n : Int)) = hasI l z by
    have h1 := wo_len l z
    have h2 := HL.out
    cases hh : hasI l z with
    | false => rw [wo_not hh]; exact decide_eq_false (by omega)
    | true =>
      apply decide_eq_true
      have : (wo l z).length ≠ l.length := by
        intro e
        have h3 : wo l z = l := List.filter_sublist.eq_of_length e
        obtain ⟨y, hy, hz⟩ := (hasI_iff l z).1 hh
        rw [← h3] at hy
        exact (wo_mem.1 hy).2 hz
      omega)
  generalize (wo l z).length = m at *
  go_wp2_with fail
  go_ret
  exact ⟨by rw [← HE.out]; first | rfl | (simp; done), hb1⟩
end Go.Proofs.Try
