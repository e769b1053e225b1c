/- linhayref14.Sorted and Find. -/
import Derived.Test.YtgkiijpheigpjaaHr4
namespace Go.Proofs.Try
open Go.RowKit
set_option linter.unusedVariables false
set_option linter.unusedSimpArgs false
theorem srt_step {l s : List It} {k : Nat} (hc : chkI l) (hk : k < l.length) (hp : s.Perm (l.take k)) (hr : rises s) : (wI s (atI l k)).Perm (l.take (k + 1)) ∧ rises (wI s (atI l k)) := by
  have h := ((chk_step hk).1 (chk_take hc (k + 1))).2.2.1
  rw [← hasI_perm hp] at h
  have e : wI s (atI l k) = insI s (atI l k) := by unfold wI; rw [wo_not h]
  rw [e]
  refine ⟨?_, insI_rises hr (fun y hy e2 => ?_)⟩
  · rw [take_one hk]
    refine (insI_perm _ _).trans ?_
    exact (List.Perm.cons _ hp).trans (List.perm_append_comm (l₁ := [atI l k]) (l₂ := l.take k))
  · have : hasI s (atI l k).1 = true := (hasI_iff _ _).2 ⟨y, hy, by rw [e2]⟩
    rw [h] at this
    exact absurd this (by simp)
set_option maxRecDepth 100000 in
set_option maxHeartbeats 4000000 in
theorem rsorted_c (v : Value) (n : Nat) (l : List It) (hn : n ≤ 900) (w : World) (h : Rows encI 3 w v n l) :
    Calls Try.prog 16 #[v] w (SortE (SortP l) w) := by
  have CK := rcheck_c v n l (by omega) w h
  obtain ⟨A, c, rfl, hcp, _, hl, hs⟩ := h
  have HL := Lib.hid hl
  have HH := Lib.hid hs
  clear hl hs hcp
  by_cases hc : chkI l
  · rw [decide_eq_true hc] at CK
    have HC := Lib.hid hc
    clear hc
    go_enter Try.func16, Try.ntmps16
    go_wp2_with fail
    refine CK.mono ?_
    rintro e w1 ⟨rfl, hb1⟩
    have HB1 := Lib.hid hb1
    clear hb1 CK
    go_wp2_with fail
    go_loopw [4, 5] (fun u i wr => ∃ (k : Nat) (s : List It), k ≤ n ∧ i = .int .i64 k ∧ Hid (s.Perm (l.take k)) ∧ Hid (rises s) ∧ Hid (Rows encI 3 wr u s.length s) ∧ Hid (Below w.heap.size w wr)) (fun _ i _ => n - (intOf i).toNat)
    case atStart => exact ⟨0, [], by omega, rfl, Lib.hid (by rw [List.take_zero]), Lib.hid (by simp [rises]), Lib.hid (Rows.nil _ _ _), HB1⟩
    case round =>
      clear HB1
      obtain ⟨k, s, hk, rfl, HP, HR, HS, HB⟩ := hrel
      by_cases hlt : k < n
      · have hs := HH.out.below HB.out
        obtain ⟨b, off, rfl, hbl⟩ := Rows.some hs (by omega)
        obtain ⟨c0, c1, c2, _⟩ := hs.item hlt
        have hkl : k < l.length := by rw [HL.out]; exact hlt
        have hlt' : (k : Int) < (n : Int) := by omega
        have HN := Lib.hid (srt_step HC.out hkl HP.out HR.out)
        obtain ⟨x0, hx0⟩ : ∃ x, (atI l k).1 = x := ⟨_, rfl⟩
        obtain ⟨x1, hx1⟩ : ∃ x, (atI l k).2.1 = x := ⟨_, rfl⟩
        obtain ⟨x2, hx2⟩ : ∃ x, (atI l k).2.2 = x := ⟨_, rfl⟩
        have HX := Lib.hid (show atI l k = (x0, x1, x2) by rw [← hx0, ← hx1, ← hx2])
        rw [hx0] at c0
        rw [hx1] at c1
        rw [hx2] at c2
        clear hx0 hx1 hx2 hkl hs
        have hsl : s.length ≤ 1000 := by
          have h1 := HP.out.length_eq
          rw [List.length_take] at h1
          omega
        have WC := fun W h => with_c u4 s.length s x0 x1 x2 hsl W h
        clear hsl
        go_wp2_with fail
        refine (WC _ HS.out).mono ?_
        rintro e w2 ⟨⟨v2, rfl, hr2⟩, hb2⟩
        have HR2 := Lib.hid hr2
        have HB2 := Lib.hid (chain HB.out hb2)
        clear hr2 hb2 WC
        go_wp2_with fail
        go_roundw
        case rel => exact ⟨k + 1, wI s (x0, x1, x2), by omega, by go_num, Lib.hid (by have := HN.out.1; rwa [HX.out] at this), Lib.hid (by have := HN.out.2; rwa [HX.out] at this), HR2, HB2⟩
        case measure => first | (simp [intOf]; done) | (simp [intOf]; omega)
      · have hke : k = n := by omega
        subst hke
        have HT := Lib.hid (show l.take k = l by rw [← HL.out, List.take_length])
        go_wp2_with fail
        go_ret
        exact ⟨_, s, rfl, .inr ⟨HC.out, by have := HP.out; rwa [HT.out] at this, HR.out⟩, HS.out, HB.out⟩
  · rw [decide_eq_false hc] at CK
    have HC := Lib.hid hc
    clear hc
    go_enter Try.func16, Try.ntmps16
    go_wp2_with fail
    refine CK.mono ?_
    rintro e w1 ⟨rfl, hb1⟩
    have HB1 := Lib.hid hb1
    clear hb1 CK
    by_cases hz : 0 < n
    · have hz' : (0 : Int) < (n : Int) := by omega
      go_wp2_with fail
      go_loopw [4, 5] (fun u i wr => u = .slice none 0 0 ∧ i = .int .i64 0 ∧ wr = w1) (fun _ i _ => 0)
      case atStart => exact ⟨rfl, rfl, rfl⟩
      case round =>
        obtain ⟨rfl, rfl, rfl⟩ := hrel
        go_wp2_with fail
        go_ret
        exact ⟨_, [], rfl, .inl ⟨HC.out, rfl⟩, Rows.nil _ _ _, HB1.out⟩
    · have hz0 : n = 0 := by omega
      subst hz0
      go_wp2_with fail
      go_loopw [4, 5] (fun u i wr => u = .slice none 0 0 ∧ i = .int .i64 0 ∧ wr = w1) (fun _ i _ => 0)
      case atStart => exact ⟨rfl, rfl, rfl⟩
      case round =>
        obtain ⟨rfl, rfl, rfl⟩ := hrel
        go_wp2_with fail
        go_ret
        exact ⟨_, [], rfl, .inl ⟨HC.out, rfl⟩, Rows.nil _ _ _, HB1.out⟩
def RFindP (l : List It) (z : Int) (x : It) (b : Bool) : Prop := (hasI l z = true ∧ x ∈ l ∧ x.1 = z ∧ b = true) ∨ (hasI l z = false ∧ x = (0, 0, 0) ∧ b = false)
set_option maxRecDepth 100000 in
set_option maxHeartbeats 4000000 in
theorem rfind_c (v : Value) (n : Nat) (l : List It) (z : Int) (hn : n ≤ 1000) (w : World) (h : Rows encI 3 w v n l) :
    Calls Try.prog 18 #[v, .int .i64 z] w (FindE (RFindP l z) w) := by
  have HT := Lib.hid (triW.new w (.int .i64 0) (.int .u64 0) (.int .u64 0) 25)
  have HB := Lib.hid (chain1 (Below.refl w.heap.size w) (.cells #[.int .i64 0, .int .u64 0, .int .u64 0] 25))
  obtain ⟨A, c, rfl, hcp, _, hl, hs⟩ := h
  have HL := Lib.hid hl
  have HH := Lib.hid hs
  clear hl hs hcp
  go_enter Try.func18, Try.ntmps18
  go_wp2_with fail
  go_loopw [6] (fun i wr => ∃ k : Nat, k ≤ n ∧ i = .int .i64 k ∧ Hid (∀ a, a < k → (atI l a).1 ≠ z) ∧ Hid (triW wr w.heap.size (.int .i64 0) (.int .u64 0) (.int .u64 0)) ∧ Hid (Below w.heap.size w wr)) (fun i _ => n - (intOf i).toNat)
  case atStart => exact ⟨0, by omega, rfl, Lib.hid (fun a ha => by omega), HT, HB⟩
  case round =>
    clear HT HB
    obtain ⟨k, hk, rfl, HM, HT, HB⟩ := hrel
    obtain ⟨⟨t0, t1, t2, tl⟩, f0, f1, f2⟩ := HT.out
    by_cases hlt : k < n
    · have hs := HH.out.below HB.out
      obtain ⟨b, off, rfl, hbl⟩ := Rows.some hs (by omega)
      obtain ⟨c0, c1, c2, _⟩ := hs.item hlt
      have hkl : k < l.length := by rw [HL.out]; exact hlt
      have HKL := Lib.hid hkl
      have hlt' : (k : Int) < (n : Int) := by omega
      clear hs hkl
      by_cases he : (atI l k).1 = z
      · have HE := Lib.hid he
        have HMM := Lib.hid (List.mem_of_getElem? (atI_some HKL.out))
        have HH1 := Lib.hid ((hasI_iff l z).2 ⟨_, HMM.out, he⟩)
        have heq : ((atI l k).1 == z) = true := by simp [he]
        clear he
        go_wp2_with fail
        obtain ⟨r0, r1, r2, _⟩ := HT.out.set (.int .i64 (atI l k).1) (.int .u64 (atI l k).2.1) (.int .u64 (atI l k).2.2)
        refine bodyPost_ret (by simp [results, Try.results18, go_sem, r0, r1, r2]; try rfl) rfl ?_
        exact ⟨_, _, _, true, rfl, .inl ⟨HH1.out, HMM.out, HE.out, rfl⟩, by have := HB.out; (repeat' (first | (with_reducible exact Below.refl _ _) | (with_reducible assumption) | (with_reducible refine Below.alloc ?_ ?_ _) | (with_reducible refine Below.drew ?_) | (with_reducible refine Below_drewN ?_ _) | (with_reducible refine Below.setCell ?_ ?_ _) | (refine Below.step (B' := ?_) (b := ?_) ?_ ?_ ?_; rotate_left 2; (with_reducible assumption)) | go_size))⟩
      · have heq : ((atI l k).1 == z) = false := by simp [he]
        have HM2 : Hid (∀ a, a < k + 1 → (atI l a).1 ≠ z) := Lib.hid (fun a ha => by
          by_cases e : a = k
          · rw [e]; exact he
          · exact HM.out a (by omega))
        clear he
        generalize (atI l k).1 = y0 at *
        go_wp2_with fail
        go_roundw
        case rel => exact ⟨k + 1, by omega, by go_num, HM2, HT, HB⟩
        case measure => first | (simp [intOf]; done) | (simp [intOf]; omega)
    · have hke : k = n := by omega
      subst hke
      have HN := Lib.hid (show hasI l z = false by
        have := has_none (l := l) (z := z) k (by rw [HL.out]; exact Nat.le_refl _) HM.out
        rwa [show l.take k = l by rw [← HL.out, List.take_length]] at this)
      go_wp2_with fail
      obtain ⟨r0, r1, r2, _⟩ := HT.out.set (.int .i64 0) (.int .u64 0) (.int .u64 0)
      refine bodyPost_ret (by simp [results, Try.results18, go_sem, r0, r1, r2]; try rfl) rfl ?_
      exact ⟨0, 0, 0, false, rfl, .inr ⟨HN.out, rfl, rfl⟩, by have := HB.out; (repeat' (first | (with_reducible exact Below.refl _ _) | (with_reducible assumption) | (with_reducible refine Below.alloc ?_ ?_ _) | (with_reducible refine Below.drew ?_) | (with_reducible refine Below_drewN ?_ _) | (with_reducible refine Below.setCell ?_ ?_ _) | (refine Below.step (B' := ?_) (b := ?_) ?_ ?_ ?_; rotate_left 2; (with_reducible assumption)) | go_size))⟩
end Go.Proofs.Try
