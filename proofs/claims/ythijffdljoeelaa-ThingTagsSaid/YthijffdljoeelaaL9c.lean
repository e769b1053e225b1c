/- The walk of ThingFew. -/
import Derived.Test.YthijffdljoeelaaTexts
namespace Go.Proofs.Try
open Go.RowKit
set_option linter.unusedVariables false
set_option linter.unusedSimpArgs false

theorem dd_snoc (ss : List ByteArray) (s : ByteArray) : dd (ss ++ [s]) = addB (dd ss) s := by
  unfold dd; rw [List.foldl_append]; rfl
theorem dd_old (ss : List ByteArray) (s : ByteArray) (h : s ∈ ss) : (dd (ss ++ [s])).length = (dd ss).length := by
  rw [dd_snoc, addB_pos ((dd_mem ss s).2 h)]
theorem dd_new (ss : List ByteArray) (s : ByteArray) (h : ¬ s ∈ ss) : (dd (ss ++ [s])).length = (dd ss).length + 1 := by
  rw [dd_snoc, addB_neg (fun e => h ((dd_mem ss s).1 e)), List.length_append]; rfl
def rightB (ss : List ByteArray) : Bool := ss.all fun s => decide (1 ≤ s.size ∧ s.size ≤ 8)
theorem rightB_snoc (ss : List ByteArray) (s : ByteArray) : rightB (ss ++ [s]) = (rightB ss && decide (1 ≤ s.size ∧ s.size ≤ 8)) := by
  unfold rightB; rw [List.all_append]; simp
theorem rightB_iff (ss : List ByteArray) : rightB ss = true ↔ ∀ s ∈ ss, 1 ≤ s.size ∧ s.size ≤ 8 := by
  unfold rightB; rw [List.all_eq_true]
  exact ⟨fun h s hs => of_decide_eq_true (h s hs), fun h s hs => decide_eq_true (h s hs)⟩

theorem dd_le_fold : ∀ (ss acc : List ByteArray), (ss.foldl addB acc).length ≤ acc.length + ss.length
  | [], acc => Nat.le_refl _
  | s :: ss, acc => by
    rw [List.foldl_cons]
    refine Nat.le_trans (dd_le_fold ss _) ?_
    by_cases e : s ∈ acc
    · rw [addB_pos e]
      simp
    · rw [addB_neg e]
      simp; omega
theorem dd_le (ss : List ByteArray) : (dd ss).length ≤ ss.length := by
  exact Nat.le_trans (dd_le_fold ss []) (by simp)

set_option maxRecDepth 100000 in
set_option maxHeartbeats 1000000 in
theorem walk_ThingFew (v0 : Value) (w : World) (h0 : ∃ xs, Texts w v0 xs) :
    Calls Try.prog 11 #[v0] w fun e w' => e = .returned (.bool true) ∧ Below w.heap.size w w' := by
  obtain ⟨ss, A, n, c, rfl, hcap, hmax, hsees, hszs⟩ := h0
  have HL := Lib.hid (show ss.length = n by have := hsees.1; simpa using this)
  have HS := Lib.hid hsees
  have hcc : (n : Int) ≤ c := by have := hcap.2; omega
  have hcm : c ≤ 9223372036854775807 ∨ True := .inr trivial
  clear hsees hszs hcap hcm
  by_cases hf : few ss 100 = true
  · obtain ⟨f1, f2⟩ := (few_iff ss 100).1 hf
    have F1 := Lib.hid f1
    have hn : n ≤ 100 := by have := HL.out; omega
    clear f1 f2
    go_enter Try.func11, Try.ntmps11
    go_wp2_with fail
    with_reducible refine (awake9 _).mono ?_
    rintro e w1 ⟨rfl, hb1⟩
    have hz1 := hb1.size
    go_wp2_with fail
    with_reducible refine (few_c A n c ss 100 _ (HS.out.below hb1) hmax).mono ?_
    rintro e w' ⟨rfl, rfl⟩
    go_wp2_with fail
    with_reducible refine (tags_c A n c ss _ (HS.out.below hb1) (by omega) (fun s hs => by have := F1.out s hs; omega)).mono ?_
    rintro e w2 ⟨hb2, ht1, ht2⟩
    have hz2 := hb2.size
    have HE : Hid (∃ A' k' c' ev, e = .returned (.tuple #[.slice A' k' c', .int .i64 ev]) ∧ ((ev = 0 ∧ good ss) ∨ (ev = 90 ∧ ¬ good ss))) := by
      by_cases hg : good ss
      · obtain ⟨A', k', c', rfl, _, _, _⟩ := ht1 hg
        exact ⟨A', k', c', 0, rfl, .inl ⟨rfl, hg⟩⟩
      · exact ⟨none, 0, 0, 90, ht2 hg, .inr ⟨rfl, hg⟩⟩
    clear ht1 ht2
    obtain ⟨A', k', c', ev, rfl, hev⟩ := HE.out
    clear HE
    have HV := Lib.hid hev
    clear hev
    have HSB := Lib.hid ((HS.out.below hb1).below hb2)
    go_wp2_with fail
    go_loopw [6, 7, 8] (fun x y i wr => ∃ k : Nat, k ≤ n ∧ i = .int .i64 k ∧ x = .int .i64 (dd (ss.take k)).length ∧ y = .bool (rightB (ss.take k)) ∧ Below w.heap.size w wr) (fun _ _ i _ => n - (intOf i).toNat)
    case atStart => exact ⟨0, by omega, rfl, rfl, rfl, by (repeat' (first | (with_reducible exact Below.refl _ _) | (with_reducible assumption) | (with_reducible refine Below.alloc ?_ ?_ _) | (with_reducible refine Below.drew ?_) | (with_reducible refine Below_drewN ?_ _) | (with_reducible refine Below.setCell ?_ ?_ _) | (refine Below.step (B' := ?_) (b := ?_) ?_ ?_ ?_; rotate_left 2; (with_reducible assumption)) | go_size))⟩
    case round =>
      obtain ⟨k, hk, rfl, rfl, rfl, hb⟩ := hrel
      have hdk := dd_le (ss.take k)
      rw [List.length_take] at hdk
      have hd2 : (dd (ss.take k)).length ≤ 100 := by omega
      clear hdk
      have HB := Lib.hid hb
      have hzr := hb.size
      clear hb
      by_cases hlt : k < n
      · have hse := HS.out.below HB.out
        obtain ⟨b, off, rfl, hbz, hxx⟩ := hse.2.resolve_left (by omega)
        have hcell := hse.text hlt
        have htk := take_more ss k ⟨#[]⟩ (by have := HL.out; omega)
        clear hxx
        obtain ⟨s, hs⟩ : ∃ s, ss.getD k ⟨#[]⟩ = s := ⟨_, rfl⟩
        rw [hs] at hcell htk
        clear hs
        have HT := Lib.hid (hse.takeT hk)
        clear hse
        have HC := fun W (h : Below wr.heap.size wr W) => has_c (some ⟨b, off, none⟩) k c (ss.take k) s W (HT.out.below h) (by omega)
        have hR := rightB_snoc (ss.take k) s
        have hO := dd_old (ss.take k) s
        have hN := dd_new (ss.take k) s
        have hI := hasB_iff (ss.take k) s
        rw [← htk] at hR hO hN
        clear htk
        have HX : Hid (∀ D, (D = (dd (ss.take k)).length ∧ hasB (ss.take k) s = true) ∨ (D = (dd (ss.take k)).length + 1 ∧ hasB (ss.take k) s = false) → (dd (ss.take (k + 1))).length = D) := by
          rintro D (⟨rfl, h⟩ | ⟨rfl, h⟩)
          · exact hO (hI.1 h)
          · exact hN (fun e => by rw [hI.2 e] at h; cases h)
        clear hO hN hI
        generalize rightB (ss.take k) = R at *
        obtain ⟨B, hB⟩ : ∃ B, hasB (ss.take k) s = B := ⟨_, rfl⟩
        rw [hB] at HX HC
        clear hB
        generalize (dd (ss.take k)).length = D at *
        by_cases q1 : 1 ≤ s.size
        all_goals by_cases q2 : s.size ≤ 8
        all_goals cases R
        all_goals cases B
        all_goals
          first | have g1 : decide (1 ≤ (s.size : Int)) = false := by (simp; omega) | have g1 : 1 ≤ (s.size : Int) := by omega
          first | have g2 : decide ((s.size : Int) ≤ 8) = false := by (simp; omega) | have g2 : (s.size : Int) ≤ 8 := by omega
          simp only [q1, q2, and_true, and_false, true_and, false_and, decide_true, decide_false, Bool.and_true, Bool.and_false, Bool.true_and, Bool.false_and] at hR
          have HR := Lib.hid hR
          clear hR q1 q2
          go_wp2_with fail
          go_quiet ((go_at_call 36; exact quiet_left (HC _ (Below_drewN (Below.refl _ _) _))))
          go_wp2_with fail
          go_roundw
          case rel => exact ⟨k + 1, by omega, by go_num, by rw [HX.out _ (by simp; rfl)]; try go_num, by rw [HR.out], Below_drewN HB.out _⟩
          case measure => simp [intOf]; omega
      · have hke : n = k := by omega
        have hT : ss.take k = ss := by rw [← hke, ← HL.out, List.take_length]
        rw [hT] at hd2
        rw [hT]
        clear hT
        subst hke
        have hX : Hid ((ev = 0 ∧ rightB ss = true ∧ (dd ss).length ≤ 3) ∨ (ev = 90 ∧ (rightB ss = false ∨ (rightB ss = true ∧ ¬ (dd ss).length ≤ 3)))) := by
          rcases HV.out with ⟨h1, h2⟩ | ⟨h1, h2⟩
          · exact .inl ⟨h1, (rightB_iff ss).2 h2.1, h2.2⟩
          · refine .inr ⟨h1, ?_⟩
            cases hr : rightB ss
            · exact .inl rfl
            · exact .inr ⟨rfl, fun h => h2 ⟨(rightB_iff ss).1 hr, h⟩⟩
        generalize rightB ss = R at *
        generalize (dd ss).length = D at *
        rcases hX.out with ⟨rfl, rfl, h3⟩ | ⟨rfl, rfl | ⟨rfl, h3⟩⟩
        · have g3 : (D : Int) ≤ 3 := by omega
          clear hX HV h3
          go_wp2_with fail
          go_ret
          exact ⟨rfl, HB.out⟩
        · clear hX HV
          go_wp2_with fail
          go_ret
          exact ⟨rfl, HB.out⟩
        · have g3 : decide ((D : Int) ≤ 3) = false := by simp; omega
          clear hX HV h3
          go_wp2_with fail
          go_ret
          exact ⟨rfl, HB.out⟩
  · have hf' : few ss 100 = false := by simpa using hf
    clear hf
    go_enter Try.func11, Try.ntmps11
    go_wp2_with fail
    with_reducible refine (awake9 _).mono ?_
    rintro e w1 ⟨rfl, hb1⟩
    go_wp2_with fail
    with_reducible refine (few_c A n c ss 100 _ (HS.out.below hb1) hmax).mono ?_
    rintro e w' ⟨rfl, rfl⟩
    rw [hf']
    go_wp2_with fail
    go_ret
    exact ⟨rfl, by (repeat' (first | (with_reducible exact Below.refl _ _) | (with_reducible assumption) | (with_reducible refine Below.alloc ?_ ?_ _) | (with_reducible refine Below.drew ?_) | (with_reducible refine Below_drewN ?_ _) | (with_reducible refine Below.setCell ?_ ?_ _) | (refine Below.step (B' := ?_) (b := ?_) ?_ ?_ ?_; rotate_left 2; (with_reducible assumption)) | go_size))⟩
end Go.Proofs.Try
