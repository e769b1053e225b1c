/- The walk of ThingTells. -/
import Derived.Test.YthijffdljoeelaaThing9
namespace Go.Proofs.Try
open Go.RowKit Go.Maps Go.Sort
set_option linter.unusedVariables false

theorem tagsR_same (ss : List ByteArray) (hn : ss.length ≤ 1000) : ∃ (L : List (List UInt8)) (ev : Int), ((ev = 0 ∧ good ss ∧ L = tagsL ss) ∨ (ev = 90 ∧ ¬ good ss ∧ L = [])) ∧ L.length ≤ 1000 ∧
    ∀ w r w', TagsR ss w r w' → Below w.heap.size w w' ∧ ∃ A c, r = .returned (.tuple #[.slice A L.length c, .int .i64 ev]) ∧ CapOk A L.length c ∧ Sees w' 1 A L.length (L.map encStr) := by
  by_cases hg : good ss
  · refine ⟨tagsL ss, 0, .inl ⟨rfl, hg, rfl⟩, ?_, fun w r w' h => ⟨h.1, ?_⟩⟩
    · rw [tagsL_risen, List.length_map]
      exact Nat.le_trans (risen_le ss) hn
    · obtain ⟨A, k, c, hr, hk, hc, hs⟩ := h.2.1 hg
      subst hk
      exact ⟨A, c, hr, hc, hs⟩
  · exact ⟨[], 90, .inr ⟨rfl, hg, rfl⟩, by simp, fun w r w' h => ⟨h.1, none, 0, h.2.2 hg, cap_none, Sees.empty _ _ _⟩⟩

set_option maxRecDepth 100000 in
set_option maxHeartbeats 1000000 in
theorem walk_ThingTells (a0 : ByteArray) (v1 : Value) (a2 : Int) (w0 : a0.size ≤ maxLen) (w2 : (Lit.int .i64 a2).wf = true) (w : World) (h1 : ∃ xs, Texts w v1 xs) :
    Calls Try.prog 9 #[.string a0, v1, .int .i64 a2] w fun e w' => e = .returned (.bool true) ∧ Below w.heap.size w w' := by
  obtain ⟨ss, A, n, c, rfl, hcap, hmax, hsees, hszs⟩ := h1
  obtain ⟨n0, n1⟩ := bounds_i64 w2
  have HL := Lib.hid (show ss.length = n by have := hsees.1; simpa using this)
  have HS := Lib.hid hsees
  have hmax' : a0.size ≤ 9223372036854775807 := by unfold maxLen at w0; omega
  clear hsees hszs hcap w2 w0
  by_cases c0 : a0.size ≤ 1000
  · have d0 : decide (1000 < (a0.size : Int)) = false := by simp; omega
    by_cases hf : few ss 100 = true
    · obtain ⟨f1, f2⟩ := (few_iff ss 100).1 hf
      have F1 := Lib.hid f1
      have hn : n ≤ 100 := by have := HL.out; omega
      clear f1 f2
      obtain ⟨L, ev, hev, hL, hT⟩ := tagsR_same ss (by have := HL.out; omega)
      have HT := Lib.hid hT
      clear hT hev
      have K1 := key_c a0
      have K2 := rkey_c a0
      have H1 := hash_c a0 (by omega)
      have H2 := rhash_c a0 (by omega)
      have P1 := home_c a0 a2 (by omega) (by omega) (by omega)
      have P2 := rhome_c a0 a2 (by omega) (by omega) (by omega)
      generalize isKey a0 = k at *
      generalize hash a0 = h at *
      generalize home a0 a2 = p at *
      go_enter Try.func9, Try.ntmps9
      go_wp2_with fail
      with_reducible refine (awake9 _).mono ?_
      rintro e w1 ⟨rfl, hb1⟩
      have hz1 := hb1.size
      go_wp2_with fail
      with_reducible refine (few_c A n c ss 100 _ (HS.out.below hb1) hmax).mono ?_
      rintro e w' ⟨rfl, rfl⟩
      go_wp2_with fail
      with_reducible refine (tags_c A n c ss _ (HS.out.below hb1) (by omega) (fun s hs => by have := F1.out s hs; omega)).mono ?_
      intro e w2 ht2
      obtain ⟨hb2, A2, c2, rfl, hc2, hs2⟩ := HT.out _ _ _ ht2
      have hz2 := hb2.size
      have HS2 := Lib.hid hs2
      have HB2 := Lib.hid ((HS.out.below hb1).below hb2)
      clear ht2 hs2 hc2
      go_wp2_with fail
      with_reducible refine (rtags_c A n c ss _ HB2.out (by omega)).mono ?_
      intro e w3 ht3
      obtain ⟨hb3, A3, c3, rfl, hc3, hs3⟩ := HT.out _ _ _ ht3
      have hz3 := hb3.size
      have HS3 := Lib.hid hs3
      have HS23 := Lib.hid (HS2.out.below hb3)
      clear ht3 hs3 hc3
      go_wp2_with (first
        | (go_at_call 29; refine (K1 _).mono ?_; rintro e w' ⟨rfl, rfl⟩)
        | (go_at_call 30; refine (K2 _).mono ?_; rintro e w' ⟨rfl, rfl⟩)
        | (go_at_call 31; refine (same7_t A2 A3 _ c2 c3 L _ HS23.out HS3.out (by omega)).mono ?_; rintro e w4 ⟨rfl, hb4⟩)
        | (go_at_call 32; refine (H1 _).mono ?_; rintro e w' ⟨rfl, rfl⟩)
        | (go_at_call 33; refine (H2 _).mono ?_; rintro e w' ⟨rfl, rfl⟩)
        | (go_at_call 34; refine (P1 _).mono ?_; rintro e w' ⟨rfl, rfl⟩)
        | (go_at_call 35; refine (P2 _).mono ?_; rintro e w' ⟨rfl, rfl⟩))
      go_ret
      exact ⟨by first | rfl | (simp; done), by (repeat' (first | (with_reducible exact Below.refl _ _) | (with_reducible assumption) | (with_reducible refine Below.alloc ?_ ?_ _) | (with_reducible refine Below.drew ?_) | (with_reducible refine Below_drewN ?_ _) | (with_reducible refine Below.setCell ?_ ?_ _) | (refine Below.step (B' := ?_) (b := ?_) ?_ ?_ ?_; rotate_left 2; (with_reducible assumption)) | go_size))⟩
    · have hf' : few ss 100 = false := by simpa using hf
      clear hf
      go_enter Try.func9, Try.ntmps9
      go_wp2_with fail
      with_reducible refine (awake9 _).mono ?_
      rintro e w1 ⟨rfl, hb1⟩
      go_wp2_with fail
      with_reducible refine (few_c A n c ss 100 _ (HS.out.below hb1) hmax).mono ?_
      rintro e w' ⟨rfl, rfl⟩
      rw [hf']
      go_wp2_with fail
      go_ret
      exact ⟨rfl, by (repeat' (first | (with_reducible exact Below.refl _ _) | (with_reducible assumption) | (with_reducible refine Below.alloc ?_ ?_ _) | (with_reducible refine Below.drew ?_) | (with_reducible refine Below_drewN ?_ _) | (with_reducible refine Below.setCell ?_ ?_ _) | (refine Below.step (B' := ?_) (b := ?_) ?_ ?_ ?_; rotate_left 2; (with_reducible assumption)) | go_size))⟩
  · have d0 : 1000 < (a0.size : Int) := by omega
    go_enter Try.func9, Try.ntmps9
    go_wp2_with fail
    with_reducible refine (awake9 _).mono ?_
    rintro e w1 ⟨rfl, hb1⟩
    go_wp2_with fail
    go_ret
    exact ⟨rfl, by (repeat' (first | (with_reducible exact Below.refl _ _) | (with_reducible assumption) | (with_reducible refine Below.alloc ?_ ?_ _) | (with_reducible refine Below.drew ?_) | (with_reducible refine Below_drewN ?_ _) | (with_reducible refine Below.setCell ?_ ?_ _) | (refine Below.step (B' := ?_) (b := ?_) ?_ ?_ ?_; rotate_left 2; (with_reducible assumption)) | go_size))⟩
end Go.Proofs.Try
