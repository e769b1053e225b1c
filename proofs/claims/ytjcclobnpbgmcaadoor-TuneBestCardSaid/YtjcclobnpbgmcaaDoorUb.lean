/- linhayref21.Check, Few, Same (stage 21). -/
import Derived.Test.YtjcclobnpbgmcaaDoorUa
namespace Go.Proofs.Tryd
open Go.RowKit
set_option linter.unusedVariables false
set_option linter.unusedSimpArgs false
set_option maxRecDepth 100000 in
set_option maxHeartbeats 4000000 in
theorem rcheck_c (v : Value) (n : Nat) (l : List Sn) (w : World) (h : Rows encN 3 w v n l) :
    Calls Tryd.prog 13 #[v] w fun e w' => e = .returned (.bool (chkN l)) ∧ Below w.heap.size w w' := by
  obtain ⟨A, c, rfl, hc, hn, hl, hs⟩ := h
  have HL := Lib.hid hl
  have HH := Lib.hid hs
  clear hl hs hc
  go_enter Tryd.func13, Tryd.ntmps13
  go_wp2_with fail
  go_loopw [3] (fun i wr => ∃ k : Nat, k ≤ n ∧ i = .int .i64 k ∧ Hid (∀ j, j < k → okAt l j = true) ∧ Hid (Below w.heap.size w wr)) (fun i _ => n - (intOf i).toNat)
  case atStart => exact ⟨0, by omega, rfl, Lib.hid (fun j hj => by omega), Lib.hid (Below.refl _ _)⟩
  case round =>
    obtain ⟨k, hk, rfl, HF, HB⟩ := hrel
    by_cases hlt : k < n
    · have hki : (k : Int) < (n : Int) := by omega
      have hs := HH.out.below HB.out
      obtain ⟨b, off, rfl, hbl⟩ := Rows.some hs (by omega)
      obtain ⟨c0, c1, c2, hbz⟩ := hs.seen hlt
      have HKL := Lib.hid (show k < l.length by rw [HL.out]; exact hlt)
      obtain ⟨⟨s, x, y⟩, hp⟩ : ∃ p, atN l k = p := ⟨_, rfl⟩
      have HP := Lib.hid hp
      rw [hp] at c0 c1 c2
      dsimp only at c0 c1 c2
      clear hp
      by_cases qa : x < 1
      · have qa1 : decide (x < 1) = true := decide_eq_true qa
        have HD := Lib.hid (chkN_no HKL.out (by unfold okAt inB; rw [HP.out]; dsimp only; rw [decide_eq_false (show ¬((1 : Int) ≤ x) by omega)]; simp))
        clear qa
        go_wp2_with fail
        (refine region_later (by kernel_rfl) (by kernel_rfl) ?_); (intro hlat); (repeat (go_big_quiet_step ((fail)))); (refine wpQuiet_nil ?_); (intro W1 hb1); (clear hlat)
        have HB1 := Lib.hid (chain HB.out hb1)
        clear hb1
        go_wp2_with fail
        go_ret
        rw [HD.out]
        exact ⟨rfl, HB1.out⟩
      · have qa1 : decide (x < 1) = false := decide_eq_false qa
        by_cases qb : 4096 < x
        · have qb1 : decide (4096 < x) = true := decide_eq_true qb
          have HD := Lib.hid (chkN_no HKL.out (by unfold okAt inB; rw [HP.out]; dsimp only; rw [decide_eq_false (show ¬(x ≤ 4096) by omega)]; simp))
          clear qb
          go_wp2_with fail
          (refine region_later (by kernel_rfl) (by kernel_rfl) ?_); (intro hlat); (repeat (go_big_quiet_step ((fail)))); (refine wpQuiet_nil ?_); (intro W1 hb1); (clear hlat)
          have HB1 := Lib.hid (chain HB.out hb1)
          clear hb1
          go_wp2_with fail
          go_ret
          rw [HD.out]
          exact ⟨rfl, HB1.out⟩
        · have qb1 : decide (4096 < x) = false := decide_eq_false qb
          by_cases qc : y < 1
          · have qc1 : decide (y < 1) = true := decide_eq_true qc
            have HD := Lib.hid (chkN_no HKL.out (by unfold okAt inB; rw [HP.out]; dsimp only; rw [decide_eq_false (show ¬((1 : Int) ≤ y) by omega)]; simp))
            clear qc
            go_wp2_with fail
            (refine region_later (by kernel_rfl) (by kernel_rfl) ?_); (intro hlat); (repeat (go_big_quiet_step ((fail)))); (refine wpQuiet_nil ?_); (intro W1 hb1); (clear hlat)
            have HB1 := Lib.hid (chain HB.out hb1)
            clear hb1
            go_wp2_with fail
            go_ret
            rw [HD.out]
            exact ⟨rfl, HB1.out⟩
          · have qc1 : decide (y < 1) = false := decide_eq_false qc
            by_cases qd : 1000 < y
            · have qd1 : decide (1000 < y) = true := decide_eq_true qd
              have HD := Lib.hid (chkN_no HKL.out (by unfold okAt inB; rw [HP.out]; dsimp only; rw [decide_eq_false (show ¬(y ≤ 1000) by omega)]; simp))
              clear qd
              go_wp2_with fail
              (refine region_later (by kernel_rfl) (by kernel_rfl) ?_); (intro hlat); (repeat (go_big_quiet_step ((fail)))); (refine wpQuiet_nil ?_); (intro W1 hb1); (clear hlat)
              have HB1 := Lib.hid (chain HB.out hb1)
              clear hb1
              go_wp2_with fail
              go_ret
              rw [HD.out]
              exact ⟨rfl, HB1.out⟩
            · have qd1 : decide (1000 < y) = false := decide_eq_false qd
              have HA := Lib.hid (show ¬(x < 1) ∧ ¬(4096 < x) ∧ ¬(y < 1) ∧ ¬(1000 < y) from ⟨qa, qb, qc, qd⟩)
              clear qa qb qc qd
              by_cases hk0 : k = 0
              · have hk1 : decide ((0 : Int) < (k : Int)) = false := by simp; omega
                have hk2 : decide (0 < k) = false := by simp; omega
                have HK0 := Lib.hid hk0
                clear hk0 hs
                have HN : Hid (∀ j, j < k + 1 → okAt l j = true) := Lib.hid fun j hj => by
                  by_cases e : j = k
                  · subst e
                    unfold okAt inB
                    rw [HP.out]
                    dsimp only
                    rw [decide_eq_true (show (1 : Int) ≤ x by have := HA.out; omega), decide_eq_true (show x ≤ 4096 by have := HA.out; omega), decide_eq_true (show (1 : Int) ≤ y by have := HA.out; omega), decide_eq_true (show y ≤ 1000 by have := HA.out; omega), Bool.and_true, Bool.and_true, Bool.and_true]
                    rw [decide_eq_true HK0.out]; rfl
                  · exact HF.out j (by omega)
                go_wp2_with fail
                (refine region_later (by kernel_rfl) (by kernel_rfl) ?_); (intro hlat); (repeat (go_big_quiet_step ((fail)))); (refine wpQuiet_nil ?_); (intro W1 hb1); (clear hlat)
                have HB1 := Lib.hid (chain HB.out hb1)
                clear hb1
                go_wp2_with fail
                exact ⟨⟨k + 1, by omega, by first | rfl | (rw [wrap_1 (k) (by omega)]; rfl), HN, HB1⟩, by first | (simp [intOf]; done) | (simp [intOf]; omega) | (rw [wrap_1 (k) (by omega)]; simp [intOf]; omega)⟩
              · obtain ⟨k, rfl⟩ : ∃ p, k = p + 1 := ⟨k - 1, by omega⟩
                obtain ⟨e0, _, _, _⟩ := hs.seen (j := k) (by omega)
                have hkp : (k : Int) < (n : Int) := by omega
                have qz : decide ((0 : Int) < ((k + 1 : Nat) : Int)) = true := by simp
                obtain ⟨sp, hsp⟩ : ∃ sp, (atN l k).1 = sp := ⟨_, rfl⟩
                rw [hsp] at e0
                have HSP := Lib.hid hsp
                clear hsp hk0 hs
                cases hr : Op.bytesLess sp.toList s.toList with
                | false =>
                  have HD := Lib.hid (chkN_no HKL.out (by unfold okAt inB; rw [HP.out]; dsimp only; unfold ltK; rw [Nat.add_sub_cancel, HSP.out, hr]; simp))
                  go_wp2_with fail
                  (refine region_later (by kernel_rfl) (by kernel_rfl) ?_); (intro hlat); (repeat (go_big_quiet_step ((fail)))); (refine wpQuiet_nil ?_); (intro W1 hb1); (clear hlat)
                  have HB1 := Lib.hid (chain HB.out hb1)
                  clear hb1
                  go_wp2_with fail
                  go_ret
                  rw [HD.out]
                  exact ⟨rfl, HB1.out⟩
                | true =>
                  have HN : Hid (∀ j, j < k + 1 + 1 → okAt l j = true) := Lib.hid fun j hj => by
                    by_cases e : j = k + 1
                    · subst e
                      unfold okAt inB
                      rw [HP.out]
                      dsimp only
                      rw [decide_eq_true (show (1 : Int) ≤ x by have := HA.out; omega), decide_eq_true (show x ≤ 4096 by have := HA.out; omega), decide_eq_true (show (1 : Int) ≤ y by have := HA.out; omega), decide_eq_true (show y ≤ 1000 by have := HA.out; omega), Bool.and_true, Bool.and_true, Bool.and_true]
                      rw [show ltK (atN l (k + 1 - 1)).1 s = true by unfold ltK; rw [Nat.add_sub_cancel, HSP.out]; exact hr, Bool.or_true]
                    · exact HF.out j (by omega)
                  go_wp2_with fail
                  (refine region_later (by kernel_rfl) (by kernel_rfl) ?_); (intro hlat); (repeat (go_big_quiet_step ((fail)))); (refine wpQuiet_nil ?_); (intro W1 hb1); (clear hlat)
                  have HB1 := Lib.hid (chain HB.out hb1)
                  clear hb1
                  go_wp2_with fail
                  exact ⟨⟨k + 1 + 1, by omega, by first | rfl | (rw [wrap_1 (k + 1) (by omega)]; rfl), HN, HB1⟩, by first | (simp [intOf]; done) | (simp [intOf]; omega) | (rw [wrap_1 (k + 1) (by omega)]; simp [intOf]; omega)⟩
    · have hke : k = n := by omega
      subst hke
      by_cases hbig : k ≤ 1000
      · have q1 : decide ((k : Int) ≤ 1000) = true := by simp; omega
        have q2 : decide (k ≤ 1000) = true := by simp; omega
        have HD : Hid (chkN l = true) := Lib.hid (chkN_iff.2 ⟨by rw [HL.out]; exact hbig, fun i hi => HF.out i (by rw [← HL.out]; exact hi)⟩)
        clear hbig
        go_wp2_with fail
        go_ret
        rw [HD.out]
        exact ⟨by first | rfl | (simp; done), HB.out⟩
      · have q1 : decide ((k : Int) ≤ 1000) = false := by simp; omega
        have q2 : decide (k ≤ 1000) = false := by simp; omega
        have HD : Hid (chkN l = false) := Lib.hid (by unfold chkN; rw [decide_eq_false (by rw [HL.out]; exact hbig)]; rfl)
        clear hbig
        go_wp2_with fail
        go_ret
        rw [HD.out]
        exact ⟨by first | rfl | (simp; done), HB.out⟩
def fewN (l : List Sn) : Bool := l.all fun s => decide (s.1.size ≤ 100)
theorem fewN_at {l : List Sn} (h : fewN l = true) {k : Nat} (hk : k < l.length) : (atN l k).1.size ≤ 100 := by
  have := List.all_eq_true.1 h _ (List.mem_of_getElem? (atN_some hk))
  exact of_decide_eq_true this
theorem fewN_no {l : List Sn} {k : Nat} (hk : k < l.length) (h : 100 < (atN l k).1.size) : fewN l = false := by
  cases hf : fewN l with
  | false => rfl
  | true => have := fewN_at hf hk; omega
theorem fewN_yes {l : List Sn} (h : ∀ k, k < l.length → (atN l k).1.size ≤ 100) : fewN l = true := by
  unfold fewN
  rw [List.all_eq_true]
  intro x hx
  obtain ⟨i, hi, rfl⟩ := List.getElem_of_mem hx
  have := h i hi
  unfold atN at this
  rw [List.getD_eq_getElem?_getD, List.getElem?_eq_getElem hi] at this
  exact decide_eq_true this
theorem wrap_big (k : Nat) (h : k < 9223372036854775807) : wrap64 ((k : Int) + 1) = (k : Int) + 1 := by unfold wrap64; omega
set_option maxRecDepth 100000 in
set_option maxHeartbeats 4000000 in
theorem fewN_c (A : Option Addr) (n c : Nat) (l : List Sn) (m : Nat) (hn : n ≤ maxLen) (hm : m ≤ 100000) (w : World) (h : Sees w 3 A n (flat encN l)) (hl : l.length = n) :
    Calls Tryd.prog 11 #[.slice A n c, .int .i64 (m : Int)] w fun e w' => e = .returned (.bool (fewN l && decide (n ≤ m))) ∧ Below w.heap.size w w' := by
  have HH := Lib.hid h
  have HL := Lib.hid hl
  unfold maxLen at hn
  clear h hl
  go_enter Tryd.func11, Tryd.ntmps11
  go_wp2_with fail
  go_loopw [5] (fun i wr => ∃ k : Nat, k ≤ n ∧ i = .int .i64 k ∧ Hid (∀ j, j < k → (atN l j).1.size ≤ 100) ∧ Hid (Below w.heap.size w wr)) (fun i _ => n - (intOf i).toNat)
  case atStart => exact ⟨0, by omega, rfl, Lib.hid (fun j hj => by omega), Lib.hid (Below.refl _ _)⟩
  case round =>
    obtain ⟨k, hk, rfl, HF, HB⟩ := hrel
    by_cases hlt : k < n
    · have hlt' : (k : Int) < (n : Int) := by omega
      have hs := HH.out.below HB.out
      obtain ⟨b, off, rfl, hbl⟩ := Rows.some hs (by omega)
      obtain ⟨c0, _, _, hbz⟩ := hs.seen hlt
      obtain ⟨s, hsk⟩ : ∃ s, (atN l k).1 = s := ⟨_, rfl⟩
      rw [hsk] at c0
      have HAT := Lib.hid hsk
      clear hsk hs
      by_cases hs : s.size ≤ 100
      · have hs1 : decide (100 < (s.size : Int)) = false := by simp; omega
        have hs2 : decide (100 < s.size) = false := by simp; omega
        have hs3 : ¬((100 : Int) < (s.size : Int)) := by omega
        have HS := Lib.hid hs
        clear hs
        go_wp2_with fail
        have HW := Lib.hid (wrap_big k (by omega))
        refine ⟨⟨k + 1, by omega, by first | rfl | (rw [HW.out]; rfl), Lib.hid (fun j hj => ?_), HB⟩, by first | (simp [intOf]; done) | (simp [intOf]; omega) | (rw [HW.out]; simp [intOf]; omega)⟩
        by_cases e : j = k
        · subst e; rw [HAT.out]; exact HS.out
        · exact HF.out j (by omega)
      · have hs1 : decide (100 < (s.size : Int)) = true := by simp; omega
        have hs2 : decide (100 < s.size) = true := by simp; omega
        have hs3 : (100 : Int) < (s.size : Int) := by omega
        have HNO := Lib.hid (fewN_no (l := l) (k := k) (by rw [HL.out]; exact hlt) (by rw [HAT.out]; omega))
        clear hs
        go_wp2_with fail
        go_ret
        rw [HNO.out]
        exact ⟨rfl, HB.out⟩
    · have hke : k = n := by omega
      subst hke
      have HY := Lib.hid (fewN_yes (l := l) (fun j hj => HF.out j (by rw [← HL.out]; exact hj)))
      go_wp2_with fail
      go_ret
      rw [HY.out]
      exact ⟨by first | rfl | (simp; done), HB.out⟩
set_option maxRecDepth 100000 in
set_option maxHeartbeats 4000000 in
theorem sameN_c (v1 v2 : Value) (n : Nat) (l : List Sn) (w : World) (h1 : Rows encN 3 w v1 n l) (h2 : Rows encN 3 w v2 n l) :
    Calls Tryd.prog 14 #[v1, v2] w fun e w' => e = .returned (.bool true) ∧ Below w.heap.size w w' := by
  obtain ⟨A1, c1, rfl, _, hn, _, hs1⟩ := h1
  obtain ⟨A2, c2, rfl, _, _, _, hs2⟩ := h2
  have HS1 := Lib.hid hs1
  have HS2 := Lib.hid hs2
  clear hs1 hs2
  go_enter Tryd.func14, Tryd.ntmps14
  go_wp2_with fail
  go_loopw [5] (fun i wr => ∃ k : Nat, k ≤ n ∧ i = .int .i64 k ∧ Hid (Below w.heap.size w wr)) (fun i _ => n - (intOf i).toNat)
  case atStart => exact ⟨0, by omega, rfl, Lib.hid (Below.refl _ _)⟩
  case round =>
    obtain ⟨k, hk, rfl, HB⟩ := hrel
    by_cases hlt : k < n
    · have hlt' : (k : Int) < (n : Int) := by omega
      have hs1 := HS1.out.below HB.out
      have hs2 := HS2.out.below HB.out
      obtain ⟨b, off, rfl, _⟩ := Rows.some hs1 (by omega)
      obtain ⟨b', off', rfl, _⟩ := Rows.some hs2 (by omega)
      obtain ⟨c0, c1, c2, _⟩ := hs1.seen hlt
      obtain ⟨d0, d1, d2, _⟩ := hs2.seen hlt
      obtain ⟨⟨s, x, y⟩, hp⟩ : ∃ p, atN l k = p := ⟨_, rfl⟩
      rw [hp] at c0 c1 c2 d0 d1 d2
      dsimp only at c0 c1 c2 d0 d1 d2
      clear hs1 hs2 hp
      go_wp2_with fail
      go_region
      go_wp2_with fail
      refine ⟨⟨k + 1, by omega, by first | rfl | (rw [wrap_1 k (by omega)]; rfl), Lib.hid (by have := HB.out; (repeat' (first | (with_reducible exact Below.refl _ _) | (with_reducible assumption) | (with_reducible refine Below.alloc ?_ ?_ _) | (with_reducible refine Below.drew ?_) | (with_reducible refine Below_drewN ?_ _) | (with_reducible refine Below.setCell ?_ ?_ _) | (refine Below.step (B' := ?_) (b := ?_) ?_ ?_ ?_; rotate_left 2; (with_reducible assumption)) | go_size)))⟩, by first | (simp [intOf]; done) | (simp [intOf]; omega) | (rw [wrap_1 k (by omega)]; simp [intOf]; omega)⟩
    · have hke : k = n := by omega
      subst hke
      go_wp2_with fail
      go_ret
      exact ⟨rfl, HB.out⟩
end Go.Proofs.Tryd
