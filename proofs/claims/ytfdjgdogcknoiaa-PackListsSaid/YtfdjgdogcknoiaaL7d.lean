/- The walks of PackLists, PackBack. -/
import Derived.Test.YtfdjgdogcknoiaaL7b
namespace Go.Proofs.Try
open Go.RowKit
set_option linter.unusedVariables false
set_option linter.unusedSimpArgs false

set_option maxRecDepth 100000 in
set_option maxHeartbeats 4000000 in
theorem walk_PackLists (v0 : Value) (a1 : ByteArray) (w1 : a1.size ≤ maxLen) (w : World) (h0 : ∃ xs, Texts w v0 xs) :
    Calls Try.prog 8 #[v0, .string a1] w fun e w' => e = .returned (.bool true) ∧ Below w.heap.size w w' := by
  obtain ⟨bs, rfl⟩ : ∃ bs, a1 = S bs := ⟨a1.data.toList, (S_of a1).symm⟩
  have hsz := S_size bs
  rw [hsz] at w1
  have w0' : bs.length ≤ 9223372036854775807 := by unfold maxLen at w1; omega
  clear w1
  obtain ⟨ss, h0⟩ := h0
  obtain ⟨ts, A, n, c, rfl, hcA, hmA, hsA⟩ := h0.lists
  have HL := Lib.hid (show ts.length = n by have := hsA.1; simpa using this)
  have HA := Lib.hid hsA
  clear hsA hcA h0
  by_cases hf : few ts 100 = true
  · obtain ⟨f1, f2, f3⟩ := few_len ts hf
    have hn : n ≤ 100 := by have := HL.out; omega
    have HT := Lib.hid f3
    have h10 := sizeB_10 n (by omega)
    unfold sizeB at h10
    clear f1 f2 f3
    by_cases c0 : bs.length ≤ 1000
    · have d0 : decide (1000 < (bs.length : Int)) = false := by simp; omega
      have HP : ∀ w : World, Calls Try.prog 18 #[.string (S bs), .slice (some ⟨w.heap.size, 0, none⟩) 1 1] (w.alloc (.cells #[.int .u64 (n : Int)] 24)) fun r w' => r = .returned (.string (S (pre bs n ts 0))) ∧ Below (w.alloc (.cells #[.int .u64 (n : Int)] 24)).heap.size (w.alloc (.cells #[.int .u64 (n : Int)] 24)) w' := fun w => by
        have := pput_c (some ⟨w.heap.size, 0, none⟩) 1 1 bs [(n : Int)] _ (Sees.one w (.int .u64 (n : Int)) 24) (by intro x hx; rw [List.mem_singleton] at hx; subst hx; omega) (by omega) (by omega)
        rwa [putB_one, ← pre_zero bs n ts] at this
      go_enter Try.func8, Try.ntmps8
      go_wp2_with fail
      with_reducible refine (awake7 _).mono ?_
      rintro e w1 ⟨rfl, hb1⟩
      have hz1 := hb1.size
      go_wp2_with fail
      with_reducible refine (few_c A n c ts 100 _ (HA.out.below hb1) hmA).mono ?_
      rintro e w' ⟨rfl, rfl⟩
      go_wp2_with fail
      with_reducible refine (HP _).mono ?_
      rintro e w2 ⟨rfl, hb2⟩
      have hz2 := hb2.size
      simp only [World.size_alloc] at hz2
      have HB2 := Lib.hid (show Below w.heap.size w w2 from hb1.trans (((Below.refl _ _).alloc (by omega) _).trans (hb2.mono (by simp; omega))))
      clear hb1 hb2 HP
      go_wp2_with fail
      go_loopw [6, 7] (fun x i wr => ∃ j : Nat, j ≤ n ∧ i = .int .i64 j ∧ x = .string (S (pre bs n ts j)) ∧ Below w.heap.size w wr) (fun _ i _ => n - (intOf i).toNat)
      case atStart => exact ⟨0, by omega, rfl, rfl, HB2.out⟩
      case round =>
        obtain ⟨j, hj, rfl, rfl, hbw⟩ := hrel
        have HB := Lib.hid hbw
        have hzz := hbw.size
        clear hbw
        by_cases hlt : j < n
        · have hsw := HA.out.below HB.out
          obtain ⟨b, off, rfl, hbz, hxx⟩ := hsw.2.resolve_left (by omega)
          have hcell := hsw.sv hlt
          have hsp := listB_split ts j
          have hg := listB_get ts j (by have := HL.out; omega)
          have htl := HT.out
          have hpl := pre_len bs n ts j
          have hps := pre_snoc bs n ts j (by have := HL.out; omega)
          obtain ⟨t, ht⟩ : ∃ t, ts.getD j [] = t := ⟨_, rfl⟩
          rw [ht] at hcell hg hps
          have HC := ptext_c (pre bs n ts j) t (by omega) (by omega)
          rw [hps] at HC
          have h10t := sizeB_10 t.length (by omega)
          unfold sizeB at h10t
          have hadd := fun W => add_S (pre bs n ts j ++ oneB t.length) t (by rw [List.length_append]; unfold maxLen; omega) W
          rw [show pre bs n ts j ++ oneB t.length ++ t = pre bs n ts (j + 1) by rw [List.append_assoc, ← hps]; rfl] at hadd
          have HP : ∀ w : World, Calls Try.prog 18 #[.string (S (pre bs n ts j)), .slice (some ⟨w.heap.size, 0, none⟩) 1 1] (w.alloc (.cells #[.int .u64 (t.length : Int)] 24)).drew fun r w' => r = .returned (.string (S (pre bs n ts j ++ oneB t.length))) ∧ Below (w.alloc (.cells #[.int .u64 (t.length : Int)] 24)).drew.heap.size (w.alloc (.cells #[.int .u64 (t.length : Int)] 24)).drew w' := fun w => by
            have := pput_c (some ⟨w.heap.size, 0, none⟩) 1 1 (pre bs n ts j) [(t.length : Int)] (w.alloc (.cells #[.int .u64 (t.length : Int)] 24)).drew (Sees.one w (.int .u64 (t.length : Int)) 24).drew (by intro x hx; rw [List.mem_singleton] at hx; subst hx; omega) (by omega) (by omega)
            rw [putB_one] at this
            exact this
          have hwt : IntKind.u64.wrap (t.length : Int) = (t.length : Int) := by rw [IntKind.wrap_u64]; omega
          have hst := S_size t
          have htl2 : t.length ≤ 1000000 := by omega
          generalize pre bs n ts j ++ oneB t.length = M at *
          have HPS := Lib.hid hps
          clear hxx hsw hsp hg htl ht hpl h10t hps
          obtain ⟨P1, hP1⟩ : ∃ P1, pre bs n ts (j + 1) = P1 := ⟨_, rfl⟩
          rw [hP1] at HC hadd
          have HP1 := Lib.hid hP1
          clear hP1
          go_wp2_with fail
          with_reducible refine (HC _).mono ?_
          rintro e w5 ⟨rfl, hb5⟩
          have hz5 := hb5.size
          have hcell5 : w5.cell? ⟨b, off + j, none⟩ = some (.string (S t)) := (hb5.cell (p := ⟨b, off + j, none⟩) hbz).trans hcell
          have hbz5 : b < w5.heap.size := by omega
          have HB5 := Lib.hid (HB.out.trans (hb5.mono hzz))
          clear hb5 hcell HC
          go_wp2_with fail
          go_region_with (go_at_call 18; refine (HP _).mono ?_; rintro e w6 ⟨rfl, hb6⟩; obtain ⟨hc_w6, hf_w6, hz_w6⟩ := kept hb6; (try have hzb_w6 : b < w6.heap.size := (by have := hz_w6; first | omega | (simp at this; omega))); try simp only [World.size_drew, World.size_alloc] at hc_w6 hf_w6 hz_w6)
          all_goals
            go_wp2_with fail
            go_roundw
          all_goals first
            | exact ⟨j + 1, by omega, by go_num, by rw [HP1.out], by have := HB5.out; (repeat' (first | (with_reducible exact Below.refl _ _) | (with_reducible assumption) | (with_reducible refine Below.alloc ?_ ?_ _) | (with_reducible refine Below.drew ?_) | (with_reducible refine Below_drewN ?_ _) | (with_reducible refine Below.setCell ?_ ?_ _) | (refine Below.step (B' := ?_) (b := ?_) ?_ ?_ ?_; rotate_left 2; (with_reducible assumption)) | go_size))⟩
            | (simp [intOf]; omega)
        · have hke : j = n := by omega
          have e0 : decide ((j : Int) < (n : Int)) = false := by simp; omega
          have HE := Lib.hid (show pre bs n ts j = bs ++ textsB ts by rw [hke]; exact pre_all bs ts n HL.out)
          have HX := ptexts_c A n c bs ts wr (HA.out.below HB.out) (by omega) (by omega) (by have := HT.out; omega)
          rw [← HE.out] at HX
          go_wp2_with fail
          with_reducible refine HX.mono ?_
          rintro e w5 ⟨rfl, hb5⟩
          go_wp2_with fail
          go_ret
          exact ⟨by first | rfl | (simp; done), HB.out.trans (hb5.mono hzz)⟩
    · have d0 : 1000 < (bs.length : Int) := by omega
      go_enter Try.func8, Try.ntmps8
      go_wp2_with fail
      with_reducible refine (awake7 _).mono ?_
      rintro e w1 ⟨rfl, hb1⟩
      go_wp2_with fail
      with_reducible refine (few_c A n c ts 100 _ (HA.out.below hb1) hmA).mono ?_
      rintro e w' ⟨rfl, rfl⟩
      go_wp2_with fail
      go_ret
      exact ⟨rfl, by (repeat' (first | (with_reducible exact Below.refl _ _) | (with_reducible assumption) | (with_reducible refine Below.alloc ?_ ?_ _) | (with_reducible refine Below.drew ?_) | (with_reducible refine Below_drewN ?_ _) | (with_reducible refine Below.setCell ?_ ?_ _) | (refine Below.step (B' := ?_) (b := ?_) ?_ ?_ ?_; rotate_left 2; (with_reducible assumption)) | go_size))⟩
  · have hf' : few ts 100 = false := by simpa using hf
    clear hf
    go_enter Try.func8, Try.ntmps8
    go_wp2_with fail
    with_reducible refine (awake7 _).mono ?_
    rintro e w1 ⟨rfl, hb1⟩
    go_wp2_with fail
    with_reducible refine (few_c A n c ts 100 _ (HA.out.below hb1) hmA).mono ?_
    rintro e w' ⟨rfl, rfl⟩
    rw [hf']
    go_wp2_with fail
    go_ret
    exact ⟨rfl, by (repeat' (first | (with_reducible exact Below.refl _ _) | (with_reducible assumption) | (with_reducible refine Below.alloc ?_ ?_ _) | (with_reducible refine Below.drew ?_) | (with_reducible refine Below_drewN ?_ _) | (with_reducible refine Below.setCell ?_ ?_ _) | (refine Below.step (B' := ?_) (b := ?_) ?_ ?_ ?_; rotate_left 2; (with_reducible assumption)) | go_size))⟩
end Go.Proofs.Try
