/- arena.New, Taken, Held; linhayref11.Same. -/
import Derived.Test.YtempamkacnjhjaaDoorAr8
import Derived.Test.YtempamkacnjhjaaDoorOnes
namespace Go.Proofs.Tryd
open Go.RowKit
set_option linter.unusedVariables false
set_option linter.unusedSimpArgs false
theorem segC_app (a b : List Sg) : segC (a ++ b) = segC a ++ segC b := by
  induction a with
  | nil => rfl
  | cons p a ih => simp [segC, ih]
theorem Sees.two (w : World) (x y : Value) (t : TypeId) : Sees (w.alloc (.cells #[x, y] t)) 2 (some ⟨w.heap.size, 0, none⟩) 1 [x, y] := by
  refine ⟨by simp, .inr ⟨_, _, rfl, by simp, fun j hj => ?_⟩⟩
  rw [Nat.zero_add, cell_of_row _ _ j #[x, y] t (0, 0) (heap_alloc_new w _)]
  simp
/-- What New answers. -/
def newR (n : Int) : List Sg × Int := if 0 ≤ n ∧ n ≤ 200 then (List.replicate n.toNat (-1, 0), 0) else ([], 110)
theorem rep_at (n j : Nat) : (at' (List.replicate n ((-1 : Int), (0 : Nat))) j).2 < 18446744073709551616 := by
  unfold at'
  rw [List.getD_eq_getElem?_getD, List.getElem?_replicate]
  split <;> simp
theorem rep_chk (n : Nat) (h : n ≤ 200) : chkL (List.replicate n ((-1 : Int), (0 : Nat))) := by
  refine ⟨by simpa using h, fun s hs => ?_⟩
  rw [List.mem_replicate] at hs
  rw [hs.2]
  exact .inl ⟨rfl, rfl⟩
set_option maxRecDepth 100000 in
set_option maxHeartbeats 4000000 in
theorem new_c (n : Nat) (hn : n ≤ 200) (w : World) :
    Calls Tryd.prog 5 #[.int .i64 (n : Int)] w fun e w' => (∃ v', e = .returned (.tuple #[v', .int .i64 0]) ∧ OwnS w.heap.size w' v' n (List.replicate n (-1, 0))) ∧ Below w.heap.size w w' := by
  obtain ⟨i0, hi, hz0, hz1, hz2⟩ := info_parts seg_info
  have hn' : (n : Int) ≤ 200 := by omega
  go_enter Tryd.func5, Tryd.ntmps5
  go_wp2_with fail
  go_loopw [4, 12] (fun v i wr => ∃ k : Nat, k ≤ n ∧ i = .int .i64 k ∧ wr.ownsRow w.heap.size 44 2 v k (segC (List.replicate k (-1, 0))) ∧ Below w.heap.size w wr) (fun _ i _ => n - (intOf i).toNat)
  case atStart => exact ⟨0, by omega, rfl, World.ownsRow_nil _ _ _ _, Below.refl _ _⟩
  case round =>
    obtain ⟨k, hk, rfl, hown, hb⟩ := hrel
    have hz := hb.size
    by_cases hlt : k < n
    · have hlt' : (k : Int) < (n : Int) := by omega
      go_wp2_with (at_builtin
                   refine wpList_app rfl (.tmp 14) (.tmp 16) _ rfl w.heap.size 44 i0 _ 2 16 Tryd.underlying24 hi hz0 hz1 hz2 rfl (by omega) u4 k _ rfl (hown.alloc _) (some ⟨wr.heap.size, 0, none⟩) 1 1 [.int .i64 (-1), .int .u64 0] rfl (cap_some (by omega)) (Sees.two _ _ _ _) (by simp [Value.oneCell']) (by unfold maxLen; omega) (by omega) (by simp; omega) ?_
                   intro v1 w1 hown1 hb1)
      have HO := Lib.hid hown1
      clear hown1
      go_roundw
      case rel => exact ⟨k + 1, by omega, by go_num, by rw [List.replicate_succ', segC_app]; exact HO.out, Below.step1 hb hb1⟩
      case measure => first | (simp [intOf]; done) | (simp [intOf]; omega)
    · obtain rfl : k = n := by omega
      go_wp2_with fail
      go_ret2
      exact ⟨⟨_, rfl, OwnS.of_own (by omega) (rep_at k) (by simpa using hown)⟩, hb⟩
theorem new_no (n : Int) (h : n < 0 ∨ 200 < n) (w : World) :
    Calls Tryd.prog 5 #[.int .i64 n] w fun e w' => e = .returned (.tuple #[.slice none 0 0, .int .i64 110]) ∧ w = w' := by
  by_cases h1 : n < 0
  · go_enter Tryd.func5, Tryd.ntmps5
    go_wp2_with fail
    go_ret2
    exact ⟨rfl, rfl⟩
  · have h2 : 200 < n := by omega
    have h3 : decide (n < 0) = false := by simp; omega
    go_enter Tryd.func5, Tryd.ntmps5
    go_wp2_with fail
    go_ret2
    exact ⟨rfl, rfl⟩
theorem clsB_by (c : Int) : clsB c = ((byN c : Nat) : Int) := by
  unfold clsB byN
  repeat' split
  all_goals first | rfl | omega
theorem byN_le (c : Int) : byN c ≤ 64 := by
  unfold byN
  repeat' split
  all_goals omega
theorem take_at (l : List Sg) (k : Nat) (h : k < l.length) : l.take (k + 1) = l.take k ++ [at' l k] := by
  rw [List.take_succ_eq_append_getElem h]
  unfold at'
  rw [List.getD_eq_getElem?_getD, List.getElem?_eq_getElem h]
  rfl
theorem tkn_more (l : List Sg) (k : Nat) (h : k < l.length) : tknL (l.take (k + 1)) = tknL (l.take k) + byS (at' l k) := by
  unfold tknL
  rw [take_at l k h, List.map_append, List.sum_append]
  simp
theorem held_more (l : List Sg) (k : Nat) (h : k < l.length) : heldL (l.take (k + 1)) = heldL (l.take k) + (if (at' l k).1 = -1 then 0 else 512) := by
  unfold heldL
  rw [take_at l k h, List.map_append, List.sum_append]
  simp
theorem byS_le (s : Sg) : byS s ≤ 4096 := by
  unfold byS
  have := Nat.mul_le_mul (pc_le s.2 64) (byN_le s.1)
  omega
theorem tkn_le (l : List Sg) : tknL l ≤ 4096 * l.length := by
  unfold tknL
  induction l with
  | nil => simp
  | cons s l ih => have := byS_le s; simp only [List.map_cons, List.sum_cons, List.length_cons]; omega
set_option maxRecDepth 100000 in
set_option maxHeartbeats 4000000 in
theorem taken_c (v : Value) (n : Nat) (l : List Sg) (hc : chkL l) (w : World) (h : Segs w v n l) :
    Calls Tryd.prog 11 #[v] w fun e w' => e = .returned (.int .i64 ((tknL l : Nat) : Int)) ∧ Below w.heap.size w w' := by
  have HC := chk_c v n l w h
  rw [decide_eq_true hc] at HC
  have HS := Lib.hid h
  obtain ⟨A, cc, rfl, hcc, hn, hl, hu, hs⟩ := h
  have HU := Lib.hid hu
  have HL := Lib.hid hl
  clear hu hl hs hc hcc
  go_enter Tryd.func11, Tryd.ntmps11
  go_wp2_with fail
  refine HC.mono ?_
  rintro e w1 ⟨rfl, hb1⟩
  have HB1 := Lib.hid hb1
  clear hb1
  go_wp2_with fail
  go_loopw [3, 11] (fun t i wr => ∃ k : Nat, k ≤ n ∧ i = .int .i64 k ∧ t = .int .i64 ((tknL (l.take k) : Nat) : Int) ∧ Below w.heap.size w wr) (fun _ i _ => n - (intOf i).toNat)
  case atStart => exact ⟨0, by omega, rfl, rfl, HB1.out⟩
  case round =>
    obtain ⟨k, hk, rfl, rfl, hb⟩ := hrel
    have hz := hb.size
    have HB := Lib.hid hb
    by_cases hlt : k < n
    · obtain ⟨A', cc', he, _, _, _, _, hs'⟩ := HS.out.below hb
      injection he with e1 _ e3
      subst e1 e3
      rcases hs'.2 with h0 | ⟨b, off, rfl, _, _⟩
      · omega
      obtain ⟨s0, s1, hbl⟩ := hs'.seg hlt
      have hlt' : (k : Int) < (n : Int) := by omega
      have hM := tkn_more l k (by rw [HL.out]; exact hlt)
      have hT := tkn_le (l.take k)
      have hTl := List.length_take_le k l
      have hq := byS_le (at' l k)
      have hO := ones_c (at' l k).2 (HU.out k)
      have hB := bytes_c (at' l k).1
      rw [clsB_by] at hB
      have hmul : ((pc (at' l k).2 64 : Nat) : Int) * ((byN (at' l k).1 : Nat) : Int) = ((byS (at' l k) : Nat) : Int) := by unfold byS; simp
      generalize byS (at' l k) = q at *
      generalize pc (at' l k).2 64 = p at *
      generalize byN (at' l k).1 = y at *
      generalize (at' l k).1 = x at *
      generalize (at' l k).2 = u at *
      have HM := Lib.hid hM
      obtain ⟨T, hT1⟩ : ∃ T, tknL (l.take k) = T := ⟨_, rfl⟩
      rw [hT1] at hT
      have HT1 := Lib.hid hT1
      rw [hT1]
      have e1 : IntKind.i64.wrap (q : Int) = (q : Int) := by rw [IntKind.wrap_i64]; omega
      have e2 : IntKind.i64.wrap ((T : Int) + (q : Int)) = ((T + q : Nat) : Int) := by rw [IntKind.wrap_i64]; omega
      clear hM hT1 hb hs'
      go_wp2_with fail
      go_quiet ((first | (go_at_call 19; exact quiet_left (hO _)) | (go_at_call 20; exact quiet_left (hB _))))
      clear e1 e2
      go_wp2_with fail
      go_roundw
      case rel => exact ⟨k + 1, by omega, by go_num, by rw [HM.out, HT1.out, Int.natCast_add], by have := HB.out; (repeat' (first | (with_reducible exact Below.refl _ _) | (with_reducible assumption) | (with_reducible refine Below.alloc ?_ ?_ _) | (with_reducible refine Below.drew ?_) | (with_reducible refine Below_drewN ?_ _) | (with_reducible refine Below.setCell ?_ ?_ _) | (refine Below.step (B' := ?_) (b := ?_) ?_ ?_ ?_; rotate_left 2; (with_reducible assumption)) | go_size))⟩
      case measure => first | (simp [intOf]; done) | (simp [intOf]; omega)
    · obtain rfl : k = n := by omega
      have HM := Lib.hid (show tknL (l.take k) = tknL l by rw [← HL.out, List.take_length])
      go_wp2_with fail
      go_ret
      exact ⟨ret_i (by rw [HM.out]), HB.out⟩
set_option maxRecDepth 100000 in
set_option maxHeartbeats 4000000 in
theorem held_c (v : Value) (n : Nat) (l : List Sg) (hc : chkL l) (w : World) (h : Segs w v n l) :
    Calls Tryd.prog 12 #[v] w fun e w' => e = .returned (.int .i64 ((heldL l : Nat) : Int)) ∧ Below w.heap.size w w' := by
  have HC := chk_c v n l w h
  rw [decide_eq_true hc] at HC
  have HS := Lib.hid h
  obtain ⟨A, cc, rfl, hcc, hn, hl, hu, hs⟩ := h
  have HL := Lib.hid hl
  clear hu hl hs hc hcc
  go_enter Tryd.func12, Tryd.ntmps12
  go_wp2_with fail
  refine HC.mono ?_
  rintro e w1 ⟨rfl, hb1⟩
  have HB1 := Lib.hid hb1
  clear hb1
  go_wp2_with fail
  go_loopw [3, 11] (fun t i wr => ∃ k : Nat, k ≤ n ∧ i = .int .i64 k ∧ t = .int .i64 ((heldL (l.take k) : Nat) : Int) ∧ Below w.heap.size w wr) (fun _ i _ => n - (intOf i).toNat)
  case atStart => exact ⟨0, by omega, rfl, rfl, HB1.out⟩
  case round =>
    obtain ⟨k, hk, rfl, rfl, hb⟩ := hrel
    have hz := hb.size
    have HB := Lib.hid hb
    by_cases hlt : k < n
    · obtain ⟨A', cc', he, _, _, _, _, hs'⟩ := HS.out.below hb
      injection he with e1 _ e3
      subst e1 e3
      rcases hs'.2 with h0 | ⟨b, off, rfl, _, _⟩
      · omega
      obtain ⟨s0, s1, hbl⟩ := hs'.seg hlt
      have hlt' : (k : Int) < (n : Int) := by omega
      have hM := held_more l k (by rw [HL.out]; exact hlt)
      have hT := held_le (l.take k)
      have hTl := List.length_take_le k l
      obtain ⟨T, hT1⟩ : ∃ T, heldL (l.take k) = T := ⟨_, rfl⟩
      rw [hT1] at hT hM
      rw [hT1]
      clear hT1 hb hs'
      generalize (at' l k).2 = u at *
      by_cases hf : (at' l k).1 = -1
      · rw [if_pos hf] at hM
        rw [hf] at s0
        have HM := Lib.hid hM
        clear hM hf
        go_wp2_with fail
        go_roundw
        case rel => exact ⟨k + 1, by omega, by go_num, by rw [HM.out]; rfl, by have := HB.out; (repeat' (first | (with_reducible exact Below.refl _ _) | (with_reducible assumption) | (with_reducible refine Below.alloc ?_ ?_ _) | (with_reducible refine Below.drew ?_) | (with_reducible refine Below_drewN ?_ _) | (with_reducible refine Below.setCell ?_ ?_ _) | (refine Below.step (B' := ?_) (b := ?_) ?_ ?_ ?_; rotate_left 2; (with_reducible assumption)) | go_size))⟩
        case measure => first | (simp [intOf]; done) | (simp [intOf]; omega)
      · rw [if_neg hf] at hM
        have hfi : ((at' l k).1 != -1) = true := by rw [bne_iff_ne]; exact hf
        have HM := Lib.hid hM
        clear hM hf
        generalize (at' l k).1 = x at *
        go_wp2_with fail
        go_roundw
        case rel => exact ⟨k + 1, by omega, by go_num, by rw [HM.out, Int.natCast_add]; rfl, by have := HB.out; (repeat' (first | (with_reducible exact Below.refl _ _) | (with_reducible assumption) | (with_reducible refine Below.alloc ?_ ?_ _) | (with_reducible refine Below.drew ?_) | (with_reducible refine Below_drewN ?_ _) | (with_reducible refine Below.setCell ?_ ?_ _) | (refine Below.step (B' := ?_) (b := ?_) ?_ ?_ ?_; rotate_left 2; (with_reducible assumption)) | go_size))⟩
        case measure => first | (simp [intOf]; done) | (simp [intOf]; omega)
    · obtain rfl : k = n := by omega
      have HM := Lib.hid (show heldL (l.take k) = heldL l by rw [← HL.out, List.take_length])
      go_wp2_with fail
      go_ret
      exact ⟨ret_i (by rw [HM.out]), HB.out⟩
theorem seg_ext (a b : List Sg) (h : a.length = b.length) (he : ∀ j, j < a.length → at' a j = at' b j) : a = b := by
  apply List.ext_getElem h
  intro j h1 h2
  have := he j h1
  unfold at' at this
  rwa [List.getD_eq_getElem?_getD, List.getD_eq_getElem?_getD, List.getElem?_eq_getElem h1, List.getElem?_eq_getElem h2] at this
end Go.Proofs.Tryd
