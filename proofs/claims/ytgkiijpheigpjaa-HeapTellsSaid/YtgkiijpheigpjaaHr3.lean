/- linhayref14.With. -/
import Derived.Test.YtgkiijpheigpjaaHr2
namespace Go.Proofs.Try
open Go.RowKit
set_option linter.unusedVariables false
set_option linter.unusedSimpArgs false
/-- Items in order, with one in the place of that of its ID. -/
def wI (l : List It) (x : It) : List It := insI (wo l x.1) x
set_option maxRecDepth 100000 in
set_option maxHeartbeats 8000000 in
theorem with_c0 (v : Value) (n : Nat) (l : List It) (x0 x1 x2 : Int) (hn : n ≤ 1000) (w : World) (h : Rows encI 3 w v n l) :
    Calls Try.prog 31 #[v, .agg #[.int .i64 x0, .int .u64 x1, .int .u64 x2]] w fun e w' => (∃ v', e = .returned v' ∧ Rows encI 3 w' v' (insI (wo l x0) (x0, x1, x2)).length (insI (wo l x0) (x0, x1, x2))) ∧ Below w.heap.size w w' := by
  have hwl := wo_len l x0
  rw [h.len] at hwl
  have WC := without_c v n l x0 hn (w.alloc (.cells #[.int .i64 x0, .int .u64 x1, .int .u64 x2] 25)) (h.below ((Below.refl w.heap.size w).alloc (Nat.le_refl _) (.cells #[.int .i64 x0, .int .u64 x1, .int .u64 x2] 25)))
  clear h
  generalize wo l x0 = R at WC hwl ⊢
  obtain ⟨r, hr0⟩ : ∃ r, r = R.length := ⟨_, rfl⟩
  rw [← hr0] at WC hwl
  obtain ⟨i0, hi, hz0, hz1, hz2⟩ := info_parts item_info
  have TX := Lib.hid (tri.new w (.int .i64 x0) (.int .u64 x1) (.int .u64 x2) 25)
  have HBW := Lib.hid (chain1 (Below.refl w.heap.size w) (.cells #[.int .i64 x0, .int .u64 x1, .int .u64 x2] 25))
  go_enter Try.func31, Try.ntmps31
  go_wp2_with fail
  refine WC.mono ?_
  rintro e w1 ⟨⟨v1, rfl, hrr⟩, hb1⟩
  clear WC
  obtain ⟨A, c, rfl, hca, _, hlen, hs⟩ := hrr
  have hr : r ≤ 1000 := by omega
  clear hlen hwl
  cases A with
  | none =>
    have hz := hca.1 rfl
    have hz2 := hca.2
    have hR : R = [] := List.eq_nil_of_length_eq_zero (by omega)
    subst hR
    subst hr0
    have hc0 : c = 0 := hz
    subst hc0
    clear hca hs hz hz2 hr
    replace TX := Lib.hid (TX.out.below hb1)
    replace HBW := Lib.hid (chain HBW.out hb1)
    clear hb1
    go_wp2_with fail
    go_loopw [6] (fun i wr => i = .int .i64 0 ∧ Hid (Below w.heap.size w wr) ∧ Hid (tri wr w.heap.size (.int .i64 x0) (.int .u64 x1) (.int .u64 x2))) (fun i _ => 0)
    case atStart => exact ⟨rfl, HBW, TX⟩
    case round =>
      clear HBW TX
      obtain ⟨rfl, HBW, TX⟩ := hrel
      obtain ⟨m0, m1, m2, ml⟩ := TX.out
      obtain ⟨W1, hW1⟩ : ∃ V, V = wr := ⟨_, rfl⟩
      subst hW1
      go_wp2_with fail
      go_region
      have hbz := HBW.out.size
      go_wp2_with (at_builtin
                   refine wpList_app2 rfl (.tmp 26) (.tmp 29) _ rfl W1.heap.size 25 i0 _ 3 24 Try.underlying22 hi hz0 hz1 hz2 rfl (by omega) _ 0 [] rfl (World.ownsRow_made W1 #[] 0 (Nat.le_refl _) (Nat.zero_le _) rfl) none 0 0 [] (by first | rfl | (simp [Act.eval]; done)) cap_none (Sees.empty _ _ _) (fun u hu => absurd hu (by simp)) (by unfold maxLen; omega) (by omega) (by simp) ?_
                   intro v2 w2 hown2 hg2 hat2)
      have hb2 : Below W1.heap.size W1 w2 := Below.grown (show Below W1.heap.size W1 _ from by (repeat' (first | (with_reducible exact Below.refl _ _) | (with_reducible assumption) | (with_reducible refine Below.alloc ?_ ?_ _) | (with_reducible refine Below.drew ?_) | (with_reducible refine Below_drewN ?_ _) | (with_reducible refine Below.setCell ?_ ?_ _) | (refine Below.step (B' := ?_) (b := ?_) ?_ ?_ ?_; rotate_left 2; (with_reducible assumption)) | go_size))) hg2 (by simp) (fun q hq => by have := Option.some.inj (show some W1.heap.size = some q from hq); omega)
      have TX2 := Lib.hid (TX.out.below hb2)
      have HBW2 := Lib.hid (chain HBW.out hb2)
      try simp only [Nat.zero_add, List.nil_append] at hown2
      obtain ⟨A2, c2, rfl, hc2, hse2⟩ := Sees.of_own hown2
      have HSE2 := Lib.hid hse2
      clear m0 m1 m2 ml hown2 hg2 hat2 hse2 hb2
      obtain ⟨m0, m1, m2, ml⟩ := TX2.out
      go_region_law ((first
        | (refine step_app rfl (.tmp 31) (.tmp 34) _ rfl w2.heap.size 25 i0 _ 3 24 Try.underlying22 hi hz0 hz1 hz2 rfl (by omega) (.slice (some ⟨w2.heap.size, 0, none⟩) 0 0) 0 [] rfl (by first | exact World.ownsRow_made w2 #[] 0 (Nat.le_refl _) (Nat.zero_le _) rfl | exact (World.ownsRow_made w2 #[] 0 (Nat.le_refl _) (Nat.zero_le _) rfl).alloc _) none 0 0 [] rfl cap_none (Sees.empty _ _ _) (fun u hu => absurd hu (by simp)) (by unfold maxLen; omega) (by omega) (by first | (simp; done) | omega | (simp; omega)) ?_
           intro v3 w3 hown3 hg3 hat3
           have hb3 : Below w2.heap.size w2 w3 := Below.grown (show Below w2.heap.size w2 _ from by (repeat' (first | (with_reducible exact Below.refl _ _) | (with_reducible assumption) | (with_reducible refine Below.alloc ?_ ?_ _) | (with_reducible refine Below.drew ?_) | (with_reducible refine Below_drewN ?_ _) | (with_reducible refine Below.setCell ?_ ?_ _) | (refine Below.step (B' := ?_) (b := ?_) ?_ ?_ ?_; rotate_left 2; (with_reducible assumption)) | go_size))) hg3 (by first | (simp; done) | (simp; omega)) (fun q hq => by first | (have := Option.some.inj (show some w2.heap.size = some q from hq); omega) | (have := Option.some.inj (show some (w2.heap.size + 1) = some q from hq); omega))
           have hz3 := hb3.size
           obtain ⟨n0, n1, n2, nl⟩ := TX2.out.below hb3
           try have HXB : Sees w3 3 (some ⟨w2.heap.size + 1, 0, none⟩) 1 [.int .i64 x0, .int .u64 x1, .int .u64 x2] := sees_grown2 (sees_blk2 w2 (.cells #[] 25) #[.int .i64 x0, .int .u64 x1, .int .u64 x2] 25 3 1 rfl) hg3 rfl (fun e => Nat.succ_ne_self _ (Option.some.inj (show some (w2.heap.size + 1) = some w2.heap.size from e))))
        | (refine step_app rfl (.tmp 31) (.tmp 34) _ rfl w2.heap.size 25 i0 _ 3 24 Try.underlying22 hi hz0 hz1 hz2 rfl (by omega) (.slice (some ⟨w2.heap.size + 1, 0, none⟩) 0 0) 0 [] rfl (own_made1 w2 (.cells #[.int .i64 x0, .int .u64 x1, .int .u64 x2] 25) 25) none 0 0 [] rfl cap_none (Sees.empty _ _ _) (fun u hu => absurd hu (by simp)) (by unfold maxLen; omega) (by omega) (by first | (simp; done) | omega | (simp; omega)) ?_
           intro v3 w3 hown3 hg3 hat3
           have hb3 : Below w2.heap.size w2 w3 := Below.grown (show Below w2.heap.size w2 _ from by (repeat' (first | (with_reducible exact Below.refl _ _) | (with_reducible assumption) | (with_reducible refine Below.alloc ?_ ?_ _) | (with_reducible refine Below.drew ?_) | (with_reducible refine Below_drewN ?_ _) | (with_reducible refine Below.setCell ?_ ?_ _) | (refine Below.step (B' := ?_) (b := ?_) ?_ ?_ ?_; rotate_left 2; (with_reducible assumption)) | go_size))) hg3 (by first | (simp; done) | (simp; omega)) (fun q hq => by first | (have := Option.some.inj (show some w2.heap.size = some q from hq); omega) | (have := Option.some.inj (show some (w2.heap.size + 1) = some q from hq); omega))
           have hz3 := hb3.size
           obtain ⟨n0, n1, n2, nl⟩ := TX2.out.below hb3
           try have HXC : Sees w3 3 (some ⟨w2.heap.size, 0, none⟩) 1 [.int .i64 x0, .int .u64 x1, .int .u64 x2] := sees_grown2 ((sees_blk w2 #[.int .i64 x0, .int .u64 x1, .int .u64 x2] 25 3 1 rfl).alloc (.cells #[] 25)) hg3 rfl (fun e => Nat.succ_ne_self _ (Option.some.inj (show some w2.heap.size = some (w2.heap.size + 1) from e)).symm))
        | (refine step_app rfl (.tmp 35) (.tmp 37) _ rfl w2.heap.size 25 i0 _ 3 24 Try.underlying22 hi hz0 hz1 hz2 rfl (by omega) v3 _ _ rfl (by first | exact hown3 | exact hown3.alloc _) (some ⟨w3.heap.size, 0, none⟩) 1 1 [.int .i64 x0, .int .u64 x1, .int .u64 x2] rfl (cap_some (by omega)) (sees_blk w3 #[.int .i64 x0, .int .u64 x1, .int .u64 x2] 25 3 1 rfl) (by simp [Value.oneCell']) (by unfold maxLen; omega) (by omega) (by first | (simp; done) | omega | (simp; omega)) ?_
           intro v4 w4 hown4 hg4 hat4
           have hb4 : Below w2.heap.size w2 w4 := Below.grown (show Below w2.heap.size w2 _ from by (repeat' (first | (with_reducible exact Below.refl _ _) | (with_reducible assumption) | (with_reducible refine Below.alloc ?_ ?_ _) | (with_reducible refine Below.drew ?_) | (with_reducible refine Below_drewN ?_ _) | (with_reducible refine Below.setCell ?_ ?_ _) | (refine Below.step (B' := ?_) (b := ?_) ?_ ?_ ?_; rotate_left 2; (with_reducible assumption)) | go_size))) hg4 (by first | (simp; done) | omega | (simp; omega)) (fun q hq => (hown3.lt q hq).1)
           have hz4 := hb4.size)
        | (refine step_app rfl (.tmp 35) (.tmp 37) _ rfl w2.heap.size 25 i0 _ 3 24 Try.underlying22 hi hz0 hz1 hz2 rfl (by omega) v3 _ _ rfl (by first | exact hown3 | exact hown3.alloc _) (some ⟨w2.heap.size + 1, 0, none⟩) 1 1 [.int .i64 x0, .int .u64 x1, .int .u64 x2] rfl (cap_some (by omega)) (HXB) (by simp [Value.oneCell']) (by unfold maxLen; omega) (by omega) (by first | (simp; done) | omega | (simp; omega)) ?_
           intro v4 w4 hown4 hg4 hat4
           have hb4 : Below w2.heap.size w2 w4 := Below.grown (show Below w2.heap.size w2 _ from by (repeat' (first | (with_reducible exact Below.refl _ _) | (with_reducible assumption) | (with_reducible refine Below.alloc ?_ ?_ _) | (with_reducible refine Below.drew ?_) | (with_reducible refine Below_drewN ?_ _) | (with_reducible refine Below.setCell ?_ ?_ _) | (refine Below.step (B' := ?_) (b := ?_) ?_ ?_ ?_; rotate_left 2; (with_reducible assumption)) | go_size))) hg4 (by first | (simp; done) | omega | (simp; omega)) (fun q hq => (hown3.lt q hq).1)
           have hz4 := hb4.size)
        | (refine step_app rfl (.tmp 35) (.tmp 37) _ rfl w2.heap.size 25 i0 _ 3 24 Try.underlying22 hi hz0 hz1 hz2 rfl (by omega) v3 _ _ rfl (by first | exact hown3 | exact hown3.alloc _) (some ⟨w2.heap.size, 0, none⟩) 1 1 [.int .i64 x0, .int .u64 x1, .int .u64 x2] rfl (cap_some (by omega)) (HXC) (by simp [Value.oneCell']) (by unfold maxLen; omega) (by omega) (by first | (simp; done) | omega | (simp; omega)) ?_
           intro v4 w4 hown4 hg4 hat4
           have hb4 : Below w2.heap.size w2 w4 := Below.grown (show Below w2.heap.size w2 _ from by (repeat' (first | (with_reducible exact Below.refl _ _) | (with_reducible assumption) | (with_reducible refine Below.alloc ?_ ?_ _) | (with_reducible refine Below.drew ?_) | (with_reducible refine Below_drewN ?_ _) | (with_reducible refine Below.setCell ?_ ?_ _) | (refine Below.step (B' := ?_) (b := ?_) ?_ ?_ ?_; rotate_left 2; (with_reducible assumption)) | go_size))) hg4 (by first | (simp; done) | omega | (simp; omega)) (fun q hq => (hown3.lt q hq).1)
           have hz4 := hb4.size)
        | (refine step_app rfl (.tmp 38) (.tmp 39) _ rfl w2.heap.size 25 i0 _ 3 24 Try.underlying22 hi hz0 hz1 hz2 rfl (by omega) v4 _ _ rfl hown4 A2 0 c2 [] rfl hc2 (HSE2.out.below hb4) (fun u hu => absurd hu (by simp)) (by unfold maxLen; omega) (by omega) hz4 ?_
           intro v5 w5 hown5 hg5 hat5
           have hb5 : Below w2.heap.size w2 w5 := Below.grown hb4 hg5 hz4 (fun q hq => (hown4.lt q hq).1))))
      all_goals
        go_wp2_with fail
        go_ret
        have hil : (insI [] (x0, x1, x2)).length = 1 := rfl
        refine ⟨⟨v5, rfl, ?_⟩, chain HBW2.out hb5⟩
        refine Rows.of_own (base := w2.heap.size) (e := 25) ?_ hil (by omega)
        have hfl : flat encI (insI [] (x0, x1, x2)) = [.int .i64 x0, .int .u64 x1, .int .u64 x2] := rfl
        rw [hfl, hil]
        simpa using hown5
  | some a =>
    by_cases hrz : r = 0
    · have hR : R = [] := List.eq_nil_of_length_eq_zero (by omega)
      subst hR
      subst hr0
      have hca2 := Lib.hid hca
      clear hca hs hrz hr
      replace TX := Lib.hid (TX.out.below hb1)
      replace HBW := Lib.hid (chain HBW.out hb1)
      clear hb1
      go_wp2_with fail
      go_loopw [6] (fun i wr => i = .int .i64 0 ∧ Hid (Below w.heap.size w wr) ∧ Hid (tri wr w.heap.size (.int .i64 x0) (.int .u64 x1) (.int .u64 x2))) (fun i _ => 0)
      case atStart => exact ⟨rfl, HBW, TX⟩
      case round =>
        clear HBW TX
        obtain ⟨rfl, HBW, TX⟩ := hrel
        obtain ⟨m0, m1, m2, ml⟩ := TX.out
        obtain ⟨W1, hW1⟩ : ∃ V, V = wr := ⟨_, rfl⟩
        subst hW1
        go_wp2_with fail
        go_region
        have hbz := HBW.out.size
        go_wp2_with (at_builtin
                     refine wpList_app2 rfl (.tmp 26) (.tmp 29) _ rfl W1.heap.size 25 i0 _ 3 24 Try.underlying22 hi hz0 hz1 hz2 rfl (by omega) _ 0 [] rfl (World.ownsRow_made W1 #[] 0 (Nat.le_refl _) (Nat.zero_le _) rfl) (some a) 0 c [] (by first | rfl | (simp [Act.eval]; done)) (cap_some (Nat.zero_le _)) (Sees.empty _ _ _) (fun u hu => absurd hu (by simp)) (by unfold maxLen; omega) (by omega) (by simp) ?_
                     intro v2 w2 hown2 hg2 hat2)
        have hb2 : Below W1.heap.size W1 w2 := Below.grown (show Below W1.heap.size W1 _ from by (repeat' (first | (with_reducible exact Below.refl _ _) | (with_reducible assumption) | (with_reducible refine Below.alloc ?_ ?_ _) | (with_reducible refine Below.drew ?_) | (with_reducible refine Below_drewN ?_ _) | (with_reducible refine Below.setCell ?_ ?_ _) | (refine Below.step (B' := ?_) (b := ?_) ?_ ?_ ?_; rotate_left 2; (with_reducible assumption)) | go_size))) hg2 (by simp) (fun q hq => by have := Option.some.inj (show some W1.heap.size = some q from hq); omega)
        have TX2 := Lib.hid (TX.out.below hb2)
        have HBW2 := Lib.hid (chain HBW.out hb2)
        try simp only [Nat.zero_add, List.nil_append] at hown2
        obtain ⟨A2, c2, rfl, hc2, hse2⟩ := Sees.of_own hown2
        have HSE2 := Lib.hid hse2
        clear m0 m1 m2 ml hown2 hg2 hat2 hse2 hb2
        obtain ⟨m0, m1, m2, ml⟩ := TX2.out
        go_region_law ((first
          | (refine step_app rfl (.tmp 31) (.tmp 34) _ rfl w2.heap.size 25 i0 _ 3 24 Try.underlying22 hi hz0 hz1 hz2 rfl (by omega) (.slice (some ⟨w2.heap.size, 0, none⟩) 0 0) 0 [] rfl (by first | exact World.ownsRow_made w2 #[] 0 (Nat.le_refl _) (Nat.zero_le _) rfl | exact (World.ownsRow_made w2 #[] 0 (Nat.le_refl _) (Nat.zero_le _) rfl).alloc _) (some a) 0 c [] rfl (cap_some (Nat.zero_le _)) (Sees.empty _ _ _) (fun u hu => absurd hu (by simp)) (by unfold maxLen; omega) (by omega) (by first | (simp; done) | omega | (simp; omega)) ?_
             intro v3 w3 hown3 hg3 hat3
             have hb3 : Below w2.heap.size w2 w3 := Below.grown (show Below w2.heap.size w2 _ from by (repeat' (first | (with_reducible exact Below.refl _ _) | (with_reducible assumption) | (with_reducible refine Below.alloc ?_ ?_ _) | (with_reducible refine Below.drew ?_) | (with_reducible refine Below_drewN ?_ _) | (with_reducible refine Below.setCell ?_ ?_ _) | (refine Below.step (B' := ?_) (b := ?_) ?_ ?_ ?_; rotate_left 2; (with_reducible assumption)) | go_size))) hg3 (by first | (simp; done) | (simp; omega)) (fun q hq => by first | (have := Option.some.inj (show some w2.heap.size = some q from hq); omega) | (have := Option.some.inj (show some (w2.heap.size + 1) = some q from hq); omega))
             have hz3 := hb3.size
             obtain ⟨n0, n1, n2, nl⟩ := TX2.out.below hb3
             try have HXB : Sees w3 3 (some ⟨w2.heap.size + 1, 0, none⟩) 1 [.int .i64 x0, .int .u64 x1, .int .u64 x2] := sees_grown2 (sees_blk2 w2 (.cells #[] 25) #[.int .i64 x0, .int .u64 x1, .int .u64 x2] 25 3 1 rfl) hg3 rfl (fun e => Nat.succ_ne_self _ (Option.some.inj (show some (w2.heap.size + 1) = some w2.heap.size from e))))
          | (refine step_app rfl (.tmp 31) (.tmp 34) _ rfl w2.heap.size 25 i0 _ 3 24 Try.underlying22 hi hz0 hz1 hz2 rfl (by omega) (.slice (some ⟨w2.heap.size + 1, 0, none⟩) 0 0) 0 [] rfl (own_made1 w2 (.cells #[.int .i64 x0, .int .u64 x1, .int .u64 x2] 25) 25) (some a) 0 c [] rfl (cap_some (Nat.zero_le _)) (Sees.empty _ _ _) (fun u hu => absurd hu (by simp)) (by unfold maxLen; omega) (by omega) (by first | (simp; done) | omega | (simp; omega)) ?_
             intro v3 w3 hown3 hg3 hat3
             have hb3 : Below w2.heap.size w2 w3 := Below.grown (show Below w2.heap.size w2 _ from by (repeat' (first | (with_reducible exact Below.refl _ _) | (with_reducible assumption) | (with_reducible refine Below.alloc ?_ ?_ _) | (with_reducible refine Below.drew ?_) | (with_reducible refine Below_drewN ?_ _) | (with_reducible refine Below.setCell ?_ ?_ _) | (refine Below.step (B' := ?_) (b := ?_) ?_ ?_ ?_; rotate_left 2; (with_reducible assumption)) | go_size))) hg3 (by first | (simp; done) | (simp; omega)) (fun q hq => by first | (have := Option.some.inj (show some w2.heap.size = some q from hq); omega) | (have := Option.some.inj (show some (w2.heap.size + 1) = some q from hq); omega))
             have hz3 := hb3.size
             obtain ⟨n0, n1, n2, nl⟩ := TX2.out.below hb3
             try have HXC : Sees w3 3 (some ⟨w2.heap.size, 0, none⟩) 1 [.int .i64 x0, .int .u64 x1, .int .u64 x2] := sees_grown2 ((sees_blk w2 #[.int .i64 x0, .int .u64 x1, .int .u64 x2] 25 3 1 rfl).alloc (.cells #[] 25)) hg3 rfl (fun e => Nat.succ_ne_self _ (Option.some.inj (show some w2.heap.size = some (w2.heap.size + 1) from e)).symm))
          | (refine step_app rfl (.tmp 35) (.tmp 37) _ rfl w2.heap.size 25 i0 _ 3 24 Try.underlying22 hi hz0 hz1 hz2 rfl (by omega) v3 _ _ rfl (by first | exact hown3 | exact hown3.alloc _) (some ⟨w3.heap.size, 0, none⟩) 1 1 [.int .i64 x0, .int .u64 x1, .int .u64 x2] rfl (cap_some (by omega)) (sees_blk w3 #[.int .i64 x0, .int .u64 x1, .int .u64 x2] 25 3 1 rfl) (by simp [Value.oneCell']) (by unfold maxLen; omega) (by omega) (by first | (simp; done) | omega | (simp; omega)) ?_
             intro v4 w4 hown4 hg4 hat4
             have hb4 : Below w2.heap.size w2 w4 := Below.grown (show Below w2.heap.size w2 _ from by (repeat' (first | (with_reducible exact Below.refl _ _) | (with_reducible assumption) | (with_reducible refine Below.alloc ?_ ?_ _) | (with_reducible refine Below.drew ?_) | (with_reducible refine Below_drewN ?_ _) | (with_reducible refine Below.setCell ?_ ?_ _) | (refine Below.step (B' := ?_) (b := ?_) ?_ ?_ ?_; rotate_left 2; (with_reducible assumption)) | go_size))) hg4 (by first | (simp; done) | omega | (simp; omega)) (fun q hq => (hown3.lt q hq).1)
             have hz4 := hb4.size)
          | (refine step_app rfl (.tmp 35) (.tmp 37) _ rfl w2.heap.size 25 i0 _ 3 24 Try.underlying22 hi hz0 hz1 hz2 rfl (by omega) v3 _ _ rfl (by first | exact hown3 | exact hown3.alloc _) (some ⟨w2.heap.size + 1, 0, none⟩) 1 1 [.int .i64 x0, .int .u64 x1, .int .u64 x2] rfl (cap_some (by omega)) (HXB) (by simp [Value.oneCell']) (by unfold maxLen; omega) (by omega) (by first | (simp; done) | omega | (simp; omega)) ?_
             intro v4 w4 hown4 hg4 hat4
             have hb4 : Below w2.heap.size w2 w4 := Below.grown (show Below w2.heap.size w2 _ from by (repeat' (first | (with_reducible exact Below.refl _ _) | (with_reducible assumption) | (with_reducible refine Below.alloc ?_ ?_ _) | (with_reducible refine Below.drew ?_) | (with_reducible refine Below_drewN ?_ _) | (with_reducible refine Below.setCell ?_ ?_ _) | (refine Below.step (B' := ?_) (b := ?_) ?_ ?_ ?_; rotate_left 2; (with_reducible assumption)) | go_size))) hg4 (by first | (simp; done) | omega | (simp; omega)) (fun q hq => (hown3.lt q hq).1)
             have hz4 := hb4.size)
          | (refine step_app rfl (.tmp 35) (.tmp 37) _ rfl w2.heap.size 25 i0 _ 3 24 Try.underlying22 hi hz0 hz1 hz2 rfl (by omega) v3 _ _ rfl (by first | exact hown3 | exact hown3.alloc _) (some ⟨w2.heap.size, 0, none⟩) 1 1 [.int .i64 x0, .int .u64 x1, .int .u64 x2] rfl (cap_some (by omega)) (HXC) (by simp [Value.oneCell']) (by unfold maxLen; omega) (by omega) (by first | (simp; done) | omega | (simp; omega)) ?_
             intro v4 w4 hown4 hg4 hat4
             have hb4 : Below w2.heap.size w2 w4 := Below.grown (show Below w2.heap.size w2 _ from by (repeat' (first | (with_reducible exact Below.refl _ _) | (with_reducible assumption) | (with_reducible refine Below.alloc ?_ ?_ _) | (with_reducible refine Below.drew ?_) | (with_reducible refine Below_drewN ?_ _) | (with_reducible refine Below.setCell ?_ ?_ _) | (refine Below.step (B' := ?_) (b := ?_) ?_ ?_ ?_; rotate_left 2; (with_reducible assumption)) | go_size))) hg4 (by first | (simp; done) | omega | (simp; omega)) (fun q hq => (hown3.lt q hq).1)
             have hz4 := hb4.size)
          | (refine step_app rfl (.tmp 38) (.tmp 39) _ rfl w2.heap.size 25 i0 _ 3 24 Try.underlying22 hi hz0 hz1 hz2 rfl (by omega) v4 _ _ rfl hown4 A2 0 c2 [] rfl hc2 (HSE2.out.below hb4) (fun u hu => absurd hu (by simp)) (by unfold maxLen; omega) (by omega) hz4 ?_
             intro v5 w5 hown5 hg5 hat5
             have hb5 : Below w2.heap.size w2 w5 := Below.grown hb4 hg5 hz4 (fun q hq => (hown4.lt q hq).1))))
        all_goals
          go_wp2_with fail
          go_ret
          have hil : (insI [] (x0, x1, x2)).length = 1 := rfl
          refine ⟨⟨v5, rfl, ?_⟩, chain HBW2.out hb5⟩
          refine Rows.of_own (base := w2.heap.size) (e := 25) ?_ hil (by omega)
          have hfl : flat encI (insI [] (x0, x1, x2)) = [.int .i64 x0, .int .u64 x1, .int .u64 x2] := rfl
          rw [hfl, hil]
          simpa using hown5
    obtain ⟨b, o, hab, hblx⟩ := Rows.some hs hrz
    injection hab with hab
    subst hab
    clear hrz hn hblx
    have hcr : r ≤ c := hca.2
    have HL := Lib.hid hr0.symm
    clear hr0 hca
    replace TX := Lib.hid (TX.out.below hb1)
    replace HBW := Lib.hid (chain HBW.out hb1)
    have HS := Lib.hid hs
    clear hs hb1
    go_wp2_with fail
    go_loopw [6] (fun i wr => ∃ k : Nat, k ≤ r ∧ i = .int .i64 k ∧ Hid (∀ j, j < k → LtI (atI R j) (x0, x1, x2)) ∧ Hid (Below w.heap.size w wr) ∧ Hid (Sees wr 3 (some ⟨b, o, none⟩) r (flat encI R)) ∧ Hid (tri wr w.heap.size (.int .i64 x0) (.int .u64 x1) (.int .u64 x2))) (fun i _ => r - (intOf i).toNat)
    case atStart => exact ⟨0, by omega, rfl, Lib.hid (fun j hj => by omega), HBW, HS, TX⟩
    case round =>
      clear HBW HS TX
      obtain ⟨k, hk, rfl, HK, HBW, HS, TX⟩ := hrel
      obtain ⟨m0, m1, m2, ml⟩ := TX.out
      have hkc : (k : Int) ≤ (c : Int) := by omega
      have hkc' : k ≤ c := by omega
      have hki : (k : Int) ≤ (r : Int) := by omega
      have hrc : (r : Int) ≤ (c : Int) := by omega
      by_cases hlt : k < r
      · have hlt' : (k : Int) < (r : Int) := by omega
        obtain ⟨s0, s1, s2, hbl⟩ := HS.out.item hlt
        obtain ⟨y0, hy0⟩ : ∃ x, (atI R k).1 = x := ⟨_, rfl⟩
        obtain ⟨y1, hy1⟩ : ∃ x, (atI R k).2.1 = x := ⟨_, rfl⟩
        obtain ⟨y2, hy2⟩ : ∃ x, (atI R k).2.2 = x := ⟨_, rfl⟩
        have HY := Lib.hid (show atI R k = (y0, y1, y2) by rw [← hy0, ← hy1, ← hy2])
        rw [hy0] at s0
        rw [hy1] at s1
        rw [hy2] at s2
        clear hy0 hy1 hy2
        have L1 := fun W => rless_c y0 y1 y2 x0 x1 x2 W
        by_cases hyx : LtI (y0, y1, y2) (x0, x1, x2)
        · rw [decide_eq_true hyx] at L1
          have HK2 : Hid (∀ j, j < k + 1 → LtI (atI R j) (x0, x1, x2)) := Lib.hid (fun j hj => by
            by_cases e : j = k
            · rw [e, HY.out]; exact hyx
            · exact HK.out j (by omega))
          clear hyx
          go_wp2_with fail
          (refine region_later (by kernel_rfl) (by kernel_rfl) ?_); (intro hlat); (repeat (go_big_quiet_step (((go_at_call 23; with_reducible exact later_call (L1 _)))))); (refine wpQuiet_nil ?_); (intro W1 hb1); (clear hlat)
          go_wp2_with fail
          go_roundw
          case rel => exact ⟨k + 1, by omega, by go_num, HK2, Lib.hid (chain HBW.out hb1), Lib.hid (HS.out.below hb1), Lib.hid (TX.out.below hb1)⟩
          case measure => first | (simp [intOf]; done) | (simp [intOf]; omega)
        · rw [decide_eq_false hyx] at L1
          have HI := Lib.hid (insI_at (l := R) (x := (x0, x1, x2)) (k := k) (by rw [HL.out]; exact hk) HK.out (fun _ => by rw [HY.out]; exact hyx))
          clear hyx
          go_wp2_with fail
          (refine region_later (by kernel_rfl) (by kernel_rfl) ?_); (intro hlat); (repeat (go_big_quiet_step (((go_at_call 23; with_reducible exact later_call (L1 _)))))); (refine wpQuiet_nil ?_); (intro W1 hb1); (clear hlat)
          replace HBW := Lib.hid (chain HBW.out hb1)
          replace HS := Lib.hid (HS.out.below hb1)
          replace TX := Lib.hid (TX.out.below hb1)
          clear s0 s1 s2 hbl m0 m1 m2 ml hb1 L1 HY HK
          obtain ⟨m0, m1, m2, ml⟩ := TX.out
          have hbz := HBW.out.size
          have HD := Lib.hid (fun W (h : Sees W 3 (some ⟨b, o, none⟩) r (flat encI R)) => sees_from hk h)
          have hck : (c = k) = False := by simp; omega
          go_wp2_with (at_builtin
                       refine wpList_app2 rfl (.tmp 26) (.tmp 29) _ rfl W1.heap.size 25 i0 _ 3 24 Try.underlying22 hi hz0 hz1 hz2 rfl (by omega) _ 0 [] rfl (World.ownsRow_made W1 #[] 0 (Nat.le_refl _) (Nat.zero_le _) rfl) (some ⟨b, o + k * 3, none⟩) (r - k) (c - k) ((flat encI R).drop (k * 3)) (by first | rfl | (simp [Act.eval]; done)) (cap_some (by omega)) (HD.out _ (HS.out.alloc _)) (fun u hu => flat_one encI_one R u (List.mem_of_mem_drop hu)) (by unfold maxLen; omega) (by omega) (by simp) ?_
                       intro v2 w2 hown2 hg2 hat2)
          have hb2 : Below W1.heap.size W1 w2 := ((Below.refl W1.heap.size W1).alloc (Nat.le_refl _) _).grown hg2 (by simp) (fun q hq => by have := Option.some.inj (show some W1.heap.size = some q from hq); omega)
          have TX2 := Lib.hid (TX.out.below hb2)
          have HS2 := Lib.hid (HS.out.below hb2)
          have HBW2 := Lib.hid (chain HBW.out hb2)
          try simp only [Nat.zero_add, List.nil_append] at hown2
          obtain ⟨A2, c2, rfl, hc2, hse2⟩ := Sees.of_own hown2
          have HSE2 := Lib.hid hse2
          clear m0 m1 m2 ml hown2 hg2 hat2 hse2 hb2
          obtain ⟨m0, m1, m2, ml⟩ := TX2.out
          go_region_law ((first
            | (refine step_app rfl (.tmp 31) (.tmp 34) _ rfl w2.heap.size 25 i0 _ 3 24 Try.underlying22 hi hz0 hz1 hz2 rfl (by omega) (.slice (some ⟨w2.heap.size, 0, none⟩) 0 0) 0 [] rfl (by first | exact World.ownsRow_made w2 #[] 0 (Nat.le_refl _) (Nat.zero_le _) rfl | exact (World.ownsRow_made w2 #[] 0 (Nat.le_refl _) (Nat.zero_le _) rfl).alloc _) (some ⟨b, o, none⟩) k c ((flat encI R).take (k * 3)) rfl (cap_some hkc') (by first | exact ((sees_take HS2.out k hk).alloc _) | exact ((sees_take HS2.out k hk).alloc _).alloc _) (fun u hu => flat_one encI_one R u (List.mem_of_mem_take hu)) (by unfold maxLen; omega) (by omega) (by first | (simp; done) | omega | (simp; omega)) ?_
               intro v3 w3 hown3 hg3 hat3
               have hb3 : Below w2.heap.size w2 w3 := Below.grown (show Below w2.heap.size w2 _ from by (repeat' (first | (with_reducible exact Below.refl _ _) | (with_reducible assumption) | (with_reducible refine Below.alloc ?_ ?_ _) | (with_reducible refine Below.drew ?_) | (with_reducible refine Below_drewN ?_ _) | (with_reducible refine Below.setCell ?_ ?_ _) | (refine Below.step (B' := ?_) (b := ?_) ?_ ?_ ?_; rotate_left 2; (with_reducible assumption)) | go_size))) hg3 (by first | (simp; done) | (simp; omega)) (fun q hq => by first | (have := Option.some.inj (show some w2.heap.size = some q from hq); omega) | (have := Option.some.inj (show some (w2.heap.size + 1) = some q from hq); omega))
               have hz3 := hb3.size
               obtain ⟨n0, n1, n2, nl⟩ := TX2.out.below hb3
               try have HXB : Sees w3 3 (some ⟨w2.heap.size + 1, 0, none⟩) 1 [.int .i64 x0, .int .u64 x1, .int .u64 x2] := sees_grown2 (sees_blk2 w2 (.cells #[] 25) #[.int .i64 x0, .int .u64 x1, .int .u64 x2] 25 3 1 rfl) hg3 rfl (fun e => Nat.succ_ne_self _ (Option.some.inj (show some (w2.heap.size + 1) = some w2.heap.size from e))))
            | (refine step_app rfl (.tmp 31) (.tmp 34) _ rfl w2.heap.size 25 i0 _ 3 24 Try.underlying22 hi hz0 hz1 hz2 rfl (by omega) (.slice (some ⟨w2.heap.size + 1, 0, none⟩) 0 0) 0 [] rfl (own_made1 w2 (.cells #[.int .i64 x0, .int .u64 x1, .int .u64 x2] 25) 25) (some ⟨b, o, none⟩) k c ((flat encI R).take (k * 3)) rfl (cap_some hkc') (by first | exact ((sees_take HS2.out k hk).alloc _) | exact ((sees_take HS2.out k hk).alloc _).alloc _) (fun u hu => flat_one encI_one R u (List.mem_of_mem_take hu)) (by unfold maxLen; omega) (by omega) (by first | (simp; done) | omega | (simp; omega)) ?_
               intro v3 w3 hown3 hg3 hat3
               have hb3 : Below w2.heap.size w2 w3 := Below.grown (show Below w2.heap.size w2 _ from by (repeat' (first | (with_reducible exact Below.refl _ _) | (with_reducible assumption) | (with_reducible refine Below.alloc ?_ ?_ _) | (with_reducible refine Below.drew ?_) | (with_reducible refine Below_drewN ?_ _) | (with_reducible refine Below.setCell ?_ ?_ _) | (refine Below.step (B' := ?_) (b := ?_) ?_ ?_ ?_; rotate_left 2; (with_reducible assumption)) | go_size))) hg3 (by first | (simp; done) | (simp; omega)) (fun q hq => by first | (have := Option.some.inj (show some w2.heap.size = some q from hq); omega) | (have := Option.some.inj (show some (w2.heap.size + 1) = some q from hq); omega))
               have hz3 := hb3.size
               obtain ⟨n0, n1, n2, nl⟩ := TX2.out.below hb3
               try have HXC : Sees w3 3 (some ⟨w2.heap.size, 0, none⟩) 1 [.int .i64 x0, .int .u64 x1, .int .u64 x2] := sees_grown2 ((sees_blk w2 #[.int .i64 x0, .int .u64 x1, .int .u64 x2] 25 3 1 rfl).alloc (.cells #[] 25)) hg3 rfl (fun e => Nat.succ_ne_self _ (Option.some.inj (show some w2.heap.size = some (w2.heap.size + 1) from e)).symm))
            | (refine step_app rfl (.tmp 35) (.tmp 37) _ rfl w2.heap.size 25 i0 _ 3 24 Try.underlying22 hi hz0 hz1 hz2 rfl (by omega) v3 _ _ rfl (by first | exact hown3 | exact hown3.alloc _) (some ⟨w3.heap.size, 0, none⟩) 1 1 [.int .i64 x0, .int .u64 x1, .int .u64 x2] rfl (cap_some (by omega)) (sees_blk w3 #[.int .i64 x0, .int .u64 x1, .int .u64 x2] 25 3 1 rfl) (by simp [Value.oneCell']) (by unfold maxLen; omega) (by omega) (by first | (simp; done) | omega | (simp; omega)) ?_
               intro v4 w4 hown4 hg4 hat4
               have hb4 : Below w2.heap.size w2 w4 := Below.grown (show Below w2.heap.size w2 _ from by (repeat' (first | (with_reducible exact Below.refl _ _) | (with_reducible assumption) | (with_reducible refine Below.alloc ?_ ?_ _) | (with_reducible refine Below.drew ?_) | (with_reducible refine Below_drewN ?_ _) | (with_reducible refine Below.setCell ?_ ?_ _) | (refine Below.step (B' := ?_) (b := ?_) ?_ ?_ ?_; rotate_left 2; (with_reducible assumption)) | go_size))) hg4 (by first | (simp; done) | omega | (simp; omega)) (fun q hq => (hown3.lt q hq).1)
               have hz4 := hb4.size)
            | (refine step_app rfl (.tmp 35) (.tmp 37) _ rfl w2.heap.size 25 i0 _ 3 24 Try.underlying22 hi hz0 hz1 hz2 rfl (by omega) v3 _ _ rfl (by first | exact hown3 | exact hown3.alloc _) (some ⟨w2.heap.size + 1, 0, none⟩) 1 1 [.int .i64 x0, .int .u64 x1, .int .u64 x2] rfl (cap_some (by omega)) (HXB) (by simp [Value.oneCell']) (by unfold maxLen; omega) (by omega) (by first | (simp; done) | omega | (simp; omega)) ?_
               intro v4 w4 hown4 hg4 hat4
               have hb4 : Below w2.heap.size w2 w4 := Below.grown (show Below w2.heap.size w2 _ from by (repeat' (first | (with_reducible exact Below.refl _ _) | (with_reducible assumption) | (with_reducible refine Below.alloc ?_ ?_ _) | (with_reducible refine Below.drew ?_) | (with_reducible refine Below_drewN ?_ _) | (with_reducible refine Below.setCell ?_ ?_ _) | (refine Below.step (B' := ?_) (b := ?_) ?_ ?_ ?_; rotate_left 2; (with_reducible assumption)) | go_size))) hg4 (by first | (simp; done) | omega | (simp; omega)) (fun q hq => (hown3.lt q hq).1)
               have hz4 := hb4.size)
            | (refine step_app rfl (.tmp 35) (.tmp 37) _ rfl w2.heap.size 25 i0 _ 3 24 Try.underlying22 hi hz0 hz1 hz2 rfl (by omega) v3 _ _ rfl (by first | exact hown3 | exact hown3.alloc _) (some ⟨w2.heap.size, 0, none⟩) 1 1 [.int .i64 x0, .int .u64 x1, .int .u64 x2] rfl (cap_some (by omega)) (HXC) (by simp [Value.oneCell']) (by unfold maxLen; omega) (by omega) (by first | (simp; done) | omega | (simp; omega)) ?_
               intro v4 w4 hown4 hg4 hat4
               have hb4 : Below w2.heap.size w2 w4 := Below.grown (show Below w2.heap.size w2 _ from by (repeat' (first | (with_reducible exact Below.refl _ _) | (with_reducible assumption) | (with_reducible refine Below.alloc ?_ ?_ _) | (with_reducible refine Below.drew ?_) | (with_reducible refine Below_drewN ?_ _) | (with_reducible refine Below.setCell ?_ ?_ _) | (refine Below.step (B' := ?_) (b := ?_) ?_ ?_ ?_; rotate_left 2; (with_reducible assumption)) | go_size))) hg4 (by first | (simp; done) | omega | (simp; omega)) (fun q hq => (hown3.lt q hq).1)
               have hz4 := hb4.size)
            | (refine step_app rfl (.tmp 38) (.tmp 39) _ rfl w2.heap.size 25 i0 _ 3 24 Try.underlying22 hi hz0 hz1 hz2 rfl (by omega) v4 _ _ rfl hown4 A2 (r - k) c2 ((flat encI R).drop (k * 3)) rfl hc2 (HSE2.out.below hb4) (fun u hu => flat_one encI_one R u (List.mem_of_mem_drop hu)) (by unfold maxLen; omega) (by omega) hz4 ?_
               intro v5 w5 hown5 hg5 hat5
               have hb5 : Below w2.heap.size w2 w5 := Below.grown hb4 hg5 hz4 (fun q hq => (hown4.lt q hq).1))))
          all_goals
            go_wp2_with fail
            go_ret
            have hfl : (flat encI R).take (k * 3) ++ ([.int .i64 x0, .int .u64 x1, .int .u64 x2] : List Value) ++ (flat encI R).drop (k * 3) = flat encI (insI R (x0, x1, x2)) := by
              rw [HI.out, flat_app, flat_app, flat_take encI_len, flat_drop encI_len, List.append_assoc]; rfl
            have hil : (insI R (x0, x1, x2)).length = k + 1 + (r - k) := by
              rw [(insI_perm R (x0, x1, x2)).length_eq, List.length_cons, HL.out]; omega
            refine ⟨⟨v5, rfl, ?_⟩, chain HBW2.out hb5⟩
            rw [hil]
            refine Rows.of_own (base := w2.heap.size) (e := 25) ?_ hil (by omega)
            rw [← hfl]
            simpa using hown5
      · have hnl : ¬((k : Int) < (r : Int)) := by omega
        have HI := Lib.hid (insI_at (l := R) (x := (x0, x1, x2)) (k := k) (by rw [HL.out]; exact hk) HK.out (fun h => by rw [HL.out] at h; omega))
        obtain ⟨W1, hW1⟩ : ∃ V, V = wr := ⟨_, rfl⟩
        subst hW1
        clear HK
        go_wp2_with fail
        go_region
        have hbz := HBW.out.size
        obtain ⟨X, hX, HDX⟩ := sub_from b o 3 r c k (flat encI R) hk hcr
        have HD := Lib.hid HDX
        clear HDX
        go_wp2_with (at_builtin
                     refine wpList_app2 rfl (.tmp 26) (.tmp 29) _ rfl W1.heap.size 25 i0 _ 3 24 Try.underlying22 hi hz0 hz1 hz2 rfl (by omega) _ 0 [] rfl (World.ownsRow_made W1 #[] 0 (Nat.le_refl _) (Nat.zero_le _) rfl) (some ⟨b, X, none⟩) (r - k) (c - k) ((flat encI R).drop (k * 3)) (by first | rfl | (simp [Act.eval]; done)) (cap_some (by omega)) (HD.out _ (HS.out.alloc _)) (fun u hu => flat_one encI_one R u (List.mem_of_mem_drop hu)) (by unfold maxLen; omega) (by omega) (by simp) ?_
                     intro v2 w2 hown2 hg2 hat2)
        have hb2 : Below W1.heap.size W1 w2 := Below.grown (show Below W1.heap.size W1 _ from by (repeat' (first | (with_reducible exact Below.refl _ _) | (with_reducible assumption) | (with_reducible refine Below.alloc ?_ ?_ _) | (with_reducible refine Below.drew ?_) | (with_reducible refine Below_drewN ?_ _) | (with_reducible refine Below.setCell ?_ ?_ _) | (refine Below.step (B' := ?_) (b := ?_) ?_ ?_ ?_; rotate_left 2; (with_reducible assumption)) | go_size))) hg2 (by simp) (fun q hq => by have := Option.some.inj (show some W1.heap.size = some q from hq); omega)
        have TX2 := Lib.hid (TX.out.below hb2)
        have HS2 := Lib.hid (HS.out.below hb2)
        have HBW2 := Lib.hid (chain HBW.out hb2)
        try simp only [Nat.zero_add, List.nil_append] at hown2
        obtain ⟨A2, c2, rfl, hc2, hse2⟩ := Sees.of_own hown2
        have HSE2 := Lib.hid hse2
        clear m0 m1 m2 ml hown2 hg2 hat2 hse2 hb2
        obtain ⟨m0, m1, m2, ml⟩ := TX2.out
        go_region_law ((first
          | (refine step_app rfl (.tmp 31) (.tmp 34) _ rfl w2.heap.size 25 i0 _ 3 24 Try.underlying22 hi hz0 hz1 hz2 rfl (by omega) (.slice (some ⟨w2.heap.size, 0, none⟩) 0 0) 0 [] rfl (by first | exact World.ownsRow_made w2 #[] 0 (Nat.le_refl _) (Nat.zero_le _) rfl | exact (World.ownsRow_made w2 #[] 0 (Nat.le_refl _) (Nat.zero_le _) rfl).alloc _) (some ⟨b, o, none⟩) k c ((flat encI R).take (k * 3)) rfl (cap_some hkc') (by first | exact ((sees_take HS2.out k hk).alloc _) | exact ((sees_take HS2.out k hk).alloc _).alloc _) (fun u hu => flat_one encI_one R u (List.mem_of_mem_take hu)) (by unfold maxLen; omega) (by omega) (by first | (simp; done) | omega | (simp; omega)) ?_
             intro v3 w3 hown3 hg3 hat3
             have hb3 : Below w2.heap.size w2 w3 := Below.grown (show Below w2.heap.size w2 _ from by (repeat' (first | (with_reducible exact Below.refl _ _) | (with_reducible assumption) | (with_reducible refine Below.alloc ?_ ?_ _) | (with_reducible refine Below.drew ?_) | (with_reducible refine Below_drewN ?_ _) | (with_reducible refine Below.setCell ?_ ?_ _) | (refine Below.step (B' := ?_) (b := ?_) ?_ ?_ ?_; rotate_left 2; (with_reducible assumption)) | go_size))) hg3 (by first | (simp; done) | (simp; omega)) (fun q hq => by first | (have := Option.some.inj (show some w2.heap.size = some q from hq); omega) | (have := Option.some.inj (show some (w2.heap.size + 1) = some q from hq); omega))
             have hz3 := hb3.size
             obtain ⟨n0, n1, n2, nl⟩ := TX2.out.below hb3
             try have HXB : Sees w3 3 (some ⟨w2.heap.size + 1, 0, none⟩) 1 [.int .i64 x0, .int .u64 x1, .int .u64 x2] := sees_grown2 (sees_blk2 w2 (.cells #[] 25) #[.int .i64 x0, .int .u64 x1, .int .u64 x2] 25 3 1 rfl) hg3 rfl (fun e => Nat.succ_ne_self _ (Option.some.inj (show some (w2.heap.size + 1) = some w2.heap.size from e))))
          | (refine step_app rfl (.tmp 31) (.tmp 34) _ rfl w2.heap.size 25 i0 _ 3 24 Try.underlying22 hi hz0 hz1 hz2 rfl (by omega) (.slice (some ⟨w2.heap.size + 1, 0, none⟩) 0 0) 0 [] rfl (own_made1 w2 (.cells #[.int .i64 x0, .int .u64 x1, .int .u64 x2] 25) 25) (some ⟨b, o, none⟩) k c ((flat encI R).take (k * 3)) rfl (cap_some hkc') (by first | exact ((sees_take HS2.out k hk).alloc _) | exact ((sees_take HS2.out k hk).alloc _).alloc _) (fun u hu => flat_one encI_one R u (List.mem_of_mem_take hu)) (by unfold maxLen; omega) (by omega) (by first | (simp; done) | omega | (simp; omega)) ?_
             intro v3 w3 hown3 hg3 hat3
             have hb3 : Below w2.heap.size w2 w3 := Below.grown (show Below w2.heap.size w2 _ from by (repeat' (first | (with_reducible exact Below.refl _ _) | (with_reducible assumption) | (with_reducible refine Below.alloc ?_ ?_ _) | (with_reducible refine Below.drew ?_) | (with_reducible refine Below_drewN ?_ _) | (with_reducible refine Below.setCell ?_ ?_ _) | (refine Below.step (B' := ?_) (b := ?_) ?_ ?_ ?_; rotate_left 2; (with_reducible assumption)) | go_size))) hg3 (by first | (simp; done) | (simp; omega)) (fun q hq => by first | (have := Option.some.inj (show some w2.heap.size = some q from hq); omega) | (have := Option.some.inj (show some (w2.heap.size + 1) = some q from hq); omega))
             have hz3 := hb3.size
             obtain ⟨n0, n1, n2, nl⟩ := TX2.out.below hb3
             try have HXC : Sees w3 3 (some ⟨w2.heap.size, 0, none⟩) 1 [.int .i64 x0, .int .u64 x1, .int .u64 x2] := sees_grown2 ((sees_blk w2 #[.int .i64 x0, .int .u64 x1, .int .u64 x2] 25 3 1 rfl).alloc (.cells #[] 25)) hg3 rfl (fun e => Nat.succ_ne_self _ (Option.some.inj (show some w2.heap.size = some (w2.heap.size + 1) from e)).symm))
          | (refine step_app rfl (.tmp 35) (.tmp 37) _ rfl w2.heap.size 25 i0 _ 3 24 Try.underlying22 hi hz0 hz1 hz2 rfl (by omega) v3 _ _ rfl (by first | exact hown3 | exact hown3.alloc _) (some ⟨w3.heap.size, 0, none⟩) 1 1 [.int .i64 x0, .int .u64 x1, .int .u64 x2] rfl (cap_some (by omega)) (sees_blk w3 #[.int .i64 x0, .int .u64 x1, .int .u64 x2] 25 3 1 rfl) (by simp [Value.oneCell']) (by unfold maxLen; omega) (by omega) (by first | (simp; done) | omega | (simp; omega)) ?_
             intro v4 w4 hown4 hg4 hat4
             have hb4 : Below w2.heap.size w2 w4 := Below.grown (show Below w2.heap.size w2 _ from by (repeat' (first | (with_reducible exact Below.refl _ _) | (with_reducible assumption) | (with_reducible refine Below.alloc ?_ ?_ _) | (with_reducible refine Below.drew ?_) | (with_reducible refine Below_drewN ?_ _) | (with_reducible refine Below.setCell ?_ ?_ _) | (refine Below.step (B' := ?_) (b := ?_) ?_ ?_ ?_; rotate_left 2; (with_reducible assumption)) | go_size))) hg4 (by first | (simp; done) | omega | (simp; omega)) (fun q hq => (hown3.lt q hq).1)
             have hz4 := hb4.size)
          | (refine step_app rfl (.tmp 35) (.tmp 37) _ rfl w2.heap.size 25 i0 _ 3 24 Try.underlying22 hi hz0 hz1 hz2 rfl (by omega) v3 _ _ rfl (by first | exact hown3 | exact hown3.alloc _) (some ⟨w2.heap.size + 1, 0, none⟩) 1 1 [.int .i64 x0, .int .u64 x1, .int .u64 x2] rfl (cap_some (by omega)) (HXB) (by simp [Value.oneCell']) (by unfold maxLen; omega) (by omega) (by first | (simp; done) | omega | (simp; omega)) ?_
             intro v4 w4 hown4 hg4 hat4
             have hb4 : Below w2.heap.size w2 w4 := Below.grown (show Below w2.heap.size w2 _ from by (repeat' (first | (with_reducible exact Below.refl _ _) | (with_reducible assumption) | (with_reducible refine Below.alloc ?_ ?_ _) | (with_reducible refine Below.drew ?_) | (with_reducible refine Below_drewN ?_ _) | (with_reducible refine Below.setCell ?_ ?_ _) | (refine Below.step (B' := ?_) (b := ?_) ?_ ?_ ?_; rotate_left 2; (with_reducible assumption)) | go_size))) hg4 (by first | (simp; done) | omega | (simp; omega)) (fun q hq => (hown3.lt q hq).1)
             have hz4 := hb4.size)
          | (refine step_app rfl (.tmp 35) (.tmp 37) _ rfl w2.heap.size 25 i0 _ 3 24 Try.underlying22 hi hz0 hz1 hz2 rfl (by omega) v3 _ _ rfl (by first | exact hown3 | exact hown3.alloc _) (some ⟨w2.heap.size, 0, none⟩) 1 1 [.int .i64 x0, .int .u64 x1, .int .u64 x2] rfl (cap_some (by omega)) (HXC) (by simp [Value.oneCell']) (by unfold maxLen; omega) (by omega) (by first | (simp; done) | omega | (simp; omega)) ?_
             intro v4 w4 hown4 hg4 hat4
             have hb4 : Below w2.heap.size w2 w4 := Below.grown (show Below w2.heap.size w2 _ from by (repeat' (first | (with_reducible exact Below.refl _ _) | (with_reducible assumption) | (with_reducible refine Below.alloc ?_ ?_ _) | (with_reducible refine Below.drew ?_) | (with_reducible refine Below_drewN ?_ _) | (with_reducible refine Below.setCell ?_ ?_ _) | (refine Below.step (B' := ?_) (b := ?_) ?_ ?_ ?_; rotate_left 2; (with_reducible assumption)) | go_size))) hg4 (by first | (simp; done) | omega | (simp; omega)) (fun q hq => (hown3.lt q hq).1)
             have hz4 := hb4.size)
          | (refine step_app rfl (.tmp 38) (.tmp 39) _ rfl w2.heap.size 25 i0 _ 3 24 Try.underlying22 hi hz0 hz1 hz2 rfl (by omega) v4 _ _ rfl hown4 A2 (r - k) c2 ((flat encI R).drop (k * 3)) rfl hc2 (HSE2.out.below hb4) (fun u hu => flat_one encI_one R u (List.mem_of_mem_drop hu)) (by unfold maxLen; omega) (by omega) hz4 ?_
             intro v5 w5 hown5 hg5 hat5
             have hb5 : Below w2.heap.size w2 w5 := Below.grown hb4 hg5 hz4 (fun q hq => (hown4.lt q hq).1))))
        all_goals
          go_wp2_with fail
          go_ret
          have hfl : (flat encI R).take (k * 3) ++ ([.int .i64 x0, .int .u64 x1, .int .u64 x2] : List Value) ++ (flat encI R).drop (k * 3) = flat encI (insI R (x0, x1, x2)) := by
            rw [HI.out, flat_app, flat_app, flat_take encI_len, flat_drop encI_len, List.append_assoc]; rfl
          have hil : (insI R (x0, x1, x2)).length = k + 1 + (r - k) := by
            rw [(insI_perm R (x0, x1, x2)).length_eq, List.length_cons, HL.out]; omega
          refine ⟨⟨v5, rfl, ?_⟩, chain HBW2.out hb5⟩
          rw [hil]
          refine Rows.of_own (base := w2.heap.size) (e := 25) ?_ hil (by omega)
          rw [← hfl]
          simpa using hown5
theorem with_c (v : Value) (n : Nat) (l : List It) (x0 x1 x2 : Int) (hn : n ≤ 1000) (w : World) (h : Rows encI 3 w v n l) :
    Calls Try.prog 31 #[v, .agg #[.int .i64 x0, .int .u64 x1, .int .u64 x2]] w fun e w' => (∃ v', e = .returned v' ∧ Rows encI 3 w' v' (wI l (x0, x1, x2)).length (wI l (x0, x1, x2))) ∧ Below w.heap.size w w' := with_c0 v n l x0 x1 x2 hn w h
end Go.Proofs.Try
