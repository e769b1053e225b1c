/- The walk of LhdTells. -/
import Derived.Test.YtjkjnpcikddoaaaW19
import Derived.Test.YtjkjnpcikddoaaaLR2
import Derived.Test.YtjkjnpcikddoaaaLR4
import Derived.Test.YtjkjnpcikddoaaaL19f
namespace Go.Proofs.Try
open Go.RowKit
set_option linter.unusedVariables false
set_option linter.unusedSimpArgs false
set_option maxRecDepth 100000 in
set_option maxHeartbeats 4000000 in
theorem tells_big (l : List Nat) (age t : Int) (A1 A2 A3 : Option Addr) (n1 n2 n3 c1 c2 c3 : Nat) (h : ¬(n1 ≤ 100 ∧ n2 ≤ 100 ∧ n3 ≤ 100)) (w : World) :
    Calls Try.prog 8 #[.agg (u64V l), .int .i64 age, .int .u64 t, .slice A1 n1 c1, .slice A2 n2 c2, .slice A3 n3 c3] w fun e w' => e = .returned (.bool true) ∧ Below w.heap.size w w' := by
  have hlit := lit16
  by_cases h1 : n1 ≤ 100
  · have q1 : decide (100 < (n1 : Int)) = false := by simp; omega
    have q1' : ¬(100 < n1) := by omega
    by_cases h2 : n2 ≤ 100
    · have q2 : decide (100 < (n2 : Int)) = false := by simp; omega
      have q2' : ¬(100 < n2) := by omega
      have q3 : decide (100 < (n3 : Int)) = true := by simp; omega
      have q3' : 100 < n3 := by omega
      clear h h1 h2
      go_enter Try.func8, Try.ntmps8
      have HBW := Lib.hid ((Below.refl w.heap.size w).alloc (Nat.le_refl _) (.cells (u64V l) 49))
      go_wp2_with fail
      with_reducible refine (awake19 _).mono ?_
      rintro e w1 ⟨rfl, hb1⟩
      dsimp only
      replace HBW := Lib.hid (chain HBW.out hb1)
      clear hb1
      go_wp2_with fail
      go_ret
      exact ⟨rfl, HBW.out⟩
    · have q2 : decide (100 < (n2 : Int)) = true := by simp; omega
      have q2' : 100 < n2 := by omega
      clear h h1 h2
      go_enter Try.func8, Try.ntmps8
      have HBW := Lib.hid ((Below.refl w.heap.size w).alloc (Nat.le_refl _) (.cells (u64V l) 49))
      go_wp2_with fail
      with_reducible refine (awake19 _).mono ?_
      rintro e w1 ⟨rfl, hb1⟩
      dsimp only
      replace HBW := Lib.hid (chain HBW.out hb1)
      clear hb1
      go_wp2_with fail
      go_ret
      exact ⟨rfl, HBW.out⟩
  · have q1 : decide (100 < (n1 : Int)) = true := by simp; omega
    have q1' : 100 < n1 := by omega
    clear h h1
    go_enter Try.func8, Try.ntmps8
    have HBW := Lib.hid ((Below.refl w.heap.size w).alloc (Nat.le_refl _) (.cells (u64V l) 49))
    go_wp2_with fail
    with_reducible refine (awake19 _).mono ?_
    rintro e w1 ⟨rfl, hb1⟩
    dsimp only
    replace HBW := Lib.hid (chain HBW.out hb1)
    clear hb1
    go_wp2_with fail
    go_ret
    exact ⟨rfl, HBW.out⟩
set_option maxRecDepth 100000 in
set_option maxHeartbeats 4000000 in
theorem tells_in (l : List Nat) (hl : Rk l) (age t : Int) (t0 : 0 ≤ t) (t1 : t < 18446744073709551616) (A1 A2 A3 : Option Addr) (n1 n2 n3 c1 c2 c3 : Nat) (ages : List Int) (sizes : List Nat) (some_ : List Int) (hn1 : n1 ≤ 100) (hn2 : n2 ≤ 100) (hn3 : n3 ≤ 100) (hsz : ∀ k, sizes.getD k 0 < 18446744073709551616)
    (a : Nat) (f : Bool) (hf : lstS (vsI (vrL l ages sizes some_)) n3 = (a, f)) (ha : f = true → a < n3) (w : World)
    (h1 : Sees w 1 A1 n1 (ages.map (Value.int .i64))) (h2 : Sees w 1 A2 n2 (sizes.map fun (n : Nat) => Value.int .u64 (n : Int))) (h3 : Sees w 1 A3 n3 (some_.map (Value.int .i64))) :
    Calls Try.prog 8 #[.agg (u64V l), .int .i64 age, .int .u64 t, .slice A1 n1 c1, .slice A2 n2 c2, .slice A3 n3 c3] w fun e w' => e = .returned (.bool true) ∧ Below w.heap.size w w' := by
  have H1 := Lib.hid h1
  have H2 := Lib.hid h2
  have H3 := Lib.hid h3
  have HI := Lib.hid (rk_info hl)
  have qn1 : decide (100 < (n1 : Int)) = false := by simp; omega
  have qn2 : decide (100 < (n2 : Int)) = false := by simp; omega
  have qn3 : decide (100 < (n3 : Int)) = false := by simp; omega
  have VC := fun W => victim_c l hl A1 A2 A3 n1 n2 n3 c1 c2 c3 ages sizes some_ (by omega) (by omega) (by omega) hsz a f hf ha (if f = true then some_.getD a 0 else 0) rfl W
  have RV := fun W => rvictim_c l hl A1 A2 A3 n1 n2 n3 c1 c2 c3 ages sizes some_ (by omega) (by omega) (by omega) hsz a f hf (if f = true then some_.getD a 0 else 0) rfl W
  have P1 := fun W => agec t t0 t1 W
  have P2 := fun W => rage_c t t0 t1 W
  have P3 := fun W => hit_c l hl age W
  have P4 := fun W => rhit_c l hl age W
  have P5 := fun W => out_c l hl age W
  have P6 := fun W => rout_c l hl age W
  have P7 := fun W => fade_c l hl W
  have P8 := fun W => rfade_c l hl W
  have P9 := fun W => dens_c l hl age ((dens l age : Nat) : Int) (dens_nat _ _) W
  have P0 := fun W => rdens_c l hl age ((dens l age : Nat) : Int) (dens_nat _ _) W
  have E1 := fun W => eqR (hitL l age) (hitL l age) (hl.hit age).1 (hl.hit age).1 W
  have E2 := fun W => eqR (outL l age) (outL l age) (hl.out age).1 (hl.out age).1 W
  have E3 := fun W => eqR (fadeL l) (fadeL l) (hl.fade 8).1 (hl.fade 8).1 W
  simp only [decide_true] at E1 E2 E3
  clear h1 h2 h3 hsz hl hf ha
  generalize (if f = true then some_.getD a 0 else 0) = RR at *
  generalize ageN t = AG at *
  generalize dens l age = DD at *
  generalize hitL l age = LH at *
  generalize outL l age = LO at *
  generalize fadeL l = LF at *
  go_enter Try.func8, Try.ntmps8
  have Br := Lib.hid (blk.new w l 49)
  have yr := Br.out.lt
  have HBW := Lib.hid ((Below.refl w.heap.size w).alloc (Nat.le_refl _) (.cells (u64V l) 49))
  go_wp2_with fail
  with_reducible refine (awake19 _).mono ?_
  rintro e w1 ⟨rfl, hb1⟩
  dsimp only
  replace HBW := Lib.hid (chain HBW.out hb1)
  replace Br := Lib.hid (Br.out.below hb1)
  replace yr := Br.out.lt
  clear hb1
  go_wp2_with (first
    | (refine wpList_load_blk rfl 49 (.tmp 6) rfl w.heap.size 49 l (by rfl) (Br.out) _ Try.underlying49 rfl HI.out ?_))
  with_reducible refine (VC _ (H1.out.below HBW.out) (H2.out.below HBW.out) (H3.out.below HBW.out)).mono ?_
  rintro e w2 ⟨rfl, hb2⟩
  dsimp only
  replace HBW := Lib.hid (chain HBW.out hb2)
  replace Br := Lib.hid (Br.out.below hb2)
  replace yr := Br.out.lt
  clear hb2
  go_wp2_with (first
    | (refine wpList_load_blk rfl 49 (.tmp 6) rfl w.heap.size 49 l (by rfl) (Br.out) _ Try.underlying49 rfl HI.out ?_))
  with_reducible refine (RV _ (H1.out.below HBW.out) (H2.out.below HBW.out) (H3.out.below HBW.out)).mono ?_
  rintro e w3 ⟨rfl, hb3⟩
  dsimp only
  replace HBW := Lib.hid (chain HBW.out hb3)
  replace Br := Lib.hid (Br.out.below hb3)
  replace yr := Br.out.lt
  clear hb3
  go_wp2_with fail
  clear VC RV qn1 qn2 qn3
  (refine region_later (by kernel_rfl) (by kernel_rfl) ?_); (intro hlat); (try simp only [List.append]); (repeat (first | (refine wpQuiet_load_blkg 49 (.tmp 6) rfl w.heap.size 49 l (by rfl) (by rfl) (later_blk Br.out) _ Try.underlying49 rfl HI.out ?_; (simp only [Act.put, List.setIfInBounds_toArray, List.set_cons_zero, List.set_cons_succ])) | go_big_quiet_step ((first | (go_at_call 30; with_reducible exact later_same (P1 _)) | (go_at_call 31; with_reducible exact later_same (P2 _)) | (go_at_call 32; with_reducible exact later_call (P3 _)) | (go_at_call 33; with_reducible exact later_call (P4 _)) | (go_at_call 34; with_reducible exact later_call (P5 _)) | (go_at_call 35; with_reducible exact later_call (P6 _)) | (go_at_call 36; with_reducible exact later_call (P7 _)) | (go_at_call 37; with_reducible exact later_call (P8 _)) | (go_at_call 38; with_reducible exact later_call (P9 _)) | (go_at_call 39; with_reducible exact later_call (P0 _)))))); (refine wpQuiet_nil ?_); (intro W1 hbW); (clear hlat)
  go_wp2_with fail
  go_ret
  exact ⟨rfl, chain HBW.out hbW⟩
theorem walk_LhdTells (l : List Nat) (age t : Int) (v1 v2 v3 : Value) (hl : Rk l) (w1 : (Lit.int .i64 age).wf = true) (w2 : (Lit.int .u64 t).wf = true) (w : World) (o1 : ∃ xs, Row w .i64 v1 xs) (o2 : ∃ xs, Row w .u64 v2 xs) (o3 : ∃ xs, Row w .i64 v3 xs) :
    Calls Try.prog 8 #[.agg (u64V l), .int .i64 age, .int .u64 t, v1, v2, v3] w fun e w' => e = .returned (.bool true) ∧ Below w.heap.size w w' := by
  obtain ⟨xs, A1, n1, c1, rfl, _, _, hs1, _⟩ := o1
  obtain ⟨ys, hy⟩ := o2
  obtain ⟨A2, n2, c2, sizes, rfl, hs2, hsz⟩ := row_nats hy
  obtain ⟨zs, A3, n3, c3, rfl, _, _, hs3, _⟩ := o3
  have bt := bounds_u64 w2
  by_cases h : n1 ≤ 100 ∧ n2 ≤ 100 ∧ n3 ≤ 100
  · obtain ⟨h1, h2, h3⟩ := h
    obtain ⟨p, hp⟩ : ∃ p, lstS (vsI (vrL l xs sizes zs)) n3 = p := ⟨_, rfl⟩
    obtain ⟨a, f⟩ := p
    refine tells_in l hl age t (by omega) (by omega) A1 A2 A3 n1 n2 n3 c1 c2 c3 xs sizes zs h1 h2 h3 hsz a f hp (fun hf => ?_) w hs1 hs2 hs3
    subst hf
    have hl3 : zs.length = n3 := hs3.len
    have := (vic_yes l xs sizes zs hsz a (by rw [hl3]; exact hp)).1
    omega
  · exact tells_big l age t A1 A2 A3 n1 n2 n3 c1 c2 c3 h w
end Go.Proofs.Try
