/- The walk of LhdCounts. -/
import Derived.Test.YtjkjnpcikddoaaaW19
import Derived.Test.YtjkjnpcikddoaaaLhdA
import Derived.Test.YtjkjnpcikddoaaaTailB
namespace Go.Proofs.Try
open Go.RowKit
set_option linter.unusedVariables false
set_option linter.unusedSimpArgs false
set_option maxRecDepth 100000 in
set_option maxHeartbeats 4000000 in
theorem walk_LhdCounts (l : List Nat) (g h : Int) (hl : Rk l) (w1 : (Lit.int .u8 g).wf = true) (w2 : (Lit.int .u8 h).wf = true) (w : World) :
    Calls Try.prog 10 #[.agg (u64V l), .int .u8 g, .int .u8 h] w fun e w' => e = .returned (.bool true) ∧ Below w.heap.size w w' := by
  have bg := bounds_u8 w1
  have bh := bounds_u8 w2
  clear w1 w2
  have HR := Lib.hid hl
  have HIl := Lib.hid (rk_info hl)
  clear hl
  have hlit := lit16
  go_enter Try.func10, Try.ntmps10
  have Br := Lib.hid (blk.new w l 49)
  have yr := Br.out.lt
  have HBW := Lib.hid ((Below.refl w.heap.size w).alloc (Nat.le_refl _) (.cells (u64V l) 49))
  go_wp2_with fail
  with_reducible refine (awake19 _).mono ?_
  rintro e w1 ⟨rfl, hb1⟩
  dsimp only
  replace HBW := Lib.hid (chain HBW.out hb1)
  replace Br := Lib.hid (Br.out.below hb1)
  replace yr := Br.out.lt
  clear hb1
  go_wp2_with fail
  obtain ⟨k0, hk0⟩ : ∃ a : Nat, g % 8 = (a : Int) := ⟨(g % 8).toNat, by omega⟩
  obtain ⟨n0, hn0⟩ : ∃ a : Nat, h % 8 = (a : Int) := ⟨(h % 8).toNat, by omega⟩
  have hk8 : k0 < 8 := by omega
  have hn8 : n0 < 8 := by omega
  rw [hk0, hn0]
  clear hk0 hn0 bg bh
  go_loopw [10] (fun i wr => ∃ k : Nat, k ≤ 8 ∧ i = .int .i64 k ∧ SmTo l k ∧ Hid (blk wr w.heap.size 49 l) ∧ Below w.heap.size w wr) (fun i _ => 8 - (intOf i).toNat)
  case atStart => exact ⟨0, by omega, rfl, fun j _ h => by omega, Br, HBW.out⟩
  case round =>
    obtain ⟨k, hk, rfl, hsm, Br, hb⟩ := hrel
    have yr := Br.out.lt
    have HBW := Lib.hid hb
    have HSM := Lib.hid hsm
    clear hb hsm
    by_cases hlt : k < 8
    · have hlt' : (k : Int) < 8 := by omega
      have r0 := Br.out.cell (k := k) (by rw [HR.out.1]; omega)
      have r1 := Br.out.cell (k := 8 + k) (by rw [HR.out.1]; omega)
      have u0 := HR.out.2 k
      have u1 := HR.out.2 (8 + k)
      have HS2 := Lib.hid (sm_more l k hlt HSM.out)
      generalize l.getD k 0 = m0 at *
      generalize l.getD (8 + k) 0 = m1 at *
      by_cases s0 : m0 < 1125899906842624
      · have q0 : decide (1125899906842624 ≤ (m0 : Int)) = false := by simp; omega
        by_cases s1 : m1 < 1125899906842624
        · have q1 : decide (1125899906842624 ≤ (m1 : Int)) = false := by simp; omega
          go_wp2_with fail
          go_roundw
          case rel => exact ⟨k + 1, by omega, by go_num, HS2.out s0 s1, Br, HBW.out⟩
          case measure => first | (simp [intOf]; done) | (simp [intOf]; omega)
        · have q1 : decide (1125899906842624 ≤ (m1 : Int)) = true := by simp; omega
          go_wp2_with fail
          go_ret
          exact ⟨rfl, HBW.out⟩
      · have q0 : decide (1125899906842624 ≤ (m0 : Int)) = true := by simp; omega
        go_wp2_with fail
        go_ret
        exact ⟨rfl, HBW.out⟩
    · obtain rfl : k = 8 := by omega
      have D0 := fun W => dens_c l HR.out (n0 : Int) ((dens l (n0 : Int) : Nat) : Int) (dens_nat _ _) W
      have HT := fun W => hit_c l HR.out (k0 : Int) W
      have D1 := fun W => dens_c (hitL l (k0 : Int)) (HR.out.hit _) (n0 : Int) ((dens (hitL l (k0 : Int)) (n0 : Int) : Nat) : Int) (dens_nat _ _) W
      have OT := fun W => out_c l HR.out (k0 : Int) W
      have D2 := fun W => dens_c (outL l (k0 : Int)) (HR.out.out _) (n0 : Int) ((dens (outL l (k0 : Int)) (n0 : Int) : Nat) : Int) (dens_nat _ _) W
      have LAW := counts_law l HR.out HSM.out k0 n0 hk8 hn8 _ _ _ rfl rfl rfl
      have z0 := dens_lt l (n0 : Int)
      have z1 := dens_lt (hitL l (k0 : Int)) (n0 : Int)
      have z2 := dens_lt (outL l (k0 : Int)) (n0 : Int)
      generalize dens l (n0 : Int) = d0 at *
      generalize dens (hitL l (k0 : Int)) (n0 : Int) = d1 at *
      generalize dens (outL l (k0 : Int)) (n0 : Int) = d2 at *
      generalize hitL l (k0 : Int) = L1 at *
      generalize outL l (k0 : Int) = L2 at *
      clear hlit hk hlt HSM
      by_cases c : k0 < n0
      · obtain ⟨e1, e2⟩ := LAW.1 c
        clear LAW
        subst e1 e2
        have q : decide ((k0 : Int) < (n0 : Int)) = true := by simp; omega
        go_wp2_with (first
          | (refine wpList_load_blk rfl 49 (.tmp 3) rfl w.heap.size 49 l (by rfl) (Br.out) _ Try.underlying49 rfl HIl.out ?_))
        with_reducible refine (D0 _).mono ?_
        rintro e w1 ⟨rfl, hb1⟩
        dsimp only
        replace HBW := Lib.hid (chain HBW.out hb1)
        replace Br := Lib.hid (Br.out.below hb1)
        replace yr := Br.out.lt
        clear hb1
        go_wp2_with (first
          | (refine wpList_load_blk rfl 49 (.tmp 3) rfl w.heap.size 49 l (by rfl) (Br.out) _ Try.underlying49 rfl HIl.out ?_))
        with_reducible refine (HT _).mono ?_
        rintro e w2 ⟨rfl, hb2⟩
        dsimp only
        replace HBW := Lib.hid (chain HBW.out hb2)
        replace Br := Lib.hid (Br.out.below hb2)
        replace yr := Br.out.lt
        clear hb2
        go_wp2_with fail
        with_reducible refine (D1 _).mono ?_
        rintro e w3 ⟨rfl, hb3⟩
        dsimp only
        replace HBW := Lib.hid (chain HBW.out hb3)
        replace Br := Lib.hid (Br.out.below hb3)
        replace yr := Br.out.lt
        clear hb3
        go_wp2_with (first
          | (refine wpList_load_blk rfl 49 (.tmp 3) rfl w.heap.size 49 l (by rfl) (Br.out) _ Try.underlying49 rfl HIl.out ?_))
        with_reducible refine (OT _).mono ?_
        rintro e w4 ⟨rfl, hb4⟩
        dsimp only
        replace HBW := Lib.hid (chain HBW.out hb4)
        replace Br := Lib.hid (Br.out.below hb4)
        replace yr := Br.out.lt
        clear hb4
        go_wp2_with fail
        with_reducible refine (D2 _).mono ?_
        rintro e w5 ⟨rfl, hb5⟩
        dsimp only
        replace HBW := Lib.hid (chain HBW.out hb5)
        replace Br := Lib.hid (Br.out.below hb5)
        replace yr := Br.out.lt
        clear hb5
        try simp only [List.append] at *
        go_wp2_with fail
        go_ret
        exact ⟨rfl, HBW.out⟩
      · obtain ⟨e1, e2, e3⟩ := LAW.2 (by omega)
        clear LAW
        have q : decide ((k0 : Int) < (n0 : Int)) = false := by simp; omega
        have q1 : decide ((d2 : Int) ≤ (d0 : Int)) = true := by simp; omega
        have q2 : decide ((d0 : Int) ≤ 4294967296) = true := by simp; omega
        by_cases f : k0 = 0
        · by_cases e4 : d0 ≤ d1
          · have q3 : decide ((d0 : Int) ≤ (d1 : Int)) = true := by simp; omega
            have q4 : decide (0 < (k0 : Int)) = false := by simp; omega
            have q5 : ¬(0 < k0) := by omega
            clear f e3
            go_wp2_with (first
              | (refine wpList_load_blk rfl 49 (.tmp 3) rfl w.heap.size 49 l (by rfl) (Br.out) _ Try.underlying49 rfl HIl.out ?_))
            with_reducible refine (D0 _).mono ?_
            rintro e w1 ⟨rfl, hb1⟩
            dsimp only
            replace HBW := Lib.hid (chain HBW.out hb1)
            replace Br := Lib.hid (Br.out.below hb1)
            replace yr := Br.out.lt
            clear hb1
            go_wp2_with (first
              | (refine wpList_load_blk rfl 49 (.tmp 3) rfl w.heap.size 49 l (by rfl) (Br.out) _ Try.underlying49 rfl HIl.out ?_))
            with_reducible refine (HT _).mono ?_
            rintro e w2 ⟨rfl, hb2⟩
            dsimp only
            replace HBW := Lib.hid (chain HBW.out hb2)
            replace Br := Lib.hid (Br.out.below hb2)
            replace yr := Br.out.lt
            clear hb2
            go_wp2_with fail
            with_reducible refine (D1 _).mono ?_
            rintro e w3 ⟨rfl, hb3⟩
            dsimp only
            replace HBW := Lib.hid (chain HBW.out hb3)
            replace Br := Lib.hid (Br.out.below hb3)
            replace yr := Br.out.lt
            clear hb3
            go_wp2_with (first
              | (refine wpList_load_blk rfl 49 (.tmp 3) rfl w.heap.size 49 l (by rfl) (Br.out) _ Try.underlying49 rfl HIl.out ?_))
            with_reducible refine (OT _).mono ?_
            rintro e w4 ⟨rfl, hb4⟩
            dsimp only
            replace HBW := Lib.hid (chain HBW.out hb4)
            replace Br := Lib.hid (Br.out.below hb4)
            replace yr := Br.out.lt
            clear hb4
            go_wp2_with fail
            with_reducible refine (D2 _).mono ?_
            rintro e w5 ⟨rfl, hb5⟩
            dsimp only
            replace HBW := Lib.hid (chain HBW.out hb5)
            replace Br := Lib.hid (Br.out.below hb5)
            replace yr := Br.out.lt
            clear hb5
            try simp only [List.append] at *
            go_wp2_with fail
            go_ret
            exact ⟨rfl, HBW.out⟩
          · have h5 := e4
            replace e4 := (e3 f).resolve_left e4
            have q3 : decide ((d0 : Int) ≤ (d1 : Int)) = false := by simp; omega
            have e5 : ¬d0 ≤ d1 := h5
            have q6 : ((d0 : Int) == 4294967296) = true := by rw [show (d0 : Int) = 4294967296 by omega]; rfl
            have q4 : decide (0 < (k0 : Int)) = false := by simp; omega
            have q5 : ¬(0 < k0) := by omega
            clear f e3 e4 h5
            go_wp2_with (first
              | (refine wpList_load_blk rfl 49 (.tmp 3) rfl w.heap.size 49 l (by rfl) (Br.out) _ Try.underlying49 rfl HIl.out ?_))
            with_reducible refine (D0 _).mono ?_
            rintro e w1 ⟨rfl, hb1⟩
            dsimp only
            replace HBW := Lib.hid (chain HBW.out hb1)
            replace Br := Lib.hid (Br.out.below hb1)
            replace yr := Br.out.lt
            clear hb1
            go_wp2_with (first
              | (refine wpList_load_blk rfl 49 (.tmp 3) rfl w.heap.size 49 l (by rfl) (Br.out) _ Try.underlying49 rfl HIl.out ?_))
            with_reducible refine (HT _).mono ?_
            rintro e w2 ⟨rfl, hb2⟩
            dsimp only
            replace HBW := Lib.hid (chain HBW.out hb2)
            replace Br := Lib.hid (Br.out.below hb2)
            replace yr := Br.out.lt
            clear hb2
            go_wp2_with fail
            with_reducible refine (D1 _).mono ?_
            rintro e w3 ⟨rfl, hb3⟩
            dsimp only
            replace HBW := Lib.hid (chain HBW.out hb3)
            replace Br := Lib.hid (Br.out.below hb3)
            replace yr := Br.out.lt
            clear hb3
            go_wp2_with (first
              | (refine wpList_load_blk rfl 49 (.tmp 3) rfl w.heap.size 49 l (by rfl) (Br.out) _ Try.underlying49 rfl HIl.out ?_))
            with_reducible refine (OT _).mono ?_
            rintro e w4 ⟨rfl, hb4⟩
            dsimp only
            replace HBW := Lib.hid (chain HBW.out hb4)
            replace Br := Lib.hid (Br.out.below hb4)
            replace yr := Br.out.lt
            clear hb4
            go_wp2_with fail
            with_reducible refine (D2 _).mono ?_
            rintro e w5 ⟨rfl, hb5⟩
            dsimp only
            replace HBW := Lib.hid (chain HBW.out hb5)
            replace Br := Lib.hid (Br.out.below hb5)
            replace yr := Br.out.lt
            clear hb5
            try simp only [List.append] at *
            go_wp2_with fail
            go_ret
            exact ⟨rfl, HBW.out⟩
        · have q3 : decide (0 < (k0 : Int)) = true := by simp; omega
          have q5 : 0 < k0 := by omega
          clear f e3
          go_wp2_with (first
            | (refine wpList_load_blk rfl 49 (.tmp 3) rfl w.heap.size 49 l (by rfl) (Br.out) _ Try.underlying49 rfl HIl.out ?_))
          with_reducible refine (D0 _).mono ?_
          rintro e w1 ⟨rfl, hb1⟩
          dsimp only
          replace HBW := Lib.hid (chain HBW.out hb1)
          replace Br := Lib.hid (Br.out.below hb1)
          replace yr := Br.out.lt
          clear hb1
          go_wp2_with (first
            | (refine wpList_load_blk rfl 49 (.tmp 3) rfl w.heap.size 49 l (by rfl) (Br.out) _ Try.underlying49 rfl HIl.out ?_))
          with_reducible refine (HT _).mono ?_
          rintro e w2 ⟨rfl, hb2⟩
          dsimp only
          replace HBW := Lib.hid (chain HBW.out hb2)
          replace Br := Lib.hid (Br.out.below hb2)
          replace yr := Br.out.lt
          clear hb2
          go_wp2_with fail
          with_reducible refine (D1 _).mono ?_
          rintro e w3 ⟨rfl, hb3⟩
          dsimp only
          replace HBW := Lib.hid (chain HBW.out hb3)
          replace Br := Lib.hid (Br.out.below hb3)
          replace yr := Br.out.lt
          clear hb3
          go_wp2_with (first
            | (refine wpList_load_blk rfl 49 (.tmp 3) rfl w.heap.size 49 l (by rfl) (Br.out) _ Try.underlying49 rfl HIl.out ?_))
          with_reducible refine (OT _).mono ?_
          rintro e w4 ⟨rfl, hb4⟩
          dsimp only
          replace HBW := Lib.hid (chain HBW.out hb4)
          replace Br := Lib.hid (Br.out.below hb4)
          replace yr := Br.out.lt
          clear hb4
          go_wp2_with fail
          with_reducible refine (D2 _).mono ?_
          rintro e w5 ⟨rfl, hb5⟩
          dsimp only
          replace HBW := Lib.hid (chain HBW.out hb5)
          replace Br := Lib.hid (Br.out.below hb5)
          replace yr := Br.out.lt
          clear hb5
          try simp only [List.append] at *
          go_wp2_with fail
          go_ret
          exact ⟨rfl, HBW.out⟩
end Go.Proofs.Try
