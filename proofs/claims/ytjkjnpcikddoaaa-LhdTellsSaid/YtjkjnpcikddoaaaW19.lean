/- The laws of layer 19: awake. -/
import Derived.Test.YtjkjnpcikddoaaaLhd7
import Derived.Test.YtjkjnpcikddoaaaGuard
namespace Go.Proofs.Try
open Go.RowKit
set_option linter.unusedVariables false
set_option linter.unusedSimpArgs false
theorem rk_of (l : List Nat) (h : l.length = 16) (h2 : (l.all fun n => decide (n < 18446744073709551616)) = true) : Rk l := by
  refine ⟨h, fun k => ?_⟩
  rw [List.getD_eq_getElem?_getD]
  by_cases hk : k < l.length
  · rw [List.getElem?_eq_getElem hk]
    have := List.all_eq_true.1 h2 l[k] (List.getElem_mem hk)
    simpa using this
  · rw [List.getElem?_eq_none (by omega)]
    simp
/-- A variable, laid and filled. -/
theorem blk_var (W : World) (l m : List Nat) (T : TypeId) : ∃ V, (W.alloc (.cells (u64V l) T)).setRow W.heap.size (u64V m) = V ∧ blk V W.heap.size T m ∧ Below W.heap.size W V ∧ V.heap.size = W.heap.size + 1 :=
  ⟨_, rfl, (blk.new W l T).setRow m, below_setRow ((Below.refl _ _).alloc (Nat.le_refl _) _) (Nat.le_refl _) _, by simp⟩
theorem Sees.new' (W : World) (cs : Array Value) (t : TypeId) (b n : Nat) (xs : List Value) (hb : b = W.heap.size) (hn : n = cs.size) (hx : cs.toList = xs) : Sees (W.alloc (.cells cs t)) 1 (some ⟨b, 0, none⟩) n xs := by
  subst hb; subst hn; subst hx; exact Sees.new W cs t
theorem al3 (W : World) (a b c : Obj) : Below W.heap.size W (((W.alloc a).alloc b).alloc c) := (((Below.refl _ _).alloc (Nat.le_refl _) _).alloc (by simp) _).alloc (by simp; omega) _
theorem al1 (W : World) (a : Obj) : Below W.heap.size W (W.alloc a) := (Below.refl _ _).alloc (Nat.le_refl _) _
def rO : List Nat := [0, 0, 0, 0, 0, 0, 0, 0, 1, 0, 0, 0, 0, 0, 0, 0]
def r1 : List Nat := [1, 0, 0, 0, 0, 0, 0, 0, 1, 0, 0, 0, 0, 0, 0, 0]
def r2 : List Nat := [2, 0, 0, 0, 0, 0, 0, 0, 1, 0, 0, 0, 0, 0, 0, 0]
def r3 : List Nat := [3, 0, 0, 0, 0, 0, 0, 0, 1, 0, 0, 0, 0, 0, 0, 0]
def rS : List Nat := [3, 0, 0, 0, 0, 0, 0, 0, 1, 0, 0, 1, 0, 0, 0, 0]
def rF : List Nat := [1, 0, 0, 0, 0, 0, 0, 0, 0, 0, 0, 0, 0, 0, 0, 0]
theorem rk_O : Rk rO := rk_of _ rfl (by decide +kernel)
theorem rk_1 : Rk r1 := rk_of _ rfl (by decide +kernel)
theorem rk_2 : Rk r2 := rk_of _ rfl (by decide +kernel)
theorem rk_3 : Rk r3 := rk_of _ rfl (by decide +kernel)
theorem rk_S : Rk rS := rk_of _ rfl (by decide +kernel)
theorem rk_F : Rk rF := rk_of _ rfl (by decide +kernel)
set_option maxRecDepth 100000 in
set_option maxHeartbeats 4000000 in
theorem awake19 (w : World) :
    Calls Try.prog 27 #[] w fun r w' => r = .returned (.bool true) ∧ Below w.heap.size w w' := by
  have C1 := fun w => out_c z16 rk_z16 0 w
  rw [show outL z16 0 = rO by decide +kernel] at C1
  have C2 := fun w => hit_c rO rk_O 0 w
  rw [show hitL rO 0 = r1 by decide +kernel] at C2
  have C3 := fun w => hit_c r1 rk_1 0 w
  rw [show hitL r1 0 = r2 by decide +kernel] at C3
  have C4 := fun w => hit_c r2 rk_2 0 w
  rw [show hitL r2 0 = r3 by decide +kernel] at C4
  have C5 := fun w => out_c r3 rk_3 3 w
  rw [show outL r3 3 = rS by decide +kernel] at C5
  have C6 := fun w => out_c rS rk_S 9 w
  rw [show outL rS 9 = rS by decide +kernel] at C6
  have C7 := fun w => fade_c rS rk_S w
  rw [show fadeL rS = rF by decide +kernel] at C7
  have D1 := fun w => dens_c r3 rk_3 0 3221225472 (by decide +kernel) w
  have D2 := fun w => dens_c r3 rk_3 1 4294967296 (by decide +kernel) w
  have D3 := fun w => dens_c rS rk_S 3 0 (by decide +kernel) w
  have D4 := fun w => dens_c rS rk_S 0 1073741824 (by decide +kernel) w
  have D5 := fun w => dens_c rS rk_S 8 0 (by decide +kernel) w
  have A1 := fun w => age_c 0 (by omega) (by omega) w
  rw [show min (Lib.bitLen (0 : Int).toNat : Int) 7 = 0 by decide +kernel] at A1
  have A2 := fun w => age_c 5 (by omega) (by omega) w
  rw [show min (Lib.bitLen (5 : Int).toNat : Int) 7 = 3 by decide +kernel] at A2
  have A3 := fun w => age_c 64 (by omega) (by omega) w
  rw [show min (Lib.bitLen (64 : Int).toNat : Int) 7 = 7 by decide +kernel] at A3
  have A4 := fun w => age_c 9223372036854775808 (by omega) (by omega) w
  rw [show min (Lib.bitLen (9223372036854775808 : Int).toNat : Int) 7 = 7 by decide +kernel] at A4
  have V1 := fun w A1 A2 A3 => victim_c r3 rk_3 A1 A2 A3 3 3 4 3 3 4 [0, 0, 1] [4, 8, 8] [0, 1, 2, 7] (by omega) (by omega) (by omega) (fun k => (by
    by_cases h : k < 3
    · have : k = 0 ∨ k = 1 ∨ k = 2 := by omega
      rcases this with rfl | rfl | rfl <;> decide
    · rw [List.getD_eq_getElem?_getD, List.getElem?_eq_none (by show 3 ≤ k; omega)]; decide)) 1 true (by decide +kernel) (fun _ => by omega) 1 (by decide +kernel) w
  have V2 := fun w A3 => victim_c r3 rk_3 none none A3 0 0 1 0 0 1 [] [] [0] (by omega) (by omega) (by omega) (fun k => by simp) 0 false (by decide +kernel) (fun h => by cases h) 0 (by decide +kernel) w
  have HZ := Lib.hid (rk_info rk_z16)
  have H3 := Lib.hid (rk_info rk_3)
  have HS := Lib.hid (rk_info rk_S)
  have HF := Lib.hid (rk_info rk_F)
  have hlit := lit16
  go_enter Try.func27, Try.ntmps27
  go_wp2_with fail
  with_reducible refine (C1 _).mono ?_
  rintro e w1 ⟨rfl, hb1⟩
  dsimp only
  have HBW := Lib.hid hb1
  clear hb1
  go_wp2_with fail
  with_reducible refine (C2 _).mono ?_
  rintro e w2 ⟨rfl, hb2⟩
  dsimp only
  replace HBW := Lib.hid (chain HBW.out hb2)
  clear hb2
  go_wp2_with fail
  with_reducible refine (C3 _).mono ?_
  rintro e w3 ⟨rfl, hb3⟩
  dsimp only
  replace HBW := Lib.hid (chain HBW.out hb3)
  clear hb3
  go_wp2_with fail
  with_reducible refine (C4 _).mono ?_
  rintro e w4 ⟨rfl, hb4⟩
  dsimp only
  replace HBW := Lib.hid (chain HBW.out hb4)
  clear hb4
  go_wp2_with (first
    | (refine wpList_store_blk rfl 49 (.tmp 1) (.tmp 12) rfl w4.heap.size 49 z16 r3 (by rfl) (by rfl) (blk.new' rfl) (by rfl) H3.out ?_)
    | (refine wpList_load_blk rfl 49 (.tmp 1) rfl w4.heap.size 49 r3 (by rfl) ((blk.new w4 z16 49).setRow r3) _ Try.underlying49 rfl H3.out ?_))
  obtain ⟨Vr, hV, Br, hbv, zr⟩ := blk_var w4 z16 r3 49
  rw [hV]
  clear hV
  replace HBW := Lib.hid (chain HBW.out hbv)
  clear hbv
  replace Br := Lib.hid Br
  have yr := Br.out.lt
  with_reducible refine (C5 _).mono ?_
  rintro e w5 ⟨rfl, hb5⟩
  dsimp only
  replace HBW := Lib.hid (chain HBW.out hb5)
  replace Br := Lib.hid (Br.out.below hb5)
  replace yr := Br.out.lt
  clear hb5
  go_wp2_with fail
  with_reducible refine (C6 _).mono ?_
  rintro e w6 ⟨rfl, hb6⟩
  dsimp only
  replace HBW := Lib.hid (chain HBW.out hb6)
  replace Br := Lib.hid (Br.out.below hb6)
  replace yr := Br.out.lt
  clear hb6
  go_wp2_with (first
    | (refine wpList_store_blk rfl 49 (.tmp 2) (.tmp 15) rfl w6.heap.size 49 z16 rS (by rfl) (by rfl) (blk.new' rfl) (by rfl) HS.out ?_)
    | (refine wpList_load_blk rfl 49 (.tmp 1) rfl w4.heap.size 49 r3 (by rfl) (((Br.out.alloc _).otherRow (by omega) _)) _ Try.underlying49 rfl H3.out ?_))
  obtain ⟨Vs, hV, Bs, hbv, zs⟩ := blk_var w6 z16 rS 49
  rw [hV]
  clear hV
  replace HBW := Lib.hid (chain HBW.out hbv)
  replace Br := Lib.hid (Br.out.below hbv)
  replace yr := Br.out.lt
  clear hbv
  replace Bs := Lib.hid Bs
  have ys := Bs.out.lt
  refine (V1 _ _ _ _ ?_ ?_ ?_).mono ?_
  · exact ((Sees.new' Vs _ _ _ _ _ (by omega) rfl rfl).alloc _).alloc _
  · exact (Sees.new' (Vs.alloc _) _ _ _ _ _ (by simp; omega) rfl rfl).alloc _
  · exact Sees.new' ((Vs.alloc _).alloc _) _ _ _ _ _ (by simp; omega) rfl rfl
  rintro e w7 ⟨rfl, hb7⟩
  dsimp only
  have hb7 := chain (al3 Vs _ _ _) hb7
  replace HBW := Lib.hid (chain HBW.out hb7)
  replace Br := Lib.hid (Br.out.below hb7)
  replace Bs := Lib.hid (Bs.out.below hb7)
  replace yr := Br.out.lt
  replace ys := Bs.out.lt
  clear hb7
  go_wp2_with (first
    | (refine wpList_load_blk rfl 49 (.tmp 1) rfl w4.heap.size 49 r3 (by rfl) (Br.out) _ Try.underlying49 rfl H3.out ?_))
  refine (V2 _ _ (Sees.empty _ _ _) (Sees.empty _ _ _) (Sees.new' w7 _ _ _ _ _ rfl rfl rfl)).mono ?_
  rintro e w8 ⟨rfl, hb8⟩
  dsimp only
  have hb8 := chain (al1 w7 _) hb8
  replace HBW := Lib.hid (chain HBW.out hb8)
  replace Br := Lib.hid (Br.out.below hb8)
  replace Bs := Lib.hid (Bs.out.below hb8)
  replace yr := Br.out.lt
  replace ys := Bs.out.lt
  clear hb8
  go_wp2_with (first
    | (refine wpList_load_blk rfl 49 (.tmp 2) rfl w6.heap.size 49 rS (by rfl) (Bs.out) _ Try.underlying49 rfl HS.out ?_))
  with_reducible refine (C7 _).mono ?_
  rintro e w9 ⟨rfl, hb9⟩
  dsimp only
  replace HBW := Lib.hid (chain HBW.out hb9)
  replace Br := Lib.hid (Br.out.below hb9)
  replace Bs := Lib.hid (Bs.out.below hb9)
  replace yr := Br.out.lt
  replace ys := Bs.out.lt
  clear hb9
  simp only [List.append] at *
  go_wp2_with (first
    | (refine wpList_store_blk rfl 49 (.tmp 7) (.tmp 31) rfl w9.heap.size 49 z16 rF (by rfl) (by rfl) (blk.new' rfl) (by rfl) HF.out ?_))
  obtain ⟨Vf, hV, Bf, hbv, zf⟩ := blk_var w9 z16 rF 49
  rw [hV]
  clear hV
  replace HBW := Lib.hid (chain HBW.out hbv)
  replace Br := Lib.hid (Br.out.below hbv)
  replace Bs := Lib.hid (Bs.out.below hbv)
  replace yr := Br.out.lt
  replace ys := Bs.out.lt
  clear hbv
  replace Bf := Lib.hid Bf
  have yf := Bf.out.lt
  with_reducible refine (A1 _).mono ?_
  rintro e w' ⟨rfl, rfl⟩
  dsimp only
  go_wp2_with fail
  with_reducible refine (A2 _).mono ?_
  rintro e w' ⟨rfl, rfl⟩
  dsimp only
  go_wp2_with fail
  with_reducible refine (A3 _).mono ?_
  rintro e w' ⟨rfl, rfl⟩
  dsimp only
  go_wp2_with fail
  with_reducible refine (A4 _).mono ?_
  rintro e w' ⟨rfl, rfl⟩
  dsimp only
  go_wp2_with (first
    | (refine wpList_unguard (by rfl) ?_; refine wpList_load_blk rfl 49 (.tmp 1) rfl w4.heap.size 49 r3 (by rfl) (Br.out) _ Try.underlying49 rfl H3.out ?_))
  with_reducible refine (D1 _).mono ?_
  rintro e w10 ⟨rfl, hb10⟩
  dsimp only
  replace HBW := Lib.hid (chain HBW.out hb10)
  replace Br := Lib.hid (Br.out.below hb10)
  replace Bs := Lib.hid (Bs.out.below hb10)
  replace Bf := Lib.hid (Bf.out.below hb10)
  replace yr := Br.out.lt
  replace ys := Bs.out.lt
  replace yf := Bf.out.lt
  clear hb10
  go_wp2_with (first
    | (refine wpList_unguard (by rfl) ?_; refine wpList_load_blk rfl 49 (.tmp 1) rfl w4.heap.size 49 r3 (by rfl) (Br.out) _ Try.underlying49 rfl H3.out ?_))
  with_reducible refine (D2 _).mono ?_
  rintro e w11 ⟨rfl, hb11⟩
  dsimp only
  replace HBW := Lib.hid (chain HBW.out hb11)
  replace Br := Lib.hid (Br.out.below hb11)
  replace Bs := Lib.hid (Bs.out.below hb11)
  replace Bf := Lib.hid (Bf.out.below hb11)
  replace yr := Br.out.lt
  replace ys := Bs.out.lt
  replace yf := Bf.out.lt
  clear hb11
  go_wp2_with (first
    | (refine wpList_unguard (by rfl) ?_; refine wpList_load_blk rfl 49 (.tmp 2) rfl w6.heap.size 49 rS (by rfl) (Bs.out) _ Try.underlying49 rfl HS.out ?_))
  with_reducible refine (D3 _).mono ?_
  rintro e w12 ⟨rfl, hb12⟩
  dsimp only
  replace HBW := Lib.hid (chain HBW.out hb12)
  replace Br := Lib.hid (Br.out.below hb12)
  replace Bs := Lib.hid (Bs.out.below hb12)
  replace Bf := Lib.hid (Bf.out.below hb12)
  replace yr := Br.out.lt
  replace ys := Bs.out.lt
  replace yf := Bf.out.lt
  clear hb12
  go_wp2_with (first
    | (refine wpList_unguard (by rfl) ?_; refine wpList_load_blk rfl 49 (.tmp 2) rfl w6.heap.size 49 rS (by rfl) (Bs.out) _ Try.underlying49 rfl HS.out ?_))
  with_reducible refine (D4 _).mono ?_
  rintro e w13 ⟨rfl, hb13⟩
  dsimp only
  replace HBW := Lib.hid (chain HBW.out hb13)
  replace Br := Lib.hid (Br.out.below hb13)
  replace Bs := Lib.hid (Bs.out.below hb13)
  replace Bf := Lib.hid (Bf.out.below hb13)
  replace yr := Br.out.lt
  replace ys := Bs.out.lt
  replace yf := Bf.out.lt
  clear hb13
  go_wp2_with (first
    | (refine wpList_unguard (by rfl) ?_; refine wpList_load_blk rfl 49 (.tmp 2) rfl w6.heap.size 49 rS (by rfl) (Bs.out) _ Try.underlying49 rfl HS.out ?_))
  with_reducible refine (D5 _).mono ?_
  rintro e w14 ⟨rfl, hb14⟩
  dsimp only
  replace HBW := Lib.hid (chain HBW.out hb14)
  replace Br := Lib.hid (Br.out.below hb14)
  replace Bs := Lib.hid (Bs.out.below hb14)
  replace Bf := Lib.hid (Bf.out.below hb14)
  replace yr := Br.out.lt
  replace ys := Bs.out.lt
  replace yf := Bf.out.lt
  clear hb14
  have q0 := Bf.out.cell (k := 0) (by decide)
  have q8 := Bf.out.cell (k := 8) (by decide)
  have q11 := Bf.out.cell (k := 11) (by decide)
  rw [show rF.getD 0 0 = 1 from rfl, Int.ofNat_one] at q0
  rw [show rF.getD 8 0 = 0 from rfl, Int.ofNat_zero] at q8
  rw [show rF.getD 11 0 = 0 from rfl, Int.ofNat_zero] at q11
  go_wp2_with fail
  go_ret
  exact ⟨rfl, HBW.out⟩
end Go.Proofs.Try
