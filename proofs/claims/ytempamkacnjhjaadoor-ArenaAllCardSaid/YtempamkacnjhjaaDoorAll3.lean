/- ArenaAll: a slot is given back. -/
import Derived.Test.YtempamkacnjhjaaDoorAll2
import Derived.Test.YtempamkacnjhjaaDoorL11a
namespace Go.Proofs.Tryd
open Go.RowKit
set_option linter.unusedVariables false
set_option linter.unusedSimpArgs false
theorem Sees.slot {w : World} {n b off : Nat} {ps : List Tk} (h : Sees w 2 (some ⟨b, off, none⟩) n (slC ps)) {j : Nat} {p : Tk} (hj : ps[j]? = some p) :
    w.cell? ⟨b, off + j * 2, none⟩ = some (.int .i64 (p.1 : Int)) ∧ w.cell? ⟨b, off + j * 2 + 1, none⟩ = some (.int .i64 (p.2.1 : Int)) ∧ b < w.heap.size := by
  have hl : ps.length * 2 = n * 2 := by have := h.1; rw [slC_len] at this; omega
  have hjl : j < ps.length := (List.getElem?_eq_some_iff.1 hj).1
  obtain ⟨e1, e2⟩ := slC_at ps j p hj
  obtain ⟨u, hu, hc⟩ := h.cell (j := j * 2) (by omega)
  obtain ⟨v, hv, hd⟩ := h.cell (j := j * 2 + 1) (by omega)
  rw [e1] at hu
  rw [e2] at hv
  injection hu with hu
  injection hv with hv
  subst hu hv
  exact ⟨hc, hd, World.block_lt_of_cell? w _ hc⟩
theorem own_below {w w' : World} {base : Nat} {e : TypeId} {size : Nat} {v : Value} {n : Nat} {xs : List Value} (h : w.ownsRow base e size v n xs) (hb : Below w.heap.size w w') : w'.ownsRow base e size v n xs := by
  refine ⟨h.1, h.2.imp id ?_⟩
  rintro ⟨g, cap, cur, rfl, h1, h2, h3⟩
  exact ⟨g, cap, cur, rfl, h1, (hb.block g (Array.getElem?_eq_some_iff.1 h2).1).trans h2, h3⟩
theorem own_mono {w : World} {base base' : Nat} {e : TypeId} {size : Nat} {v : Value} {n : Nat} {xs : List Value} (h : w.ownsRow base e size v n xs) (hb : base' ≤ base) : w.ownsRow base' e size v n xs := by
  refine ⟨h.1, h.2.imp id ?_⟩
  rintro ⟨g, cap, cur, rfl, h1, h2, h3⟩
  exact ⟨g, cap, cur, rfl, Nat.le_trans hb h1, h2, h3⟩
theorem sub_at (b o k n c j : Nat) (xs : List Value) (hj : j + 1 ≤ n) (hc : n ≤ c) : ∃ X, (if c = j + 1 then some (⟨b, o, none⟩ : Addr) else some ⟨b, o + (j + 1) * k, none⟩) = some ⟨b, X, none⟩ ∧ ∀ W, Sees W k (some ⟨b, o, none⟩) n xs → Sees W k (some ⟨b, X, none⟩) (n - (j + 1)) (xs.drop ((j + 1) * k)) := by
  by_cases h : c = j + 1
  · refine ⟨o, by rw [if_pos h], fun W hW => ?_⟩
    have hn : n = j + 1 := by omega
    rw [show n - (j + 1) = 0 by omega, List.drop_of_length_le (by rw [hW.1, hn]; exact Nat.le_refl _)]
    exact Sees.empty _ _ _
  · exact ⟨o + (j + 1) * k, by rw [if_neg h], fun W hW => hW.dropN (j + 1) hj⟩
theorem segs_grown {B : Nat} {w w' : World} {v : Value} {n : Nat} {l : List Sg} {row : Option Nat} (h : OwnS B w v n l) (hg : w.grownBy w' row) (hlt : ∀ k, row = some k → k < B) : OwnS B w' v n l := by
  obtain ⟨a, b, c, h⟩ := h
  refine ⟨a, b, c, h.imp id ?_⟩
  rintro ⟨g, cc, rfl, h1, h2, h3, h4⟩
  have hne : some g ≠ row := by
    intro e
    have := hlt g e.symm
    omega
  have hblk := hg.block g h3 hne
  refine ⟨g, cc, rfl, h1, h2, Nat.lt_of_lt_of_le h3 hg.size, fun j hj => ?_⟩
  obtain ⟨⟨c0, c1⟩, f0, f1⟩ := h4 j hj
  refine ⟨⟨(World.cell?_of_block (a := ⟨g, _, none⟩) hblk).trans c0, (World.cell?_of_block (a := ⟨g, _, none⟩) hblk).trans c1⟩, ?_, ?_⟩
  · unfold World.frozen? at f0 ⊢; simp only at f0 ⊢; rw [hblk]; exact f0
  · unfold World.frozen? at f1 ⊢; simp only at f1 ⊢; rw [hblk]; exact f1
theorem sees_two (w : World) (o : Obj) (x y : Value) (t : TypeId) : Sees ((w.alloc o).alloc (.cells #[x, y] t)) 2 (some ⟨w.heap.size + 1, 0, none⟩) 1 [x, y] := by
  have h := Sees.two (w.alloc o) x y t
  rwa [World.size_alloc] at h
/-- How many bytes the first so many have. -/
def sumB (ps : List Tk) (j : Nat) : Nat := ((ps.take j).map fun p => byN p.2.2).sum
theorem sumB_succ (ps : List Tk) (j : Nat) (p : Tk) (h : ps[j]? = some p) : sumB ps (j + 1) = sumB ps j + byN p.2.2 := by
  unfold sumB
  rw [List.take_add_one, h]
  simp
theorem byN_64 (c : Int) : byN c ≤ 64 := by
  unfold byN
  repeat' split
  all_goals omega
theorem Sees.cls {w : World} {n b off : Nat} {ps : List Tk} (h : Sees w 1 (some ⟨b, off, none⟩) n (clC ps)) {j : Nat} {p : Tk} (hj : ps[j]? = some p) : w.cell? ⟨b, off + j, none⟩ = some (.int .i64 p.2.2) := by
  have hl : (clC ps).length = n := by have := h.1; omega
  have hjl : j < ps.length := (List.getElem?_eq_some_iff.1 hj).1
  obtain ⟨u, hu, hc⟩ := h.cell (j := j) (by unfold clC at hl; simp at hl; omega)
  unfold clC at hu
  rw [List.getElem?_map, hj] at hu
  injection hu with hu
  rw [hc, ← hu]
theorem once_ne {l : List Sg} {ps : List Tk} (h : AInv l ps) {q j : Nat} {p p' : Tk} (hq : ps[q]? = some p') (hj : ps[j]? = some p) (hlt : q < j) : ¬(p'.1 = p.1 ∧ p'.2.1 = p.2.1) := by
  intro e
  have hjl : j < ps.length := (List.getElem?_eq_some_iff.1 hj).1
  have e1 := (List.getElem?_eq_some_iff.1 hq).2
  have e2 := (List.getElem?_eq_some_iff.1 hj).2
  have hn := List.pairwise_iff_getElem.1 h.once q j (by simp; omega) (by simp; omega) hlt
  apply hn
  simp only [List.getElem_map]
  rw [e1, e2, e.1, e.2]
theorem slot_info : (Tryd.prog.info? 34).map (fun i => (i.zero, i.size, i.bytes)) = some (some (.agg #[.int .i64 0, .int .i64 0]), 2, 16) := by kernel_rfl
set_option maxRecDepth 100000 in
set_option maxHeartbeats 4000000 in
theorem all_walk (g : Int) (A : Option Addr) (n cc : Nat) (acts : List (Bool × Int)) (hn : n ≤ 100) (bg : 0 ≤ g ∧ g ≤ 255) (w : World) (hT : Deb w) (hs : Sees w 2 A n (actC acts)) :
    Calls Tryd.prog 3 #[.int .u8 g, .slice A n cc] w fun e w' => e = .returned (.bool true) ∧ Below w.heap.size w w' := by
  obtain ⟨N, hN⟩ : ∃ N : Nat, g % 21 = (N : Int) := ⟨(g % 21).toNat, by omega⟩
  have NW := fun W => new_c N (by omega) W
  rw [← hN] at NW
  have HN := Lib.hid hN
  have HT := Lib.hid hT
  have HT0 := Lib.hid hT
  have HA := Lib.hid hs
  have qn : decide (100 < (n : Int)) = false := by simp; omega
  clear hT hs hN
  go_enter Tryd.func3, Tryd.ntmps3
  go_wp2_with fail
  with_reducible refine (awake11 _ HT.out).mono ?_
  rintro e w1 ⟨rfl, hb1⟩
  replace HT := Lib.hid (HT.out.below hb1)
  have HBW := Lib.hid hb1
  clear hb1
  go_wp2_with fail
  refine (NW _).mono ?_
  rintro e w2 ⟨⟨v2, rfl, ho⟩, hb2⟩
  replace HT := Lib.hid (HT.out.below hb2)
  replace HBW := Lib.hid (chain HBW.out hb2)
  have HS := Lib.hid ho.segs
  have HI := Lib.hid (inv_new N (by have := HN.out; omega))
  clear ho hb2 NW qn
  go_wp2_with fail
  go_loopw [6, 8, 9, 10] (fun s6 s8 s9 i wr => ∃ (k : Nat) (lS : List Sg) (ps : List Tk), k ≤ n ∧ i = .int .i64 k ∧ Hid (Segs wr s6 N lS) ∧ Hid (AInv lS ps) ∧ Hid (wr.ownsRow w.heap.size 34 2 s8 ps.length (slC ps)) ∧ Hid (wr.ownsRow w.heap.size 3 1 s9 ps.length (clC ps)) ∧ ps.length ≤ k ∧ Below w.heap.size w wr ∧ Hid (Deb wr)) (fun _ _ _ i _ => n - (intOf i).toNat)
  case atStart => exact ⟨0, _, [], by omega, rfl, HS, HI, Lib.hid (World.ownsRow_nil _ _ _ _), Lib.hid (World.ownsRow_nil _ _ _ _), Nat.le_refl _, HBW.out, HT⟩
  case round =>
    obtain ⟨k, lS, ps, hk, rfl, HS, HI, H8, H9, hps, hb, HT⟩ := hrel
    obtain ⟨A8, c8, rfl, hc8, hs8⟩ := Sees.of_own H8.out
    obtain ⟨A9, c9, rfl, hc9, hs9⟩ := Sees.of_own H9.out
    have HB := Lib.hid hb
    clear HBW
    by_cases hlt : k < n
    · have hlt' : (k : Int) < (n : Int) := by omega
      have hSA := HA.out.below hb
      clear hb
      rcases hSA.2 with h0 | ⟨bA, oA, rfl, hbA, _⟩
      · omega
      obtain ⟨a0, a1, _⟩ := hSA.act hlt
      clear hSA
      obtain ⟨fr, hfr⟩ : ∃ b, (actAt acts k).1 = b := ⟨_, rfl⟩
      obtain ⟨x, hx⟩ : ∃ x, (actAt acts k).2 = x := ⟨_, rfl⟩
      rw [hfr] at a0
      rw [hx] at a1
      have HX := Lib.hid hx
      clear hfr hx
      cases fr with
      | true =>
        by_cases hx0 : 0 ≤ x
        · obtain ⟨j, rfl⟩ := Int.eq_ofNat_of_zero_le hx0
          by_cases hxn : j < ps.length
          · have q1 : decide (ps.length ≤ j) = false := by simp; omega
            have q1' : ¬(ps.length ≤ j) := by omega
            have q2 : (j : Int) < (ps.length : Int) := by omega
            obtain ⟨p, hp⟩ : ∃ p, ps[j]? = some p := ⟨_, List.getElem?_eq_getElem hxn⟩
            rcases hs8.2 with h0 | ⟨b8, o8, rfl, hb8, _⟩
            · omega
            rcases hs9.2 with h0 | ⟨b9, o9, rfl, hb9, _⟩
            · omega
            obtain ⟨p0, p1, _⟩ := hs8.slot hp
            have HV9 := Lib.hid hs9
            have HP := Lib.hid hp
            have HI2 := Lib.hid (inv_free HI.out j p hp)
            have FR := fun W v (h : Segs W v N lS) => free_c v N lS (p.1 : Int) (p.2.1 : Int) (delL lS p.1 p.2.1, 0) (by
              unfold frR
              rw [if_pos ⟨HI.out.chk, by unfold hasL; simp; exact (HI.out.tk p (List.mem_of_getElem? HP.out)).1⟩]
              simp) W h
            have HV8 := Lib.hid hs8
            clear hp hs8 hs9
            go_wp2_with fail
            refine (FR _ _ HS.out).mono ?_
            rintro e w3 ⟨⟨v3, rfl, ho⟩, hb3⟩
            dsimp only
            have HS3 := Lib.hid ho.segs
            have H83 := Lib.hid (own_below H8.out hb3)
            have H93 := Lib.hid (own_below H9.out hb3)
            have HT3 := Lib.hid (HT.out.below hb3)
            have HB3 := Lib.hid (chain HB.out hb3)
            have HV8 := Lib.hid (HV8.out.below hb3)
            have HV9 := Lib.hid (HV9.out.below hb3)
            have hb9' := Nat.lt_of_lt_of_le hb9 hb3.size
            have hb8' := Nat.lt_of_lt_of_le hb8 hb3.size
            clear ho hb3 FR p0 p1 a0 a1 HS H8 H9 HT HB q1 q1'
            obtain ⟨i0, hi, hz0, hz1, hz2⟩ := info_parts slot_info
            have e2 : (j : Int) ≤ (c8 : Int) := by have := hc8.2; omega
            have e2' : j ≤ c8 := by omega
            have e3 : (j : Int) + 1 ≤ (ps.length : Int) := by omega
            have e4 : (ps.length : Int) ≤ (c8 : Int) := by have := hc8.2; omega
            have e5 : j + 1 ≤ ps.length := hxn
            have e6 : (0 : Int) ≤ (j : Int) + 1 := by omega
            have hw : IntKind.i64.wrap ((j : Int) + 1) = ((j + 1 : Nat) : Int) := by rw [IntKind.wrap_i64]; omega
            obtain ⟨X8, hX8, hd8⟩ := sub_at b8 o8 2 ps.length c8 j (slC ps) hxn hc8.2
            have HD := Lib.hid hd8
            clear hd8
            obtain ⟨X9, hX9, hd9⟩ := sub_at b9 o9 1 ps.length c9 j (clC ps) hxn hc9.2
            rw [show o9 + (j + 1) * 1 = o9 + (j + 1) by omega] at hX9
            have HD9 := Lib.hid hd9
            clear hd9
            have g2 : (j : Int) ≤ (c9 : Int) := by have := hc9.2; omega
            have g2' : j ≤ c9 := by omega
            have g4 : (ps.length : Int) ≤ (c9 : Int) := by have := hc9.2; omega
            · go_wp2_with fail
              go_region_law ((first
                | (refine step_app rfl (.tmp 81) (.tmp 84) _ rfl w3.heap.size 34 i0 _ 2 16 Tryd.underlying28 hi hz0 hz1 hz2 rfl (by omega) (.slice (some ⟨w3.heap.size, 0, none⟩) 0 0) 0 [] rfl (World.ownsRow_made w3 #[] 0 (Nat.le_refl _) (Nat.zero_le _) rfl) (some ⟨b8, o8, none⟩) j c8 (slC (ps.take j)) rfl (cap_some e2') (by rw [← slC_take]; exact ((HV8.out.takeN j (by omega)).alloc _)) (slC_one _) (by unfold maxLen; omega) (by omega) (by simp) ?_
                   intro v4 w4 hown4 hg4 hat4)
                | (refine step_app rfl (.tmp 85) (.tmp 89) _ rfl w3.heap.size 34 i0 _ 2 16 Tryd.underlying28 hi hz0 hz1 hz2 rfl (by omega) v4 (0 + j) ([] ++ slC (ps.take j)) rfl hown4 (some ⟨b8, X8, none⟩) (ps.length - (j + 1)) (c8 - (j + 1)) (slC (ps.drop (j + 1))) rfl (cap_some (by omega)) (by rw [← slC_drop]; exact HD.out _ (Sees.grown (show Sees (w3.alloc (.cells #[] 34)).drew 2 (some ⟨b8, o8, none⟩) ps.length (slC ps) from HV8.out.alloc _) hg4 (by simp [Value.ownBlock]; omega))) (slC_one _) (by unfold maxLen; omega) (by omega) (by have := hg4.size; simp at this; omega) ?_
                   intro v5 w5 hown5 hg5 hat5)))
              have hB5 : Below w3.heap.size w3 w5 := ((((Below.refl _ _).alloc (Nat.le_refl _) _).drew).grown hg4 (by simp) (fun k hk => by simp [Value.ownBlock] at hk; omega)).grown hg5 (by have := hg4.size; simp at this; omega) (fun k hk => (hown4.lt k hk).1)
              have hlen5 : (ps.take j ++ ps.drop (j + 1)).length = 0 + j + (ps.length - (j + 1)) := by simp; omega
              have H85 : Hid (w5.ownsRow w.heap.size 34 2 v5 (ps.take j ++ ps.drop (j + 1)).length (slC (ps.take j ++ ps.drop (j + 1)))) := Lib.hid (by rw [hlen5, slC_app]; exact own_mono hown5 HB3.out.size)
              have HS5 := Lib.hid (HS3.out.below hB5)
              have HV9' := Lib.hid (HV9.out.below hB5)
              have HT5 := Lib.hid (HT3.out.below hB5)
              have HB5 := Lib.hid (chain HB3.out hB5)
              have hb9'' := Nat.lt_of_lt_of_le hb9' hB5.size
              clear hown4 hown5 hg4 hg5 hat4 hat5 hB5 HV8 HV9 HS3 H83 H93 HT3 HB3
              · obtain ⟨i1, ki, kz0, kz1, kz2⟩ := info_parts int_info
                go_wp2_with fail
                go_region_law ((first
                  | (refine step_app rfl (.tmp 91) (.tmp 94) _ rfl w5.heap.size 3 i1 _ 1 8 Tryd.underlying29 ki kz0 kz1 kz2 rfl (by omega) (.slice (some ⟨w5.heap.size, 0, none⟩) 0 0) 0 [] rfl (World.ownsRow_made w5 #[] 0 (Nat.le_refl _) (Nat.zero_le _) rfl) (some ⟨b9, o9, none⟩) j c9 ((clC ps).take (j * 1)) rfl (cap_some g2') ((HV9'.out.takeN j (by omega)).alloc _) (fun u hu => clC_one ps u (List.mem_of_mem_take hu)) (by unfold maxLen; omega) (by omega) (by simp) ?_
                     intro v6 w6 hown6 hg6 hat6)
                  | (refine step_app rfl (.tmp 95) (.tmp 99) _ rfl w5.heap.size 3 i1 _ 1 8 Tryd.underlying29 ki kz0 kz1 kz2 rfl (by omega) v6 (0 + j) ([] ++ (clC ps).take (j * 1)) rfl hown6 (some ⟨b9, X9, none⟩) (ps.length - (j + 1)) (c9 - (j + 1)) ((clC ps).drop ((j + 1) * 1)) (by first | rfl | (simp [Act.eval]; done)) (cap_some (by omega)) (HD9.out _ (Sees.grown (show Sees (w5.alloc (.cells #[] 3)).drew 1 (some ⟨b9, o9, none⟩) ps.length (clC ps) from HV9'.out.alloc _) hg6 (by simp [Value.ownBlock]; omega))) (fun u hu => clC_one ps u (List.mem_of_mem_drop hu)) (by unfold maxLen; omega) (by omega) (by have := hg6.size; simp at this; omega) ?_
                     intro v7 w7 hown7 hg7 hat7)))
                have hB7 : Below w5.heap.size w5 w7 := ((((Below.refl _ _).alloc (Nat.le_refl _) _).drew).grown hg6 (by simp) (fun k hk => by simp [Value.ownBlock] at hk; omega)).grown hg7 (by have := hg6.size; simp at this; omega) (fun k hk => (hown6.lt k hk).1)
                have H97 : Hid (w7.ownsRow w.heap.size 3 1 v7 (ps.take j ++ ps.drop (j + 1)).length (clC (ps.take j ++ ps.drop (j + 1)))) := Lib.hid (by
                  rw [hlen5, show clC (ps.take j ++ ps.drop (j + 1)) = [] ++ (clC ps).take (j * 1) ++ (clC ps).drop ((j + 1) * 1) by unfold clC; simp]
                  exact own_mono hown7 HB5.out.size)
                have H87 := Lib.hid (own_below H85.out hB7)
                have HS7 := Lib.hid (HS5.out.below hB7)
                have HT7 := Lib.hid (HT5.out.below hB7)
                have HB7 := Lib.hid (chain HB5.out hB7)
                have hps2 : (ps.take j ++ ps.drop (j + 1)).length ≤ k + 1 := by rw [hlen5]; omega
                clear hown6 hown7 hg6 hg7 hat6 hat7 hB7 HV9' HS5 H85 HT5 HB5 hlen5
                go_wp2_with fail
                go_roundw
                case rel => exact ⟨k + 1, _, _, by omega, by go_num, HS7, HI2, H87, H97, hps2, HB7.out, HT7⟩
                case measure => first | (simp [intOf]; done) | (simp [intOf]; omega)
          · have q1 : decide (ps.length ≤ j) = true := by simp; omega
            have q1' : ps.length ≤ j := by omega
            clear hs8 hs9
            go_wp2_with fail
            go_roundw
            case rel => exact ⟨k + 1, lS, ps, by omega, by go_num, HS, HI, H8, H9, by omega, HB.out, HT⟩
            case measure => first | (simp [intOf]; done) | (simp [intOf]; omega)
        · have q1 : decide (x < 0) = true := by simp; omega
          have q1' : x < 0 := by omega
          clear hs8 hs9 hx0
          go_wp2_with fail
          go_roundw
          case rel => exact ⟨k + 1, lS, ps, by omega, by go_num, HS, HI, H8, H9, by omega, HB.out, HT⟩
          case measure => first | (simp [intOf]; done) | (simp [intOf]; omega)
      | false =>
        clear hs8 hs9
        rcases tk_err lS x HI.out.chk with ⟨E, hE, hR⟩ | ⟨i, k2, hsl, hsk, hR⟩
        · have TK := fun W v (h : Segs W v N lS) (hT : Deb W) => take_c v N lS x _ hR W h hT
          have e1 : (E == 0) = false := by rw [beq_eq_false_iff_ne]; omega
          clear hE hR
          go_wp2_with fail
          refine (TK _ _ HS.out HT.out).mono ?_
          rintro e w3 ⟨⟨v3, rfl, ho⟩, hb3⟩
          simp only at ho ⊢
          have hbx := chain1 hb3 (.cells #[.int .i64 0, .int .i64 0] 34)
          have HS3 := Lib.hid (ho.segs.below ((Below.refl _ _).alloc (Nat.le_refl _) (.cells #[.int .i64 0, .int .i64 0] 34)))
          have H83 := Lib.hid (own_below H8.out hbx)
          have H93 := Lib.hid (own_below H9.out hbx)
          have HT3 := Lib.hid (HT.out.below hbx)
          have HB3 := Lib.hid (chain HB.out hbx)
          clear ho hb3 hbx TK a0 a1 HS H8 H9 HT HB
          go_wp2_with fail
          go_roundw
          case rel => exact ⟨k + 1, lS, ps, by omega, by go_num, HS3, HI, H83, H93, by omega, HB3.out, HT3⟩
          case measure => first | (simp [intOf]; done) | (simp [intOf]; omega)
        · have TK := fun W v (h : Segs W v N lS) (hT : Deb W) => take_c v N lS x _ hR W h hT
          have HI2 := Lib.hid (inv_take HI.out x hsl i k2 hsk)
          obtain ⟨i0, hi, hz0, hz1, hz2⟩ := info_parts slot_info
          obtain ⟨i1, ki, kz0, kz1, kz2⟩ := info_parts int_info
          clear hsl hsk hR
          go_wp2_with fail
          refine (TK _ _ HS.out HT.out).mono ?_
          rintro e w3 ⟨⟨v3, rfl, ho⟩, hb3⟩
          simp only at ho ⊢
          obtain ⟨o1, ho1⟩ : ∃ o1 : Obj, o1 = (.cells #[.int .i64 (i : Int), .int .i64 (k2 : Int)] 34) := ⟨_, rfl⟩
          have hbx := chain1 (chain1 hb3 o1) o1
          have HO3 := Lib.hid ((ho.below ((Below.refl _ _).alloc (Nat.le_refl _) o1)).below ((Below.refl _ _).alloc (Nat.le_refl _) o1))
          have H83 := Lib.hid (own_below H8.out hbx)
          have H93 := Lib.hid (own_below H9.out hbx)
          have HB3 := Lib.hid (chain HB.out hbx)
          have hlo8 : ∀ k, (Value.slice A8 ps.length c8).ownBlock = some k → k < wr.heap.size := fun k hk => (H8.out.lt k hk).2
          have hlo9 : ∀ k, (Value.slice A9 ps.length c9).ownBlock = some k → k < wr.heap.size := fun k hk => (H9.out.lt k hk).2
          have HL8 := Lib.hid hlo8
          have HL9 := Lib.hid hlo9
          have hwz : wr.heap.size ≤ w3.heap.size := hb3.size
          have hwz0 : w.heap.size ≤ wr.heap.size := HB.out.size
          subst ho1
          clear ho hb3 hbx TK a0 a1 HS H8 H9 HT HB hlo8 hlo9
          go_wp2_with (first
            | (at_builtin
               refine wpList_app2 rfl (.tmp 115) (.tmp 117) _ rfl w.heap.size 34 i0 _ 2 16 Tryd.underlying28 hi hz0 hz1 hz2 rfl (by omega) (.slice A8 ps.length c8) ps.length (slC ps) rfl H83.out (some ⟨w3.heap.size + 1, 0, none⟩) 1 1 [.int .i64 (i : Int), .int .i64 (k2 : Int)] rfl (cap_some (by omega)) (sees_two _ _ _ _ _) (by simp [Value.oneCell']) (by unfold maxLen; omega) (by omega) (by simp; omega) ?_
               intro v4 w4 hown4 hg4 hat4
               have HB4 := Lib.hid (HB3.out.grown hg4 (by simp; omega) (fun k hk => (H83.out.lt k hk).1))
               have H84 := Lib.hid hown4
               have H94 := Lib.hid (own_keep H83.out H93.out (by decide) hg4)
               have HO4 := Lib.hid (segs_grown HO3.out hg4 HL8.out)
               have HA4 := HA.out.below HB4.out
               obtain ⟨_, a14, _⟩ := HA4.act hlt
               rw [HX.out] at a14
               have hz4 := hg4.size
               simp only [World.size_alloc] at hz4
               have hbA4 : bA < w4.heap.size := by omega
               clear hown4 hg4 hat4 HA4 HO3 H83 H93 HB3)
            | (at_builtin
               refine wpList_app2 rfl (.tmp 119) (.tmp 125) _ rfl w.heap.size 3 i1 _ 1 8 Tryd.underlying29 ki kz0 kz1 kz2 rfl (by omega) (.slice A9 ps.length c9) ps.length (clC ps) rfl (H94.out.alloc _) (some ⟨w4.heap.size, 0, none⟩) 1 1 [.int .i64 x] rfl (cap_some (by omega)) (Sees.one _ _ _) (by simp [Value.oneCell']) (by unfold maxLen; omega) (by omega) (by simp; omega) ?_
               intro v5 w5 hown5 hg5 hat5))
          have H95 : Hid (w5.ownsRow w.heap.size 3 1 v5 (ps ++ [(i, k2, x)]).length (clC (ps ++ [(i, k2, x)]))) := Lib.hid (by
            rw [show clC (ps ++ [(i, k2, x)]) = clC ps ++ [.int .i64 x] by unfold clC; simp, List.length_append]
            exact hown5)
          have H85 : Hid (w5.ownsRow w.heap.size 34 2 v4 (ps ++ [(i, k2, x)]).length (slC (ps ++ [(i, k2, x)]))) := Lib.hid (by
            rw [slC_app, List.length_append]
            exact own_keep (H94.out.alloc _) (H84.out.alloc _) (by decide) hg5)
          have HS5 := Lib.hid (segs_grown (HO4.out.below ((Below.refl _ _).alloc (Nat.le_refl _) _)) hg5 HL9.out).segs
          have HB5 := Lib.hid ((HB4.out.alloc (by omega) _).grown hg5 (by simp; omega) (fun k hk => (H94.out.lt k hk).1))
          have HT5 := Lib.hid (HT0.out.below HB5.out)
          have hps2 : (ps ++ [(i, k2, x)]).length ≤ k + 1 := by rw [List.length_append]; simp; omega
          clear hown5 hg5 hat5 HO4 H84 H94 HB4
          go_roundw
          case rel => exact ⟨k + 1, _, _, by omega, by go_num, HS5, HI2, H85, H95, hps2, HB5.out, HT5⟩
          case measure => first | (simp [intOf]; done) | (simp [intOf]; omega)
    · have hge : decide (k < n) = false := by simp; omega
      have hge' : decide ((k : Int) < (n : Int)) = false := by simp; omega
      have hpl : ps.length ≤ 100 := by omega
      have hpi : (ps.length : Int) ≤ 100 := by omega
      have HV8 := Lib.hid hs8
      have HV9 := Lib.hid hs9
      have HS := HS
      have hg0 : 0 ≤ g % 21 ∧ g % 21 ≤ 20 := by omega
      have CK := fun W (h : Segs W u6 N lS) => chk_c u6 N lS W h
      rw [decide_eq_true HI.out.chk] at CK
      have TN := fun W (h : Segs W u6 N lS) => taken_c u6 N lS HI.out.chk W h
      have HD := fun W (h : Segs W u6 N lS) => held_c u6 N lS HI.out.chk W h
      have hT1 : tknL lS = sumB ps ps.length := by rw [HI.out.sum]; unfold sumB; rw [List.take_length]
      have hH1 := held_ge lS HI.out.chk
      have hH2 := held_le lS
      have hlN : lS.length = N := by obtain ⟨_, _, _, _, _, h, _⟩ := HS.out; exact h
      rw [hlN] at hH2
      have hH3 : ((heldL lS : Nat) : Int) ≤ 512 * (g % 21) := by have := HN.out; omega
      obtain ⟨Hn, hHn⟩ : ∃ Hn, heldL lS = Hn := ⟨_, rfl⟩
      rw [hT1] at TN hH1
      rw [hHn] at HD hH1 hH3
      have HH1 := Lib.hid hH1
      have hw512 : IntKind.i64.wrap (512 * (g % 21)) = 512 * (g % 21) := by rw [IntKind.wrap_i64]; omega
      have HHw := Lib.hid hw512
      have HCK := Lib.hid CK
      have HTN := Lib.hid TN
      have HHD := Lib.hid HD
      clear hb hs8 hs9 hT1 hH1 hH2 hlN hHn hw512 hlt CK TN HD
      obtain ⟨V, hV⟩ : ∃ V, V = wr := ⟨_, rfl⟩
      subst hV
      go_wp2_with fail
      go_loopw [17, 18] (fun u17 u18 W => ∃ (j M : Nat), j ≤ ps.length ∧ u18 = .int .i64 j ∧ u17 = .int .i64 M ∧ Hid (M = sumB ps j) ∧ M ≤ 64 * j ∧ Below V.heap.size V W) (fun _ i _ => ps.length - (intOf i).toNat)
      case atStart => exact ⟨0, 0, by omega, rfl, rfl, Lib.hid rfl, by omega, Below.refl _ _⟩
      case round =>
        obtain ⟨j, M, hj, rfl, rfl, hM, hMj, hbw⟩ := hrel
        have HW := Lib.hid hbw
        clear hbw
        by_cases hlt2 : j < ps.length
        · have hlt2' : (j : Int) < (ps.length : Int) := by omega
          have hlt2d : decide (j < ps.length) = true := by simpa using hlt2
          obtain ⟨p, hp⟩ : ∃ p, ps[j]? = some p := ⟨_, List.getElem?_eq_getElem hlt2⟩
          rcases HV8.out.2 with h0 | ⟨b8, o8, rfl, hb8, _⟩
          · omega
          rcases HV9.out.2 with h0 | ⟨b9, o9, rfl, hb9, _⟩
          · omega
          have k9 := (HV9.out.below HW.out).cls hp
          have RB := rbytes_c p.2.2
          rw [clsB_by] at RB
          have HS2 : Hid (M + byN p.2.2 = sumB ps (j + 1)) := Lib.hid (by rw [sumB_succ ps j p hp, hM.out])
          have hB64 := byN_64 p.2.2
          have HAS := fun W (h : Segs W u6 N lS) => has_c u6 N lS (p.1 : Int) (p.2.1 : Int) W h
          rw [show (decide (chkL lS) && hasL lS (p.1 : Int) (p.2.1 : Int)) = true by rw [decide_eq_true HI.out.chk]; unfold hasL; simp; exact (HI.out.tk p (List.mem_of_getElem? hp)).1] at HAS
          have HHAS := Lib.hid HAS
          have HP := Lib.hid hp
          clear hp HAS
          generalize byN p.2.2 = Bn at *
          have hz9 := HW.out.size
          have hb9w : b9 < wr.heap.size := by omega
          go_wp2_with ((with_reducible refine (RB _).mono ?_); rintro e w' ⟨rfl, rfl⟩)
          clear k9 RB
          obtain ⟨V2, hV2⟩ : ∃ V2, V2 = wr := ⟨_, rfl⟩
          subst hV2
          go_loopw [19] (fun u19 W => ∃ q : Nat, q ≤ j ∧ u19 = .int .i64 q ∧ Below V2.heap.size V2 W) (fun i _ => j - (intOf i).toNat)
          case atStart => exact ⟨0, by omega, rfl, Below.refl _ _⟩
          case round =>
            obtain ⟨q, hq, rfl, hbq⟩ := hrel
            have HQ := Lib.hid (chain HW.out hbq)
            have HQ2 := Lib.hid hbq
            clear hbq
            have k8 := HV8.out.below HQ.out
            obtain ⟨s0, s1, _⟩ := k8.slot HP.out
            have hzq := HQ.out.size
            have hb8w : b8 < wr.heap.size := by omega
            by_cases hlt3 : q < j
            · have hlt3' : (q : Int) < (j : Int) := by omega
              have hqn : (q : Int) < (ps.length : Int) := by omega
              have hqn' : q < ps.length := by omega
              obtain ⟨p', hp'⟩ : ∃ p', ps[q]? = some p' := ⟨_, List.getElem?_eq_getElem (by omega)⟩
              obtain ⟨r0, r1, _⟩ := k8.slot hp'
              have hne := once_ne HI.out hp' HP.out hlt3
              clear k8 hp'
              by_cases hx : p'.1 = p.1
              · have hy : ¬p'.2.1 = p.2.1 := fun h => hne ⟨hx, h⟩
                have hyi : (((p'.2.1 : Nat) : Int) == ((p.2.1 : Nat) : Int)) = false := by rw [beq_eq_false_iff_ne]; omega
                have hyn : (p'.2.1 == p.2.1) = false := by rw [beq_eq_false_iff_ne]; omega
                rw [hx] at r0
                clear hne hx hy
                generalize p'.2.1 = a1 at *
                generalize p.1 = a2 at *
                generalize p.2.1 = a3 at *
                go_wp2_with fail
                go_quiet (fail)
                go_wp2_with fail
                go_roundw
                case rel => exact ⟨q + 1, by omega, by go_num, by have := HQ2.out; (repeat' (first | (with_reducible exact Below.refl _ _) | (with_reducible assumption) | (with_reducible refine Below.alloc ?_ ?_ _) | (with_reducible refine Below.drew ?_) | (with_reducible refine Below_drewN ?_ _) | (with_reducible refine Below.setCell ?_ ?_ _) | (refine Below.step (B' := ?_) (b := ?_) ?_ ?_ ?_; rotate_left 2; (with_reducible assumption)) | go_size))⟩
                case measure => first | (simp [intOf]; done) | (simp [intOf]; omega)
              · have hyi : (((p'.1 : Nat) : Int) == ((p.1 : Nat) : Int)) = false := by rw [beq_eq_false_iff_ne]; omega
                have hyn : (p'.1 == p.1) = false := by rw [beq_eq_false_iff_ne]; omega
                clear hne hx
                generalize p'.1 = a0 at *
                generalize p'.2.1 = a1 at *
                generalize p.1 = a2 at *
                generalize p.2.1 = a3 at *
                go_wp2_with fail
                go_quiet (fail)
                go_wp2_with fail
                go_roundw
                case rel => exact ⟨q + 1, by omega, by go_num, by have := HQ2.out; (repeat' (first | (with_reducible exact Below.refl _ _) | (with_reducible assumption) | (with_reducible refine Below.alloc ?_ ?_ _) | (with_reducible refine Below.drew ?_) | (with_reducible refine Below_drewN ?_ _) | (with_reducible refine Below.setCell ?_ ?_ _) | (refine Below.step (B' := ?_) (b := ?_) ?_ ?_ ?_; rotate_left 2; (with_reducible assumption)) | go_size))⟩
                case measure => first | (simp [intOf]; done) | (simp [intOf]; omega)
            · have hnlt : decide (q < j) = false := by simp; omega
              have hnlt' : decide ((q : Int) < (j : Int)) = false := by simp; omega
              have hsq := HS.out.below HQ.out
              clear k8
              go_wp2_with fail
              refine (HHAS.out _ hsq).mono ?_
              rintro e w7 ⟨rfl, hb7⟩
              have HQ7 := Lib.hid (chain HQ.out hb7)
              clear hb7 hsq
              go_wp2_with fail
              go_roundw
              case rel => exact ⟨j + 1, M + Bn, by omega, by go_num, by go_num, HS2, by omega, HQ7.out⟩
              case measure => first | (simp [intOf]; done) | (simp [intOf]; omega)
        · obtain rfl : j = ps.length := by omega
          have e1 : decide (ps.length < ps.length) = false := by simp
          have hsw := HS.out.below HW.out
          have hM2 : M = sumB ps ps.length := hM.out
          have HTN2 : Hid (∀ W, Segs W u6 N lS → Calls Tryd.prog 11 #[u6] W fun e w' => e = .returned (.int .i64 (M : Int)) ∧ Below W.heap.size W w') := Lib.hid (by rw [hM2]; exact HTN.out)
          have hH1 : M ≤ Hn := by rw [hM2]; exact HH1.out
          have hH1' : (M : Int) ≤ (Hn : Int) := by omega
          have hwx := HHw.out
          clear hM2 HTN
          go_wp2_with fail
          refine (HCK.out _ hsw).mono ?_
          rintro e w7 ⟨rfl, hb7⟩
          have hsw7 := hsw.below hb7
          have HQ7 := Lib.hid (chain HW.out hb7)
          clear hb7 hsw
          go_wp2_with fail
          refine (HTN2.out _ hsw7).mono ?_
          rintro e w8 ⟨rfl, hb8⟩
          have hsw8 := hsw7.below hb8
          have HQ8 := Lib.hid (chain HQ7.out hb8)
          clear hb8 hsw7
          go_wp2_with fail
          refine (HHD.out _ hsw8).mono ?_
          rintro e w9 ⟨rfl, hb9⟩
          have hsw9 := hsw8.below hb9
          have HQ9 := Lib.hid (chain HQ8.out hb9)
          clear hb9 hsw8
          go_wp2_with fail
          refine (HHD.out _ hsw9).mono ?_
          rintro e w10 ⟨rfl, hb10⟩
          have HQ10 := Lib.hid (chain HQ9.out hb10)
          clear hb10 hsw9
          go_wp2_with fail
          go_ret
          exact ⟨by first | rfl | (simp; done), chain HB.out HQ10.out⟩
set_option maxRecDepth 100000 in
set_option maxHeartbeats 4000000 in
theorem walk_ArenaAll (a0 : Int) (v1 : Value) (w0 : (Lit.int .u8 a0).wf = true) (w : World) (hT : Deb w) (o1 : ActIn w v1) :
    Calls Tryd.prog 3 #[.int .u8 a0, v1] w fun e w' => e = .returned (.bool true) ∧ Below w.heap.size w w' := by
  obtain ⟨A, n, cc, l, rfl, hcap, hmax, hl, hs⟩ := o1
  have bg := bounds_u8 w0
  by_cases hn : n ≤ 100
  · exact all_walk a0 A n cc l hn bg w hT hs
  · obtain ⟨N, hN⟩ : ∃ N : Nat, a0 % 21 = (N : Int) := ⟨(a0 % 21).toNat, by omega⟩
    have NW := fun W => new_c N (by omega) W
    rw [← hN] at NW
    have HT := Lib.hid hT
    have qn : decide (100 < (n : Int)) = true := by simp; omega
    have qn' : (100 : Int) < (n : Int) := by omega
    clear hT hs hN hmax hl hn hcap w0
    go_enter Tryd.func3, Tryd.ntmps3
    go_wp2_with fail
    with_reducible refine (awake11 _ HT.out).mono ?_
    rintro e w1 ⟨rfl, hb1⟩
    have HBW := Lib.hid hb1
    clear hb1
    go_wp2_with fail
    refine (NW _).mono ?_
    rintro e w2 ⟨⟨v2, rfl, ho⟩, hb2⟩
    replace HBW := Lib.hid (chain HBW.out hb2)
    clear ho hb2 NW
    go_wp2_with fail
    go_ret
    exact ⟨by first | rfl | (simp; done), HBW.out⟩
end Go.Proofs.Tryd
