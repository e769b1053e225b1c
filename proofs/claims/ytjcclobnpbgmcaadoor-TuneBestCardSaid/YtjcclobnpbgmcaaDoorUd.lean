/- tune.sum (stage 21). -/
import Derived.Test.YtjcclobnpbgmcaaDoorUc
import Derived.Test.YtjcclobnpbgmcaaDoorOwn2
import Derived.RangeFuncBox
namespace Go.Proofs.Tryd
open Go.RowKit
set_option linter.unusedVariables false
set_option linter.unusedSimpArgs false
theorem uInfo : (Tryd.prog.info? 23).map (fun i => (i.zero, i.size, i.bytes)) = some (some (.int .u64 0), 1, 8) := by kernel_rfl
theorem infoU_parts {T : TypeId} {z : Value} {n m : Nat} (h : (Tryd.prog.info? T).map (fun i => (i.zero, i.size, i.bytes)) = some (some z, n, m)) : ∃ i, Tryd.prog.info? T = some i ∧ i.zero = some z ∧ i.size = n ∧ i.bytes = m := by
  cases hi : Tryd.prog.info? T with
  | none => rw [hi] at h; cases h
  | some i =>
    rw [hi] at h
    simp only [Option.map_some, Option.some.injEq, Prod.mk.injEq] at h
    exact ⟨i, rfl, h.1, h.2.1, h.2.2⟩
def rateN (s : Sn) (L : Nat) : Int := rateF s.2.1.toNat L s.2.2.toNat
def ratesN (l : List Sn) (L : Nat) : List Int := l.map fun s => rateN s L
theorem takeN_one {l : List Sn} {k : Nat} (hk : k < l.length) : l.take (k + 1) = l.take k ++ [atN l k] := by
  rw [List.take_add_one, List.getElem?_eq_getElem hk]
  simp [atN, List.getD_eq_getElem?_getD, List.getElem?_eq_getElem hk]
theorem ratesN_one {l : List Sn} {k : Nat} (hk : k < l.length) (L : Nat) : ratesN (l.take (k + 1)) L = ratesN (l.take k) L ++ [rateN (atN l k) L] := by
  rw [takeN_one hk]
  unfold ratesN
  rw [List.map_append]
  rfl
/-- Members that may be, as numbers. -/
theorem mem_nat {l : List Sn} (h : chkN l = true) {k : Nat} (hk : k < l.length) : ∃ (s : ByteArray) (X Y : Nat), atN l k = (s, (X : Int), (Y : Int)) ∧ 1 ≤ X ∧ X ≤ 4096 ∧ 1 ≤ Y ∧ Y ≤ 1000 := by
  have h1 := (chkN_iff.1 h).2 k hk
  unfold okAt inB at h1
  simp only [Bool.and_eq_true, decide_eq_true_eq] at h1
  obtain ⟨⟨_, h2, h3⟩, h4, h5⟩ := h1
  obtain ⟨⟨s, x, y⟩, hp⟩ : ∃ p, atN l k = p := ⟨_, rfl⟩
  rw [hp] at h2 h3 h4 h5
  dsimp only at h2 h3 h4 h5
  obtain ⟨X, rfl⟩ := Int.eq_ofNat_of_zero_le (show 0 ≤ x by omega)
  obtain ⟨Y, rfl⟩ := Int.eq_ofNat_of_zero_le (show 0 ≤ y by omega)
  exact ⟨s, X, Y, hp, by omega, by omega, by omega, by omega⟩
/-- What a sum keeps: the window, what is multiplied with, all rates. -/
def SumC (W : World) (B : Nat) (v f : Value) (n : Nat) (l : List Sn) (L : Nat) : Prop :=
  W.cell? ⟨B, 0, none⟩ = some v ∧ W.cell? ⟨B + 1, 0, none⟩ = some f ∧ (∃ A' c', W.cell? ⟨B + 2, 0, none⟩ = some (.slice A' n c') ∧ Sees W 1 A' n ((ratesN l L).map (Value.int .u64))) ∧ B + 2 < W.heap.size
theorem SumC.below {W W' : World} {B : Nat} {v f : Value} {n : Nat} {l : List Sn} {L : Nat} (h : SumC W B v f n l L) (hb : Below W.heap.size W W') : SumC W' B v f n l L := by
  obtain ⟨h1, h2, ⟨A', c', h3, h4⟩, h5⟩ := h
  exact ⟨(hb.cell (p := ⟨B, 0, none⟩) (by show B < _; omega)).trans h1, (hb.cell (p := ⟨B + 1, 0, none⟩) (by show B + 1 < _; omega)).trans h2, ⟨A', c', (hb.cell (p := ⟨B + 2, 0, none⟩) h5).trans h3, h4.below hb⟩, Nat.lt_of_lt_of_le h5 hb.size⟩
set_option maxRecDepth 100000 in
set_option maxHeartbeats 8000000 in
theorem sum_c (v : Value) (n : Nat) (l : List Sn) (L : Nat) (g : FuncId) (hL : L < 18446744073709551616) (hok : chkN l = true) (w : World) (h : Rows encN 3 w v n l) (hT : Pows w) :
    Calls Tryd.prog 39 #[v, .int .u64 (L : Int), .func (.func g) #[] #[]] w fun e w' => e = .returned (.func (.func 54) #[] #[.pointer (some ⟨w.heap.size, 0, none⟩), .pointer (some ⟨w.heap.size + 1, 0, none⟩), .pointer (some ⟨w.heap.size + 2, 0, none⟩)]) ∧ SumC w' w.heap.size v (.func (.func g) #[] #[]) n l L ∧ Below w.heap.size w w' := by
  have hmf : ∀ (fn : Fn) (first cap : Array Value) (w : World), (Instr.makeFunc fn first cap).run Tryd.prog w = .ok (.func fn first cap) w := fun _ _ _ _ => rfl
  obtain ⟨i0, hy, hy0, hy1, hy2⟩ := infoU_parts uInfo
  have HL := Lib.hid h.len
  have hn : n ≤ 1000 := by have := (chkN_iff.1 hok).1; rw [h.len] at this; exact this
  have HOK := Lib.hid (fun k hk => mem_nat hok (k := k) hk)
  obtain ⟨A, c, rfl, hc, _, _, hs⟩ := h
  have HS := Lib.hid hs
  have HT := Lib.hid hT
  have RC := fun s X Y hX hY W h => rate_c s X L Y hX hL hY W h
  clear hs hT hok hc
  go_enter Tryd.func39, Tryd.ntmps39
  go_wp2_with fail
  go_loopw [12] (fun i wr => ∃ (k : Nat) (v' : Value), k ≤ n ∧ i = .int .i64 k ∧ wr.cell? ⟨w.heap.size, 0, none⟩ = some (.slice A n c) ∧ wr.cell? ⟨w.heap.size + 1, 0, none⟩ = some (.func (.func g) #[] #[]) ∧ wr.cell? ⟨w.heap.size + 1 + 1, 0, none⟩ = some v' ∧ wr.frozen? ⟨w.heap.size + 1 + 1, 0, none⟩ = false ∧ Hid (wr.ownsRow (w.heap.size + 3) 23 1 v' k ((ratesN (l.take k) L).map (Value.int .u64))) ∧ w.heap.size + 3 ≤ wr.heap.size ∧ Hid (Below w.heap.size w wr)) (fun i _ => n - (intOf i).toNat)
  case atStart =>
    refine ⟨0, .slice none 0 0, by omega, rfl, by go_simp, by go_simp, by go_simp, by go_simp, Lib.hid (World.ownsRow_nil _ _ _ _), by simp, Lib.hid (by (repeat' (first | (with_reducible exact Below.refl _ _) | (with_reducible assumption) | (with_reducible refine Below.alloc ?_ ?_ _) | (with_reducible refine Below.drew ?_) | (with_reducible refine Below_drewN ?_ _) | (with_reducible refine Below.setCell ?_ ?_ _) | (refine Below.step (B' := ?_) (b := ?_) ?_ ?_ ?_; rotate_left 2; (with_reducible assumption)) | go_size)))⟩
  case round =>
    obtain ⟨k, v', hk, rfl, c3, c5, c7, z7, HO, hsz, HB⟩ := hrel
    by_cases hlt : k < n
    · have hki : (k : Int) < (n : Int) := by omega
      have hs := HS.out.below HB.out
      obtain ⟨b, off, rfl, hbl⟩ := Rows.some hs (by omega)
      obtain ⟨d0, d1, d2, hbz⟩ := hs.seen hlt
      obtain ⟨s, X, Y, hp, hX1, hX2, hY1, hY2⟩ := HOK.out k (by rw [HL.out]; exact hlt)
      have HR := Lib.hid (ratesN_one (l := l) (k := k) (by rw [HL.out]; exact hlt) L)
      have hrt : rateN (atN l k) L = rateF X L Y := by rw [hp]; rfl
      rw [hrt] at HR
      rw [hp] at d0 d1 d2
      dsimp only at d0 d1 d2
      have hbz2 := HB.out.size
      clear hp hrt hs
      go_wp2_with fail
      have k0 : (wr.alloc (.cells #[.string s, .int .i64 (X : Int), .int .i64 (Y : Int)] 25)).cell? ⟨wr.heap.size, 0, none⟩ = some (.string s) := by go_simp
      have k1 : (wr.alloc (.cells #[.string s, .int .i64 (X : Int), .int .i64 (Y : Int)] 25)).cell? ⟨wr.heap.size, 1, none⟩ = some (.int .i64 (X : Int)) := by go_simp
      have k2 : (wr.alloc (.cells #[.string s, .int .i64 (X : Int), .int .i64 (Y : Int)] 25)).cell? ⟨wr.heap.size, 2, none⟩ = some (.int .i64 (Y : Int)) := by go_simp
      have kb := (Below.refl wr.heap.size wr).alloc (Nat.le_refl _) (.cells #[.string s, .int .i64 (X : Int), .int .i64 (Y : Int)] 25)
      replace c3 := (kb.cell (p := ⟨w.heap.size, 0, none⟩) (by show w.heap.size < _; omega)).trans c3
      replace c5 := (kb.cell (p := ⟨w.heap.size + 1, 0, none⟩) (by show w.heap.size + 1 < _; omega)).trans c5
      replace c7 := (kb.cell (p := ⟨w.heap.size + 1 + 1, 0, none⟩) (by show w.heap.size + 1 + 1 < _; omega)).trans c7
      replace z7 := (kb.frozen (p := ⟨w.heap.size + 1 + 1, 0, none⟩) (by show w.heap.size + 1 + 1 < _; omega)).trans z7
      have hzV : w.heap.size + 3 ≤ (wr.alloc (.cells #[.string s, .int .i64 (X : Int), .int .i64 (Y : Int)] 25)).heap.size := by simp; omega
      have HOV := Lib.hid (own_below' HO.out kb)
      have HBV := Lib.hid (chain1 HB.out (.cells #[.string s, .int .i64 (X : Int), .int .i64 (Y : Int)] 25))
      have HTV := Lib.hid (HT.out.below HBV.out)
      clear kb d0 d1 d2 hbz hbz2 hsz HO HB
      obtain ⟨b9, hb9⟩ : ∃ b9, wr.heap.size = b9 := ⟨_, rfl⟩
      have h9 : b9 < (wr.alloc (.cells #[.string s, .int .i64 (X : Int), .int .i64 (Y : Int)] 25)).heap.size := by simp; omega
      rw [hb9] at k0 k1 k2 ⊢
      clear hb9
      generalize wr.alloc (.cells #[.string s, .int .i64 (X : Int), .int .i64 (Y : Int)] 25) = V at *
      go_region_law ((first
        | (refine step_app rfl (.tmp 16) (.tmp 20) _ rfl (w.heap.size + 3) 23 i0 _ 1 8 Tryd.underlying63 hy hy0 hy1 hy2 rfl (by omega) v' k _ rfl (HO5.out.alloc _) (some ⟨w5.heap.size, 0, none⟩) 1 1 [.int .u64 (rateF X L Y)] rfl (cap_some (by omega)) (Sees.one _ _ _) (by simp [Value.oneCell']) (by unfold maxLen; omega) (by omega) (by simp; omega) ?_
           intro v4 w4 hown4 hg4 hat4
           obtain ⟨A4, c4, rfl, hc4, hs4⟩ := Sees.of_own hown4
           have hb4 : Below (w.heap.size + 3) _ w4 := (Below.refl _ _).grown hg4 (by simp; omega) (fun q hq => (HO5.out.lt q hq).1)
           have e7 := (hb4.cell (p := ⟨w.heap.size + 1 + 1, 0, none⟩) (by show w.heap.size + 1 + 1 < _; omega)).trans ((((Below.refl w5.heap.size w5).alloc (Nat.le_refl _) _).cell (p := ⟨w.heap.size + 1 + 1, 0, none⟩) (by show w.heap.size + 1 + 1 < _; omega)).trans c37)
           have y7 := (hb4.frozen (p := ⟨w.heap.size + 1 + 1, 0, none⟩) (by show w.heap.size + 1 + 1 < _; omega)).trans ((((Below.refl w5.heap.size w5).alloc (Nat.le_refl _) _).frozen (p := ⟨w.heap.size + 1 + 1, 0, none⟩) (by show w.heap.size + 1 + 1 < _; omega)).trans z57)
           have hz4 := hb4.size)
        | (go_simp; go_wp2_with (go_at_call 35; refine (RC s X Y (by omega) (by omega) _ (HTV.out.below (Below.refl _ _).drew)).mono ?_; rintro e w5 ⟨rfl, hb50⟩; have hb5 := chain (show Below V.heap.size V V.drew from (Below.refl _ _).drew) hb50; have HO5 := Lib.hid (own_below' HOV.out hb5); have c37 := (hb5.cell (p := ⟨w.heap.size + 1 + 1, 0, none⟩) (by show w.heap.size + 1 + 1 < _; omega)).trans c7; have z57 := (hb5.frozen (p := ⟨w.heap.size + 1 + 1, 0, none⟩) (by show w.heap.size + 1 + 1 < _; omega)).trans z7; have hz5 := hb5.size; have hlt5 : w.heap.size + 1 + 1 < w5.heap.size := (by omega)))))
      all_goals
        have kb5 := (Below.refl w5.heap.size w5).alloc (Nat.le_refl _) (.cells #[.int .u64 (rateF X L Y)] 23)
        have hbA := (HBV.out.trans (hb5.mono (by omega))).trans (kb5.mono (by omega))
        have hbB : Below w.heap.size w w4 := hbA.trans (hb4.mono (by omega))
        have x3 := (hb4.cell (p := ⟨w.heap.size, 0, none⟩) (by show w.heap.size < _; omega)).trans ((kb5.cell (p := ⟨w.heap.size, 0, none⟩) (by show w.heap.size < _; omega)).trans ((hb5.cell (p := ⟨w.heap.size, 0, none⟩) (by show w.heap.size < _; omega)).trans c3))
        have x5 := (hb4.cell (p := ⟨w.heap.size + 1, 0, none⟩) (by show w.heap.size + 1 < _; omega)).trans ((kb5.cell (p := ⟨w.heap.size + 1, 0, none⟩) (by show w.heap.size + 1 < _; omega)).trans ((hb5.cell (p := ⟨w.heap.size + 1, 0, none⟩) (by show w.heap.size + 1 < _; omega)).trans c5))
        have hne : (Value.slice A4 (k + 1) c4).ownBlock = none ∨ (Value.slice A4 (k + 1) c4).ownBlock ≠ some (w.heap.size + 1 + 1) := by
          right
          intro e
          have := (hown4.lt _ e).1
          omega
        have HO6 := Lib.hid (hown4.kept (grownBy_setCell' w4 (w.heap.size + 1 + 1) (.slice A4 (k + 1) c4)) hne)
        have HB6 := Lib.hid ((hbB.grown (grownBy_setCell' w4 (w.heap.size + 1 + 1) (.slice A4 (k + 1) c4)) hbB.size (fun q hq => by injection hq with hq; omega)))
        have HZ6 := Lib.hid hz4
        clear kb5 hbA hbB hb4 hb5 hb50 hown4 hg4 hat4 hs4 hne k0 k1 k2 c3 c5 c7 z7 c37 z57
        go_wp2_with fail
        go_roundw
        case rel =>
          refine ⟨k + 1, _, by omega, by first | rfl | (rw [wrap_1 k (by omega)]; rfl), (World.cell?_setCell_other _ _ _ _ (by first | (simp; done) | (simp; omega))).trans x3, (World.cell?_setCell_other _ _ _ _ (by first | (simp; done) | (simp; omega))).trans x5, World.cell?_setCell_same _ _ _ e7, (World.frozen?_setCell _ _ _ _).trans y7, ?_, by have := HZ6.out; simp at this ⊢; omega, HB6⟩
          rw [HR.out, List.map_append]
          exact HO6
        case measure => first | (simp [intOf]; done) | (simp [intOf]; omega) | (rw [wrap_1 k (by omega)]; simp [intOf]; omega)
    · have hke : k = n := by omega
      subst hke
      go_wp2_with fail
      go_ret
      have HLk : l.take k = l := by rw [← HL.out, List.take_length]
      have HOo := HO.out
      rw [HLk] at HOo
      obtain ⟨A', c', rfl, hcc, hsee⟩ := Sees.of_own HOo
      exact ⟨rfl, ⟨c3, c5, ⟨A', c', c7, hsee⟩, by omega⟩, HB.out⟩
end Go.Proofs.Tryd
