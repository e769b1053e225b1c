/- table.Del (stage 13). -/
import Derived.Test.YtpjijaljdklpgaaTl
namespace Go.Proofs.Try
open Go.RowKit
set_option linter.unusedVariables false
set_option linter.unusedSimpArgs false
theorem none_string {k : ByteArray} (h : noneS k = true) : k = ⟨#[]⟩ := none_eq.1 h
set_option maxRecDepth 100000 in
set_option maxHeartbeats 4000000 in
theorem del_empty (b off c : Nat) (l : List Pl) (w : World) (h : Sees w 2 (some ⟨b, off, none⟩) 128 (flat encP l)) :
    Calls Try.prog 18 #[.slice (some ⟨b, off, none⟩) 128 c, .string ⟨#[]⟩] w fun e w' => e = .returned (.tuple #[.slice (some ⟨w.heap.size, 0, none⟩) 128 128, .int .i64 120]) ∧ w'.ownsRow w.heap.size 47 2 (.slice (some ⟨w.heap.size, 0, none⟩) 128 128) 128 (flat encP l) ∧ Below w.heap.size w w' := by
  have CC := fun W (h : Sees W 2 (some ⟨b, off, none⟩) 128 (flat encP l)) => copied_c b off c l W h
  have HH := Lib.hid h
  clear h
  go_enter Try.func18, Try.ntmps18
  go_wp2_with (first
    | (go_at_call 24; refine (CC _ HH.out).mono ?_; rintro e w5 ⟨rfl, ho, hb5⟩; have HB5 := Lib.hid hb5; have HO5 := Lib.hid ho; clear hb5 ho))
  go_ret2
  exact ⟨rfl, HO5.out, HB5.out⟩
set_option maxRecDepth 100000 in
set_option maxHeartbeats 4000000 in
theorem del_none (b off c : Nat) (l : List Pl) (g : OkL l) (hc0 : 128 ≤ c) (k : ByteArray) (hks : k.size ≤ 100000) (hz : noneS k = false) (hv : valL l k = none) (w : World) (h : Sees w 2 (some ⟨b, off, none⟩) 128 (flat encP l)) :
    Calls Try.prog 18 #[.slice (some ⟨b, off, none⟩) 128 c, .string k] w fun e w' => e = .returned (.tuple #[.slice (some ⟨w.heap.size, 0, none⟩) 128 128, .int .i64 120]) ∧ w'.ownsRow w.heap.size 47 2 (.slice (some ⟨w.heap.size, 0, none⟩) 128 128) 128 (flat encP l) ∧ Below w.heap.size w w' := by
  have CC := fun W (h : Sees W 2 (some ⟨b, off, none⟩) 128 (flat encP l)) => copied_c b off c l W h
  have CK := fun W (h : Sees W 2 (some ⟨b, off, none⟩) 128 (flat encP l)) => check_ok b off c l g hc0 W h
  obtain ⟨s0, hs, hsp⟩ := spot_some g k
  obtain ⟨hh, hhl⟩ := hN_home 128 (by omega) k
  have FC := fun W (h : Sees W 2 (some ⟨w.heap.size, 0, none⟩) 128 (flat encP l)) => find_c w.heap.size 0 128 128 l k hks (hN 128 k) s0 W h g.len (by omega) (by omega) hh hhl hs.1 hs.2.1 hs.2.2
  have hpl := spot_lt g k
  have hz3 := (spot_none g hz).2 hv
  rw [hsp] at FC
  obtain ⟨p, hpp⟩ : ∃ p, spotL l k = p := ⟨_, rfl⟩
  rw [hpp] at FC hpl hz3
  have hpi : (p : Int) < 128 := by omega
  have PC := fun (W : World) (h : W.ownsRow w.heap.size 47 2 (.slice (some ⟨w.heap.size, 0, none⟩) 128 128) 128 (flat encP l)) => own_place h (j := p) hpl
  obtain ⟨⟨s, x⟩, hp⟩ : ∃ p', atP l p = p' := ⟨_, rfl⟩
  rw [hp] at PC hz3
  dsimp only at PC hz3
  have hz2 : (k.toList == []) = false := hz
  have hz4 : (s.toList == []) = true := hz3
  have HH := Lib.hid h
  clear h g hh hhl hs hsp hpp hp hz hz3 hv
  go_enter Try.func18, Try.ntmps18
  go_wp2_with (first
    | (go_at_call 24; refine (CC _ HH.out).mono ?_; rintro e w5 ⟨rfl, ho, hb5⟩; have HB5 := Lib.hid hb5; have HS5 := Lib.hid (HH.out.below hb5); have HO5 := Lib.hid ho; clear hb5 ho)
    | (go_at_call 15; refine (CK _ HS5.out).mono ?_; rintro e w6 ⟨rfl, hb6⟩; have HB6 := Lib.hid (chain HB5.out hb6); have HO6 := Lib.hid (own_below' HO5.out hb6); obtain ⟨c0, c1, z0, z1, hgl⟩ := PC _ HO6.out; clear hb6)
    | (go_at_call 21; refine (FC _ (own_sees HO6.out).1).mono ?_; rintro e w8 ⟨rfl, rfl⟩))
  go_ret2
  exact ⟨rfl, HO6.out, HB6.out⟩
theorem later_sees {w : World} {p : After w} {k n : Nat} {A : Option Addr} {xs : List Value} (h : Sees w k A n xs) : Sees (later w p) k A n xs := h.below p.ok
set_option maxRecDepth 100000 in
set_option maxHeartbeats 4000000 in
theorem del_some (b off c : Nat) (l : List Pl) (g : OkL l) (hc0 : 128 ≤ c) (k : ByteArray) (hks : k.size ≤ 100000) (hz : noneS k = false) (hv : valL l k ≠ none) (w : World) (h : Sees w 2 (some ⟨b, off, none⟩) 128 (flat encP l)) :
    Calls Try.prog 18 #[.slice (some ⟨b, off, none⟩) 128 c, .string k] w fun e w' => ∃ l', DelR l k l' ∧ e = .returned (.tuple #[.slice (some ⟨w.heap.size, 0, none⟩) 128 128, .int .i64 0]) ∧ w'.ownsRow w.heap.size 47 2 (.slice (some ⟨w.heap.size, 0, none⟩) 128 128) 128 (flat encP l') ∧ Below w.heap.size w w' := by
  have CC := fun W (h : Sees W 2 (some ⟨b, off, none⟩) 128 (flat encP l)) => copied_c b off c l W h
  have CK := fun W (h : Sees W 2 (some ⟨b, off, none⟩) 128 (flat encP l)) => check_ok b off c l g hc0 W h
  obtain ⟨s0, hs, hsp⟩ := spot_some g k
  obtain ⟨hh, hhl⟩ := hN_home 128 (by omega) k
  have FC := fun W (h : Sees W 2 (some ⟨w.heap.size, 0, none⟩) 128 (flat encP l)) => find_c w.heap.size 0 128 128 l k hks (hN 128 k) s0 W h g.len (by omega) (by omega) hh hhl hs.1 hs.2.1 hs.2.2
  have hpl := spot_lt g k
  have hz3 : noneS (atP l (spotL l k)).1 = false := by
    cases hb : noneS (atP l (spotL l k)).1 with
    | false => rfl
    | true => exact absurd ((spot_none g hz).1 hb) hv
  obtain ⟨m0, LS⟩ := loop_start g hz hv
  have LD := Lib.hid (fun lr c I => loop_done g hz hv (lr := lr) (c := c) I)
  have HLen := Lib.hid g.len
  rw [hsp] at FC
  obtain ⟨p, hpp⟩ : ∃ p, spotL l k = p := ⟨_, rfl⟩
  rw [hpp] at FC hpl hz3 LS LD
  have hpi : (p : Int) < 128 := by omega
  have PC := fun (W : World) (h : W.ownsRow w.heap.size 47 2 (.slice (some ⟨w.heap.size, 0, none⟩) 128 128) 128 (flat encP l)) => own_place h (j := p) hpl
  obtain ⟨⟨s, x⟩, hp⟩ : ∃ p', atP l p = p' := ⟨_, rfl⟩
  rw [hp] at PC hz3
  dsimp only at PC hz3
  have hz2 : (k.toList == []) = false := hz
  have hz4 : (s.toList == []) = false := hz3
  have HH := Lib.hid h
  have HLS := Lib.hid LS
  clear h g hh hhl hs hsp hpp hp hz hz3 hv LS
  go_enter Try.func18, Try.ntmps18
  go_wp2_with (first
    | (go_at_call 24; refine (CC _ HH.out).mono ?_; rintro e w5 ⟨rfl, ho, hb5⟩; have HB5 := Lib.hid hb5; have HS5 := Lib.hid (HH.out.below hb5); have HO5 := Lib.hid ho; clear hb5 ho)
    | (go_at_call 15; refine (CK _ HS5.out).mono ?_; rintro e w6 ⟨rfl, hb6⟩; have HB6 := Lib.hid (chain HB5.out hb6); have HO6 := Lib.hid (own_below' HO5.out hb6); obtain ⟨c0, c1, z0, z1, hgl⟩ := PC _ HO6.out; clear hb6)
    | (go_at_call 21; refine (FC _ (own_sees HO6.out).1).mono ?_; rintro e w8 ⟨rfl, rfl⟩))
  obtain ⟨hO, hG⟩ := flat_set_pl l p (by rw [HLen.out]; exact hpl) ⟨#[]⟩ 0 HO6.out
  have HB7 := Lib.hid (HB6.out.grown hG (Nat.le_of_lt hgl) (fun j hj => by injection hj with hj; omega))
  have HO7 := Lib.hid hO
  have hp1 : ((p : Int) + 1) % 128 = ((posT 128 p 1 : Nat) : Int) := by unfold posT; omega
  rw [hp1]
  obtain ⟨e0, he0⟩ : ∃ e, posT 128 (posT 128 p 1) m0 = e := ⟨_, rfl⟩
  have HE0 := Lib.hid he0
  clear hO hG hp1 he0 c0 c1 z0 z1
  generalize (w6.setCell { block := w.heap.size, off := p * 2 } (Value.string { data := #[] })).setCell { block := w.heap.size, off := p * 2 + 1 } (Value.int IntKind.i64 0) = w7 at *
  obtain ⟨l0, hl0⟩ : ∃ l0, l0 = l.set p noP := ⟨_, rfl⟩
  have HO7' : Hid (w7.ownsRow w.heap.size 47 2 (.slice (some ⟨w.heap.size, 0, none⟩) 128 128) 128 (flat encP l0)) := Lib.hid (by rw [hl0]; exact HO7.out)
  have HLS' : Hid (LoopT l0 l0 (posT 128 p 1) m0) := Lib.hid (by rw [hl0]; exact HLS.out)
  have LD' : Hid (∀ lr c, LoopT l0 lr c 0 → DelR l k lr) := Lib.hid (by rw [hl0]; exact LD.out)
  clear HO7 HLS LD hl0 HO6 HO5 HB5 HB6 HS5 hpl hpi hgl HH HLen
  go_loopw [7] (fun i wr => ∃ (cc m : Nat) (lr : List Pl), i = .int .i64 (cc : Int) ∧ Hid (LoopT l0 lr cc m) ∧ Hid (posT 128 cc m = e0) ∧ Hid (wr.ownsRow w.heap.size 47 2 (.slice (some ⟨w.heap.size, 0, none⟩) 128 128) 128 (flat encP lr)) ∧ Hid (Below w.heap.size w wr)) (fun i _ => (e0 + 128 - (intOf i).toNat) % 128)
  case atStart => exact ⟨posT 128 p 1, m0, l0, rfl, HLS', HE0, HO7', HB7⟩
  case round =>
    obtain ⟨cc, m, lr, rfl, HI, HE, HO, HB⟩ := hrel
    have hcc := HI.out.lt
    have hci : (cc : Int) < 128 := by omega
    have hlz := loop_zero HI.out
    obtain ⟨c0, c1, z0, z1, hgl⟩ := own_place HO.out hcc
    obtain ⟨⟨s, x⟩, hp⟩ : ∃ p', atP lr cc = p' := ⟨_, rfl⟩
    have HP := Lib.hid hp
    rw [hp] at c0 c1 hlz
    dsimp only at c0 c1 hlz
    clear hp
    cases hz : noneS s with
    | true =>
      have hz2 : (s.toList == []) = true := hz
      obtain rfl := hlz.1 hz
      have HD := Lib.hid (LD'.out lr cc HI.out)
      clear hz hlz
      go_wp2_with fail
      go_ret2
      exact ⟨lr, HD.out, rfl, HO.out, HB.out⟩
    | false =>
      have hz2 : (s.toList == []) = false := hz
      have hm : m ≠ 0 := fun e => by have := hlz.2 e; rw [hz] at this; cases this
      obtain ⟨m', rfl⟩ : ∃ m', m = m' + 1 := ⟨m - 1, by omega⟩
      have hks2 : s.size ≤ 100000 := by
        rcases HI.out.cells cc hcc with ⟨h, _⟩ | h
        · rw [HP.out] at h; dsimp only at h; rw [hz] at h; cases h
        · rw [HP.out] at h; exact key_size h
      obtain ⟨s1, hs1⟩ := loop_first HI.out s
      have HSTEP := Lib.hid (loop_step HI.out HP.out hs1)
      have HLT := Lib.hid HI.out.inv.lt
      obtain ⟨hh, hhl⟩ := hN_home 128 (by omega) s
      have hlen : (lr.set cc noP).length = 128 := by rw [List.length_set]; exact HI.out.len
      have FC2 := fun W (h : Sees W 2 (some ⟨w.heap.size, 0, none⟩) 128 (flat encP (lr.set cc noP))) => find_c w.heap.size 0 128 128 _ s hks2 (hN 128 s) s1 W h hlen (by omega) (by omega) hh hhl hs1.1 hs1.2.1 hs1.2.2
      have hql : posT 128 (hN 128 s) s1 < 128 := posT_lt (by omega) _ _
      obtain ⟨q, hq⟩ : ∃ q, posT 128 (hN 128 s) s1 = q := ⟨_, rfl⟩
      rw [hq] at HSTEP FC2 hql
      have hqi : (q : Int) < 128 := by omega
      have HL2 := Lib.hid hlen
      have PC2 := fun (W : World) (h : W.ownsRow w.heap.size 47 2 (.slice (some ⟨w.heap.size, 0, none⟩) 128 128) 128 (flat encP (lr.set cc noP))) => own_place h (j := q) hql
      obtain ⟨hO0, hG0⟩ := flat_set_pl lr cc (by rw [HI.out.len]; exact hcc) ⟨#[]⟩ 0 HO.out
      have HO0 := Lib.hid hO0
      have HB0 := Lib.hid (HB.out.grown hG0 (Nat.le_of_lt hgl) (fun j hj => by injection hj with hj; omega))
      have hsz0 : ((wr.setCell { block := w.heap.size, off := cc * 2 } (Value.string { data := #[] })).setCell { block := w.heap.size, off := cc * 2 + 1 } (Value.int IntKind.i64 0)).heap.size = wr.heap.size := by simp
      clear hz hlz hm hs1 hh hhl hlen hq hO0 hG0
      go_wp2_with fail
      clear c0 c1 z0 z1 hql
      have HSZ0 := Lib.hid hsz0
      clear hsz0
      generalize (wr.setCell { block := w.heap.size, off := cc * 2 } (Value.string { data := #[] })).setCell { block := w.heap.size, off := cc * 2 + 1 } (Value.int IntKind.i64 0) = V0 at *
      rw [← HSZ0.out]
      have hx0 : (V0.alloc (.cells #[.string s, .int .i64 x] 47)).cell? ⟨V0.heap.size, 0, none⟩ = some (.string s) := by go_simp
      have hx1 : (V0.alloc (.cells #[.string s, .int .i64 x] 47)).cell? ⟨V0.heap.size, 1, none⟩ = some (.int .i64 x) := by go_simp
      have hbV : V0.heap.size < (V0.alloc (.cells #[.string s, .int .i64 x] 47)).heap.size := by simp
      have HOV := Lib.hid (own_below' HO0.out ((Below.refl V0.heap.size V0).alloc (Nat.le_refl _) (.cells #[.string s, .int .i64 x] 47)))
      have HBV := Lib.hid (chain1 HB0.out (.cells #[.string s, .int .i64 x] 47))
      clear HO0 HB0 HSZ0 HO HB HI HP
      generalize V0.alloc (.cells #[.string s, .int .i64 x] 47) = V at *
      (refine region_later_tail 7 (by kernel_rfl) (by kernel_rfl) ?_); (intro hlat); (simp only [List.take_succ_cons, List.take_zero, List.drop_succ_cons, List.drop_zero]); (repeat (go_big_quiet_step ((go_at_call 21; exact later_same (FC2 _ (later_sees (own_sees HOV.out).1)))))); (refine wpQuiet_nil ?_); (intro W1 hb1); (clear hlat)
      have HO1 := Lib.hid (own_below' HOV.out hb1)
      have HB1 := Lib.hid (chain HBV.out hb1)
      obtain ⟨d0, d1, y0, y1, hg1⟩ := PC2 _ HO1.out
      clear hb1 hx0 hx1 HOV HBV hbV hgl
      obtain ⟨hO3, hG3⟩ := flat_set_pl (lr.set cc noP) q (by rw [HL2.out]; omega) s x HO1.out
      have HO3 := Lib.hid hO3
      have HB3 := Lib.hid (HB1.out.grown hG3 (Nat.le_of_lt hg1) (fun j hj => by injection hj with hj; omega))
      clear hO3 hG3
      go_wp2_with fail
      have hc1 : ((cc : Int) + 1) % 128 = ((posT 128 cc 1 : Nat) : Int) := by unfold posT; omega
      have hml := HSTEP.out.inv.lt
      have he1 : posT 128 (posT 128 cc 1) m' = e0 := by rw [posT_add, Nat.add_comm]; exact HE.out
      have hb0 := posT_back (n := 128) (a := cc) (s := m' + 1) hcc (by
        have := HLT.out
        omega)
      have hb2 := posT_back (n := 128) (a := posT 128 cc 1) (s := m') (posT_lt (by omega) _ _) hml
      rw [HE.out] at hb0
      rw [he1] at hb2
      rw [hc1]
      refine ⟨⟨posT 128 cc 1, m', _, rfl, HSTEP, Lib.hid he1, HO3, HB3⟩, ?_⟩
      show (e0 + 128 - ((posT 128 cc 1 : Nat) : Int).toNat) % 128 < (e0 + 128 - ((cc : Nat) : Int).toNat) % 128
      rw [Int.toNat_natCast, Int.toNat_natCast, hb0, hb2]
      omega
end Go.Proofs.Try
