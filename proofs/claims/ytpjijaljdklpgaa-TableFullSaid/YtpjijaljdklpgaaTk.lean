/- table.Put (stage 13). -/
import Derived.Test.YtpjijaljdklpgaaTi
import Derived.Test.YtpjijaljdklpgaaTj
namespace Go.Proofs.Try
open Go.RowKit
set_option linter.unusedVariables false
set_option linter.unusedSimpArgs false
/-- Where the way of a key ends. -/
noncomputable def spotL (l : List Pl) (k : ByteArray) : Nat := by
  classical exact if h : ∃ s, FirstS l 128 k (hN 128 k) s then posT 128 (hN 128 k) (Classical.choose h) else 0
theorem spot_first {l : List Pl} {k : ByteArray} {s : Nat} (h : FirstS l 128 k (hN 128 k) s) : posT 128 (hN 128 k) s = spotL l k := by
  unfold spotL
  rw [dif_pos ⟨s, h⟩]
  exact congrArg _ (first_one h (Classical.choose_spec (⟨s, h⟩ : ∃ s, FirstS l 128 k (hN 128 k) s)))
theorem spot_some {l : List Pl} (g : OkL l) (k : ByteArray) : ∃ s, FirstS l 128 k (hN 128 k) s ∧ posT 128 (hN 128 k) s = spotL l k := by
  obtain ⟨e, he, hz⟩ := g.empty
  obtain ⟨s, hs⟩ := first_some (n := 128) (by omega) l k (hN 128 k) he hz
  exact ⟨s, hs, spot_first hs⟩
/-- What Put leaves, and its error. -/
noncomputable def putL (l : List Pl) (k : ByteArray) (v : Int) : List Pl × Int :=
  if isKey k = false then (l, 90) else if noneS (atP l (spotL l k)).1 = true ∧ fullN l = 96 then (l, 110) else (l.set (spotL l k) (k, v), 0)
theorem flat_set_pl {w : World} {base : Nat} {e : TypeId} {g n c : Nat} (l : List Pl) (j : Nat) (hj : j < l.length) (s : ByteArray) (x : Int) (h : w.ownsRow base e 2 (.slice (some ⟨g, 0, none⟩) n c) n (flat encP l)) :
    ((w.setCell ⟨g, j * 2, none⟩ (.string s)).setCell ⟨g, j * 2 + 1, none⟩ (.int .i64 x)).ownsRow base e 2 (.slice (some ⟨g, 0, none⟩) n c) n (flat encP (l.set j (s, x))) ∧
    w.grownBy ((w.setCell ⟨g, j * 2, none⟩ (.string s)).setCell ⟨g, j * 2 + 1, none⟩ (.int .i64 x)) (some g) := by
  obtain ⟨h1, g1⟩ := h.stored (j * 2) (.string s)
  obtain ⟨h2, g2⟩ := h1.stored (j * 2 + 1) (.int .i64 x)
  rw [flat_set2 encP_len l j (s, x) (a := .string s) (b := .int .i64 x) rfl hj]
  exact ⟨h2, g1.trans g2⟩
theorem own_sees {w : World} {base : Nat} {e : TypeId} {k g n c : Nat} {xs : List Value} (h : w.ownsRow base e k (.slice (some ⟨g, 0, none⟩) n c) n xs) : Sees w k (some ⟨g, 0, none⟩) n xs ∧ n ≤ c := by
  obtain ⟨A, c', he, hc, hs⟩ := Sees.of_own h
  injection he with e1 _ e3
  subst e1 e3
  exact ⟨hs, hc.2⟩
theorem own_place {w : World} {base : Nat} {e : TypeId} {g n c : Nat} {l : List Pl} (h : w.ownsRow base e 2 (.slice (some ⟨g, 0, none⟩) n c) n (flat encP l)) {j : Nat} (hj : j < n) :
    w.cell? ⟨g, j * 2, none⟩ = some (.string (atP l j).1) ∧ w.cell? ⟨g, j * 2 + 1, none⟩ = some (.int .i64 (atP l j).2) ∧ w.frozen? ⟨g, j * 2, none⟩ = false ∧ w.frozen? ⟨g, j * 2 + 1, none⟩ = false ∧ g < w.heap.size := by
  obtain ⟨hs, _⟩ := own_sees h
  have hl : l.length = n := hs.elen encP_len (by omega)
  obtain ⟨a, b⟩ := place_cells hs (j := j) (by omega)
  rw [Nat.zero_add] at a b
  exact ⟨a, b, h.frozenAt _, h.frozenAt _, World.block_lt_of_cell? w _ a⟩
set_option maxRecDepth 100000 in
set_option maxHeartbeats 4000000 in
theorem put_key (b off c : Nat) (l : List Pl) (g : OkL l) (hc0 : 128 ≤ c) (k : ByteArray) (v : Int) (hk : isKey k = false) (w : World) (h : Sees w 2 (some ⟨b, off, none⟩) 128 (flat encP l)) :
    Calls Try.prog 16 #[.slice (some ⟨b, off, none⟩) 128 c, .string k, .int .i64 v] w fun e w' => e = .returned (.tuple #[.slice (some ⟨w.heap.size, 0, none⟩) 128 128, .int .i64 90]) ∧ w'.ownsRow w.heap.size 47 2 (.slice (some ⟨w.heap.size, 0, none⟩) 128 128) 128 (flat encP l) ∧ Below w.heap.size w w' := by
  have CC := fun W (h : Sees W 2 (some ⟨b, off, none⟩) 128 (flat encP l)) => copied_c b off c l W h
  have CK := fun W (h : Sees W 2 (some ⟨b, off, none⟩) 128 (flat encP l)) => check_ok b off c l g hc0 W h
  have KC := fun W => key_c k W
  rw [hk] at KC
  have HH := Lib.hid h
  clear h g hk
  go_enter Try.func16, Try.ntmps16
  go_wp2_with (first
    | (go_at_call 24; refine (CC _ HH.out).mono ?_; rintro e w5 ⟨rfl, ho, hb5⟩; have HB5 := Lib.hid hb5; have HS5 := Lib.hid (HH.out.below hb5); have HO5 := Lib.hid ho; clear hb5 ho)
    | (go_at_call 15; refine (CK _ HS5.out).mono ?_; rintro e w6 ⟨rfl, hb6⟩; have HB6 := Lib.hid (chain HB5.out hb6); have HO6 := Lib.hid (own_below' HO5.out hb6); clear hb6)
    | (go_at_call 13; refine (KC _).mono ?_; rintro e w7 ⟨rfl, rfl⟩))
  go_ret2
  exact ⟨rfl, HO6.out, HB6.out⟩
set_option maxRecDepth 100000 in
set_option maxHeartbeats 4000000 in
theorem put_c (b off c : Nat) (l : List Pl) (g : OkL l) (hc0 : 128 ≤ c) (k : ByteArray) (v : Int) (w : World) (h : Sees w 2 (some ⟨b, off, none⟩) 128 (flat encP l)) :
    Calls Try.prog 16 #[.slice (some ⟨b, off, none⟩) 128 c, .string k, .int .i64 v] w fun e w' => e = .returned (.tuple #[.slice (some ⟨w.heap.size, 0, none⟩) 128 128, .int .i64 (putL l k v).2]) ∧ w'.ownsRow w.heap.size 47 2 (.slice (some ⟨w.heap.size, 0, none⟩) 128 128) 128 (flat encP (putL l k v).1) ∧ Below w.heap.size w w' := by
  cases hk : isKey k with
  | false =>
    have := put_key b off c l g hc0 k v hk w h
    unfold putL
    rw [if_pos hk]
    exact this
  | true =>
  have CC := fun W (h : Sees W 2 (some ⟨b, off, none⟩) 128 (flat encP l)) => copied_c b off c l W h
  have CK := fun W (h : Sees W 2 (some ⟨b, off, none⟩) 128 (flat encP l)) => check_ok b off c l g hc0 W h
  have KC := fun W => key_c k W
  rw [hk] at KC
  obtain ⟨s0, hs, hsp⟩ := spot_some g k
  obtain ⟨hh, hhl⟩ := hN_home 128 (by omega) k
  have FC := fun W (h : Sees W 2 (some ⟨w.heap.size, 0, none⟩) 128 (flat encP l)) => find_c w.heap.size 0 128 128 l k (key_size hk) (hN 128 k) s0 W h g.len (by omega) (by omega) hh hhl hs.1 hs.2.1 hs.2.2
  have hpl : posT 128 (hN 128 k) s0 < 128 := posT_lt (by omega) _ _
  have FU := fun W (h : Sees W 2 (some ⟨w.heap.size, 0, none⟩) 128 (flat encP l)) => full_c _ 128 l W ⟨_, 128, rfl, cap_some (Nat.le_refl _), by omega, g.len, h⟩
  have hE : putL l k v = if noneS (atP l (spotL l k)).1 = true ∧ fullN l = 96 then (l, 110) else (l.set (spotL l k) (k, v), 0) := by unfold putL; rw [if_neg (by rw [hk]; simp)]
  rw [← hsp] at hE
  obtain ⟨p, hpp⟩ : ∃ p, posT 128 (hN 128 k) s0 = p := ⟨_, rfl⟩
  rw [hpp] at FC hE hpl
  have hpi : (p : Int) < 128 := by omega
  have HLen := Lib.hid g.len
  obtain ⟨⟨s, x⟩, hp⟩ : ∃ p', atP l p = p' := ⟨_, rfl⟩
  rw [hp] at hE
  have PC := fun (W : World) (h : W.ownsRow w.heap.size 47 2 (.slice (some ⟨w.heap.size, 0, none⟩) 128 128) 128 (flat encP l)) => own_place h (j := p) hpl
  rw [hp] at PC
  dsimp only at hE PC
  obtain ⟨f, hf⟩ : ∃ f, fullN l = f := ⟨_, rfl⟩
  rw [hf] at FU hE
  have hfew := g.few
  rw [hf] at hfew
  have HH := Lib.hid h
  have HE := Lib.hid hE
  clear h g hk hh hhl hs hsp hpp hp hf hE
  cases hz : noneS s with
  | true =>
    have hz2 : (s.toList == []) = true := hz
    by_cases hf : f = 96
    · have hf1 : ((f : Int) == 96) = true := by simp; omega
      have HD := Lib.hid (HE.out.trans (if_pos ⟨hz, hf⟩))
      clear HE hz hf
      go_enter Try.func16, Try.ntmps16
      go_wp2_with (first
        | (go_at_call 24; refine (CC _ HH.out).mono ?_; rintro e w5 ⟨rfl, ho, hb5⟩; have HB5 := Lib.hid hb5; have HS5 := Lib.hid (HH.out.below hb5); have HO5 := Lib.hid ho; clear hb5 ho)
        | (go_at_call 15; refine (CK _ HS5.out).mono ?_; rintro e w6 ⟨rfl, hb6⟩; have HB6 := Lib.hid (chain HB5.out hb6); have HO6 := Lib.hid (own_below' HO5.out hb6); obtain ⟨c0, c1, z0, z1, hgl⟩ := PC _ HO6.out; clear hb6)
        | (go_at_call 13; refine (KC _).mono ?_; rintro e w7 ⟨rfl, rfl⟩)
        | (go_at_call 21; refine (FC _ (own_sees HO6.out).1).mono ?_; rintro e w8 ⟨rfl, rfl⟩)
        | (go_at_call 22; refine (FU _ (own_sees HO6.out).1).mono ?_; rintro e w9 ⟨rfl, hb9⟩; have HB9 := Lib.hid (chain HB6.out hb9); have HO9 := Lib.hid (own_below' HO6.out hb9); clear hb9))
      go_ret2
      rw [HD.out]
      exact ⟨rfl, HO9.out, HB9.out⟩
    · have hf1 : ((f : Int) == 96) = false := by simp; omega
      have HD := Lib.hid (HE.out.trans (if_neg (fun h => hf h.2)))
      clear HE hz hf
      go_enter Try.func16, Try.ntmps16
      go_wp2_with (first
        | (go_at_call 24; refine (CC _ HH.out).mono ?_; rintro e w5 ⟨rfl, ho, hb5⟩; have HB5 := Lib.hid hb5; have HS5 := Lib.hid (HH.out.below hb5); have HO5 := Lib.hid ho; clear hb5 ho)
        | (go_at_call 15; refine (CK _ HS5.out).mono ?_; rintro e w6 ⟨rfl, hb6⟩; have HB6 := Lib.hid (chain HB5.out hb6); have HO6 := Lib.hid (own_below' HO5.out hb6); obtain ⟨c0, c1, z0, z1, hgl⟩ := PC _ HO6.out; clear hb6)
        | (go_at_call 13; refine (KC _).mono ?_; rintro e w7 ⟨rfl, rfl⟩)
        | (go_at_call 21; refine (FC _ (own_sees HO6.out).1).mono ?_; rintro e w8 ⟨rfl, rfl⟩)
        | (go_at_call 22; refine (FU _ (own_sees HO6.out).1).mono ?_; rintro e w9 ⟨rfl, hb9⟩; have HB9 := Lib.hid (chain HB6.out hb9); have HO9 := Lib.hid (own_below' HO6.out hb9); clear hb9; obtain ⟨d0, d1, y0, y1, hgl9⟩ := PC _ HO9.out))
      obtain ⟨hO, hG⟩ := flat_set_pl l p (by rw [HLen.out]; exact hpl) k v HO9.out
      go_ret2
      rw [HD.out]
      exact ⟨rfl, hO, HB9.out.grown hG (Nat.le_of_lt hgl9) (fun j hj => by injection hj with hj; omega)⟩
  | false =>
    have hz2 : (s.toList == []) = false := hz
    have HD := Lib.hid (HE.out.trans (if_neg (fun h => by rw [hz] at h; cases h.1)))
    clear HE hz
    go_enter Try.func16, Try.ntmps16
    go_wp2_with (first
      | (go_at_call 24; refine (CC _ HH.out).mono ?_; rintro e w5 ⟨rfl, ho, hb5⟩; have HB5 := Lib.hid hb5; have HS5 := Lib.hid (HH.out.below hb5); have HO5 := Lib.hid ho; clear hb5 ho)
      | (go_at_call 15; refine (CK _ HS5.out).mono ?_; rintro e w6 ⟨rfl, hb6⟩; have HB6 := Lib.hid (chain HB5.out hb6); have HO6 := Lib.hid (own_below' HO5.out hb6); obtain ⟨c0, c1, z0, z1, hgl⟩ := PC _ HO6.out; clear hb6)
      | (go_at_call 13; refine (KC _).mono ?_; rintro e w7 ⟨rfl, rfl⟩)
      | (go_at_call 21; refine (FC _ (own_sees HO6.out).1).mono ?_; rintro e w8 ⟨rfl, rfl⟩))
    obtain ⟨hO, hG⟩ := flat_set_pl l p (by rw [HLen.out]; exact hpl) k v HO6.out
    go_ret2
    rw [HD.out]
    exact ⟨rfl, hO, HB6.out.grown hG (Nat.le_of_lt hgl) (fun j hj => by injection hj with hj; omega)⟩
end Go.Proofs.Try
