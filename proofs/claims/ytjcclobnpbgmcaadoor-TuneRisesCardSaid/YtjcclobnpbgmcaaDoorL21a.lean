/- The walk of TuneRises (stage 21). -/
import Derived.Test.YtjcclobnpbgmcaaDoorUm
import Derived.Test.YtjcclobnpbgmcaaDoorUn
import Derived.Test.YtjcclobnpbgmcaaDoorOpenC
namespace Go.Proofs.Tryd
open Go.RowKit Go.Sort
set_option linter.unusedVariables false
set_option linter.unusedSimpArgs false
/-- A member in a variable. -/
def SnAt (W : World) (g : Nat) (k : ByteArray) (x y : Int) : Prop := W.cell? ⟨g, 0, none⟩ = some (.string k) ∧ W.cell? ⟨g, 1, none⟩ = some (.int .i64 x) ∧ W.cell? ⟨g, 2, none⟩ = some (.int .i64 y) ∧ g < W.heap.size
theorem SnAt.below {W W' : World} {g : Nat} {k : ByteArray} {x y : Int} (h : SnAt W g k x y) (hb : Below W.heap.size W W') : SnAt W' g k x y :=
  ⟨(hb.cell (p := ⟨g, 0, none⟩) h.2.2.2).trans h.1, (hb.cell (p := ⟨g, 1, none⟩) h.2.2.2).trans h.2.1, (hb.cell (p := ⟨g, 2, none⟩) h.2.2.2).trans h.2.2.1, Nat.lt_of_lt_of_le h.2.2.2 hb.size⟩
theorem snAt_new (w : World) (k : ByteArray) (x y : Int) (t : TypeId) : SnAt (w.alloc (.cells #[.string k, .int .i64 x, .int .i64 y] t)) w.heap.size k x y := by
  have h := lit1 w (.cells #[.string k, .int .i64 x, .int .i64 y] t)
  have h0 := lit_at h 0
  have h1 := lit_at h 1
  have h2 := lit_at h 2
  exact ⟨h0, h1, h2, by show w.heap.size < (w.heap.push _).size; rw [Array.size_push]; omega⟩
set_option maxRecDepth 100000 in
set_option maxHeartbeats 8000000 in
theorem rises_few (A : Option Addr) (n c : Nat) (l : List Sn) (k : ByteArray) (x y : Int) (L a b m : Int) (hn : n ≤ maxLen) (hl : l.length = n) (hf : (fewN l && decide (n ≤ 30)) = false) (w : World) (hs : Sees w 3 A n (flat encN l)) (hT : Pows w) :
    Calls Tryd.prog 6 #[.slice A n c, .agg #[.string k, .int .i64 x, .int .i64 y], .int .u64 L, .int .u64 a, .int .u64 b, .int .u16 m] w fun e w' => e = .returned (.bool true) ∧ Below w.heap.size w w' := by
  have FC := fun W h => fewN_c A n c l 30 hn (by omega) W h hl
  have HS := Lib.hid (hs.below (belA w (.cells #[.string k, .int .i64 x, .int .i64 y] 25)))
  have HT := Lib.hid (hT.below (belA w (.cells #[.string k, .int .i64 x, .int .i64 y] 25)))
  have HB := Lib.hid (belA w (.cells #[.string k, .int .i64 x, .int .i64 y] 25))
  rw [hf] at FC
  clear hs hf hT
  go_enter Tryd.func6, Tryd.ntmps6
  go_wp2_with (first
    | (go_at_call 10; refine (awake21 _ HT.out).mono ?_; rintro e w1 ⟨rfl, hb1⟩; have HB1 := Lib.hid (chain HB.out hb1); replace HS := Lib.hid (HS.out.below hb1); clear hb1)
    | (go_at_call 11; refine (FC _ HS.out).mono ?_; rintro e w2 ⟨rfl, hb2⟩; have HB2 := Lib.hid (chain HB1.out hb2); clear hb2))
  go_ret
  exact ⟨rfl, HB2.out⟩
set_option maxRecDepth 100000 in
set_option maxHeartbeats 8000000 in
theorem rises_key (A : Option Addr) (n c : Nat) (l : List Sn) (k : ByteArray) (x y : Int) (L a b m : Int) (hn : n ≤ maxLen) (hl : l.length = n) (hf : (fewN l && decide (n ≤ 30)) = true) (hk : 100 < k.size) (w : World) (hs : Sees w 3 A n (flat encN l)) (hT : Pows w) :
    Calls Tryd.prog 6 #[.slice A n c, .agg #[.string k, .int .i64 x, .int .i64 y], .int .u64 L, .int .u64 a, .int .u64 b, .int .u16 m] w fun e w' => e = .returned (.bool true) ∧ Below w.heap.size w w' := by
  have FC := fun W h => fewN_c A n c l 30 hn (by omega) W h hl
  have HS := Lib.hid (hs.below (belA w (.cells #[.string k, .int .i64 x, .int .i64 y] 25)))
  have HT := Lib.hid (hT.below (belA w (.cells #[.string k, .int .i64 x, .int .i64 y] 25)))
  have HB := Lib.hid (belA w (.cells #[.string k, .int .i64 x, .int .i64 y] 25))
  rw [hf] at FC
  have qk1 : decide (100 < (k.size : Int)) = true := by simp; omega
  have qk2 : decide (100 < k.size) = true := by simp; omega
  have qk3 : (100 : Int) < (k.size : Int) := by omega
  clear hs hf hT hk
  go_enter Tryd.func6, Tryd.ntmps6
  go_wp2_with (first
    | (go_at_call 10; refine (awake21 _ HT.out).mono ?_; rintro e w1 ⟨rfl, hb1⟩; have HB1 := Lib.hid (chain HB.out hb1); have HA := Lib.hid ((snAt_new w k x y 25).below hb1); replace HS := Lib.hid (HS.out.below hb1); clear hb1)
    | (go_at_call 11; refine (FC _ HS.out).mono ?_; rintro e w2 ⟨rfl, hb2⟩; have HB2 := Lib.hid (chain HB1.out hb2); obtain ⟨c0, c1, c2, c3⟩ := HA.out.below hb2; clear hb2))
  go_ret
  exact ⟨rfl, HB2.out⟩
set_option maxRecDepth 100000 in
set_option maxHeartbeats 8000000 in
theorem rises_c (A : Option Addr) (n c : Nat) (l : List Sn) (k : ByteArray) (x y : Int) (L : Nat) (a b : Int) (m : Nat) (hcap : CapOk A n c) (hn : n ≤ 30) (hl : l.length = n) (hf : fewN l = true) (hk : k.size ≤ 100) (hx : x < 9223372036854775808) (hy : y < 9223372036854775808) (hL : L < 18446744073709551616) (ha : 0 ≤ a) (ha' : a < 18446744073709551616) (hb : 0 ≤ b) (hb' : b < 18446744073709551616) (hm : m < 65536) (w : World) (hs : Sees w 3 A n (flat encN l)) (hT : Pows w) :
    Calls Tryd.prog 6 #[.slice A n c, .agg #[.string k, .int .i64 x, .int .i64 y], .int .u64 (L : Int), .int .u64 a, .int .u64 b, .int .u16 (m : Int)] w fun e w' => e = .returned (.bool true) ∧ Below w.heap.size w w' := by
  have FC := fun W h => fewN_c A n c l 30 (by unfold maxLen; omega) (by omega) W h hl
  rw [hf, decide_eq_true hn] at FC
  obtain ⟨lo, hlo⟩ : ∃ lo, min a b = lo := ⟨_, rfl⟩
  obtain ⟨hi, hhi⟩ : ∃ hi, max a b = hi := ⟨_, rfl⟩
  obtain ⟨y', hy'⟩ : ∃ y', max y (m : Int) = y' := ⟨_, rfl⟩
  have b1 : 0 ≤ lo := by omega
  have b2 : lo ≤ hi := by omega
  have b3 : hi < 18446744073709551616 := by omega
  have b4 : y ≤ y' := by omega
  have b5 : y' < 9223372036854775808 := by omega
  have P1 := fun W h => part_c k x y hx hy L lo hL b1 (by omega) W h
  have P2 := fun W h => part_c k x y hx hy L hi hL (by omega) b3 W h
  have P3 := fun W h => part_c k x y hx hy L a hL ha ha' W h
  have P4 := fun W h => part_c k x y' hx b5 L a hL ha ha' W h
  have F1 := fun W h h' => fill_c (.slice A n c) n l L lo hL b1 (by omega) W h h'
  have F2 := fun W h h' => fill_c (.slice A n c) n l L hi hL (by omega) b3 W h h'
  have r1 := partF_time (k, x, y) L b1 b2
  have r2 := (partF_in (k, x, y) L hi (by omega)).2
  have r3 := partF_more k x L a ha b4
  have r4 := fillF_mono l L b1 b2
  generalize partF (k, x, y) L lo = p1 at *
  generalize partF (k, x, y) L hi = p2 at *
  generalize partF (k, x, y) L a = p3 at *
  generalize partF (k, x, y') L a = p4 at *
  generalize fillF l L lo = f1 at *
  generalize fillF l L hi = f2 at *
  have q1 : decide (p1 ≤ p2) = true := decide_eq_true r1
  have q2 : decide (p2 < 4294967296) = true := decide_eq_true r2
  have q3 : decide (p3 ≤ p4) = true := decide_eq_true r3
  have q4 : decide (f1 ≤ f2) = true := decide_eq_true r4
  have HR : Hid (Rows encN 3 w (.slice A n c) n l) := Lib.hid ⟨A, c, rfl, hcap, by omega, hl, hs⟩
  replace HR := Lib.hid (HR.out.below (belA w (.cells #[.string k, .int .i64 x, .int .i64 y] 25)))
  have HS := Lib.hid (hs.below (belA w (.cells #[.string k, .int .i64 x, .int .i64 y] 25)))
  have HT := Lib.hid (hT.below (belA w (.cells #[.string k, .int .i64 x, .int .i64 y] 25)))
  have HB := Lib.hid (belA w (.cells #[.string k, .int .i64 x, .int .i64 y] 25))
  have qk1 : decide (100 < (k.size : Int)) = false := by simp; omega
  have qk2 : decide (100 < k.size) = false := by simp; omega
  have qk3 : ¬(100 : Int) < (k.size : Int) := by omega
  clear hs hf hT hk
  go_enter Tryd.func6, Tryd.ntmps6
  go_wp2_with (first
    | (go_at_call 10; refine (awake21 _ HT.out).mono ?_; rintro e w1 ⟨rfl, hb1⟩; have HB1 := Lib.hid (chain HB.out hb1); have HA := Lib.hid ((snAt_new w k x y 25).below hb1); replace HS := Lib.hid (HS.out.below hb1); replace HR := Lib.hid (HR.out.below hb1); replace HT := Lib.hid (HT.out.below hb1); clear hb1)
    | (go_at_call 11; refine (FC _ HS.out).mono ?_; rintro e w2 ⟨rfl, hb2⟩; have HB2 := Lib.hid (chain HB1.out hb2); have HA2 := Lib.hid (HA.out.below hb2); obtain ⟨c0, c1, c2, c3⟩ := HA2.out; replace HT := Lib.hid (HT.out.below hb2); replace HR := Lib.hid (HR.out.below hb2); clear hb2))
  have hnew := snAt_new w2 k x y' 25
  have hold := HA2.out.below (belA w2 (.cells #[.string k, .int .i64 x, .int .i64 y'] 25))
  replace HT := Lib.hid (HT.out.below (belA w2 (.cells #[.string k, .int .i64 x, .int .i64 y'] 25)))
  replace HR := Lib.hid (HR.out.below (belA w2 (.cells #[.string k, .int .i64 x, .int .i64 y'] 25)))
  have HB3 := Lib.hid (chain HB2.out (belA w2 (.cells #[.string k, .int .i64 x, .int .i64 y'] 25)))
  clear c0 c1 c2
  generalize w2.alloc (.cells #[.string k, .int .i64 x, .int .i64 y'] 25) = V at *
  obtain ⟨c0, c1, c2, c4⟩ := hold
  obtain ⟨d0, d1, d2, d4⟩ := hnew
  clear b1 b2 b4 r1 r2 r3 r4 hlo hhi hy'
  (refine region_later (by kernel_rfl) (by kernel_rfl) ?_); (intro hlat); (repeat (go_big_quiet_step ((first | (go_at_call 17; with_reducible exact later_call (P1 _ (HT.out.below (later_below _ _)))) | (go_at_call 17; with_reducible exact later_call (P2 _ (HT.out.below (later_below _ _)))) | (go_at_call 17; with_reducible exact later_call (P3 _ (HT.out.below (later_below _ _)))) | (go_at_call 17; with_reducible exact later_call (P4 _ (HT.out.below (later_below _ _)))) | (go_at_call 19; with_reducible exact later_call (F1 _ (HR.out.below (later_below _ _)) (HT.out.below (later_below _ _)))) | (go_at_call 19; with_reducible exact later_call (F2 _ (HR.out.below (later_below _ _)) (HT.out.below (later_below _ _)))))))); (refine wpQuiet_nil ?_); (intro W1 hbl); (clear hlat)
  go_wp2_with fail
  go_ret
  exact ⟨rfl, chain HB3.out hbl⟩
theorem walk_TuneRises (v0 : Value) (s : Sn) (L a b m : Int) (q : okSn s) (w2 : (Lit.int .u64 L).wf = true) (w3 : (Lit.int .u64 a).wf = true) (w4 : (Lit.int .u64 b).wf = true) (w5 : (Lit.int .u16 m).wf = true) (w : World) (hT : Pows w) (o0 : RowIn encN 3 okSn w v0) :
    Calls Tryd.prog 6 #[v0, .agg (encN s).toArray, .int .u64 L, .int .u64 a, .int .u64 b, .int .u16 m] w fun e w' => e = .returned (.bool true) ∧ Below w.heap.size w w' := by
  obtain ⟨A, n, c, l, rfl, hc, hn, hl, _, hs⟩ := o0
  obtain ⟨k, x, y⟩ := s
  obtain ⟨qx, qy⟩ := q
  obtain ⟨_, bx⟩ := bounds_i64 qx
  obtain ⟨_, by_⟩ := bounds_i64 qy
  obtain ⟨p2, p2'⟩ := bounds_u64 w2
  obtain ⟨p3, p3'⟩ := bounds_u64 w3
  obtain ⟨p4, p4'⟩ := bounds_u64 w4
  obtain ⟨p5, p5'⟩ := bounds_u16 w5
  obtain ⟨L, rfl⟩ := Int.eq_ofNat_of_zero_le p2
  obtain ⟨m, rfl⟩ := Int.eq_ofNat_of_zero_le p5
  cases hf : (fewN l && decide (n ≤ 30)) with
  | false => exact rises_few A n c l k x y L a b m hn hl hf w hs hT
  | true =>
    by_cases hk : 100 < k.size
    · exact rises_key A n c l k x y L a b m hn hl hf hk w hs hT
    · rw [Bool.and_eq_true, decide_eq_true_iff] at hf
      exact rises_c A n c l k x y L a b m hc hf.2 hl hf.1 (by omega) (by dsimp only at bx; omega) (by dsimp only at by_; omega) (by omega) p3 (by omega) p4 (by omega) (by omega) w hs hT
end Go.Proofs.Tryd
