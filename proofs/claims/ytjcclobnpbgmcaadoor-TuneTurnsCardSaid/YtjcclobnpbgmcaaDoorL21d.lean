/- The walk of TuneTurns (stage 21; by tools/gen/g21d.py). -/
import Derived.Test.YtjcclobnpbgmcaaDoorUm
import Derived.Test.YtjcclobnpbgmcaaDoorUp
import Derived.Test.YtjcclobnpbgmcaaDoorOpenC
namespace Go.Proofs.Tryd
open Go.RowKit Go.Sort
set_option linter.unusedVariables false
set_option linter.unusedSimpArgs false
set_option maxRecDepth 100000 in
set_option maxHeartbeats 8000000 in
theorem turns_few (A : Option Addr) (n c : Nat) (l : List Sn) (a b : ByteArray) (x y : Int) (hcap : CapOk A n c) (hn : n ≤ maxLen) (hl : l.length = n) (hf : (fewN l && decide (n ≤ 30)) = false) (w : World) (hs : Sees w 3 A n (flat encN l)) (hT : Pows w) :
    Calls Tryd.prog 9 #[.slice A n c, .string a, .int .i64 x, .string b, .int .i64 y] w fun e w' => e = .returned (.bool true) ∧ Below w.heap.size w w' := by
  have FC := fun W h => fewN_c A n c l 30 hn (by omega) W h hl
  rw [hf] at FC
  have HS := Lib.hid hs
  have HT := Lib.hid hT
  clear hs hf hT
  go_enter Tryd.func9, Tryd.ntmps9
  go_wp2_with (first
    | (go_at_call 10; refine (awake21 _ HT.out).mono ?_; rintro e w1 ⟨rfl, hb1⟩; have HB1 := Lib.hid hb1; replace HS := Lib.hid (HS.out.below hb1); clear hb1)
    | (go_at_call 11; refine (FC _ HS.out).mono ?_; rintro e w2 ⟨rfl, hb2⟩; have HB2 := Lib.hid (chain HB1.out hb2); clear hb2))
  go_ret
  exact ⟨rfl, HB2.out⟩
set_option maxRecDepth 100000 in
set_option maxHeartbeats 8000000 in
theorem turns_a (A : Option Addr) (n c : Nat) (l : List Sn) (a b : ByteArray) (x y : Int) (hcap : CapOk A n c) (hn : n ≤ maxLen) (hl : l.length = n) (hf : (fewN l && decide (n ≤ 30)) = true) (ha : 100 < a.size) (w : World) (hs : Sees w 3 A n (flat encN l)) (hT : Pows w) :
    Calls Tryd.prog 9 #[.slice A n c, .string a, .int .i64 x, .string b, .int .i64 y] w fun e w' => e = .returned (.bool true) ∧ Below w.heap.size w w' := by
  have FC := fun W h => fewN_c A n c l 30 hn (by omega) W h hl
  rw [hf] at FC
  have HS := Lib.hid hs
  have HT := Lib.hid hT
  clear hs hf hT
  have qa1 : decide (100 < (a.size : Int)) = true := by simp; omega
  have qa2 : decide (100 < a.size) = true := by simp; omega
  have qa3 : (100 : Int) < (a.size : Int) := by omega
  clear ha
  go_enter Tryd.func9, Tryd.ntmps9
  go_wp2_with (first
    | (go_at_call 10; refine (awake21 _ HT.out).mono ?_; rintro e w1 ⟨rfl, hb1⟩; have HB1 := Lib.hid hb1; replace HS := Lib.hid (HS.out.below hb1); clear hb1)
    | (go_at_call 11; refine (FC _ HS.out).mono ?_; rintro e w2 ⟨rfl, hb2⟩; have HB2 := Lib.hid (chain HB1.out hb2); clear hb2))
  go_ret
  exact ⟨rfl, HB2.out⟩
set_option maxRecDepth 100000 in
set_option maxHeartbeats 8000000 in
theorem turns_b (A : Option Addr) (n c : Nat) (l : List Sn) (a b : ByteArray) (x y : Int) (hcap : CapOk A n c) (hn : n ≤ maxLen) (hl : l.length = n) (hf : (fewN l && decide (n ≤ 30)) = true) (ha : a.size ≤ 100) (hb : 100 < b.size) (w : World) (hs : Sees w 3 A n (flat encN l)) (hT : Pows w) :
    Calls Tryd.prog 9 #[.slice A n c, .string a, .int .i64 x, .string b, .int .i64 y] w fun e w' => e = .returned (.bool true) ∧ Below w.heap.size w w' := by
  have FC := fun W h => fewN_c A n c l 30 hn (by omega) W h hl
  rw [hf] at FC
  have HS := Lib.hid hs
  have HT := Lib.hid hT
  clear hs hf hT
  have qa1 : decide (100 < (a.size : Int)) = false := by simp; omega
  have qa2 : decide (100 < a.size) = false := by simp; omega
  have qa3 : ¬(100 : Int) < (a.size : Int) := by omega
  have qb1 : decide (100 < (b.size : Int)) = true := by simp; omega
  have qb2 : decide (100 < b.size) = true := by simp; omega
  have qb3 : (100 : Int) < (b.size : Int) := by omega
  clear ha hb
  go_enter Tryd.func9, Tryd.ntmps9
  go_wp2_with (first
    | (go_at_call 10; refine (awake21 _ HT.out).mono ?_; rintro e w1 ⟨rfl, hb1⟩; have HB1 := Lib.hid hb1; replace HS := Lib.hid (HS.out.below hb1); clear hb1)
    | (go_at_call 11; refine (FC _ HS.out).mono ?_; rintro e w2 ⟨rfl, hb2⟩; have HB2 := Lib.hid (chain HB1.out hb2); clear hb2))
  go_ret
  exact ⟨rfl, HB2.out⟩
set_option maxRecDepth 100000 in
set_option maxHeartbeats 8000000 in
theorem turns_chk (A : Option Addr) (n c : Nat) (l : List Sn) (a b : ByteArray) (x y : Int) (hcap : CapOk A n c) (hn : n ≤ maxLen) (hl : l.length = n) (hf : (fewN l && decide (n ≤ 30)) = true) (hn2 : n ≤ 30) (ha : a.size ≤ 100) (hb : b.size ≤ 100) (hc : chkN l = false) (w : World) (hs : Sees w 3 A n (flat encN l)) (hT : Pows w) :
    Calls Tryd.prog 9 #[.slice A n c, .string a, .int .i64 x, .string b, .int .i64 y] w fun e w' => e = .returned (.bool true) ∧ Below w.heap.size w w' := by
  have FC := fun W h => fewN_c A n c l 30 hn (by omega) W h hl
  rw [hf] at FC
  have HS := Lib.hid hs
  have HT := Lib.hid hT
  have HR : Hid (Rows encN 3 w (.slice A n c) n l) := Lib.hid ⟨A, c, rfl, hcap, by omega, hl, hs⟩
  have CK := fun W h => tcheck_c (.slice A n c) n l W h
  rw [hc] at CK
  clear hs hf hT hc
  have qa1 : decide (100 < (a.size : Int)) = false := by simp; omega
  have qa2 : decide (100 < a.size) = false := by simp; omega
  have qa3 : ¬(100 : Int) < (a.size : Int) := by omega
  have qb1 : decide (100 < (b.size : Int)) = false := by simp; omega
  have qb2 : decide (100 < b.size) = false := by simp; omega
  have qb3 : ¬(100 : Int) < (b.size : Int) := by omega
  clear ha hb
  go_enter Tryd.func9, Tryd.ntmps9
  go_wp2_with (first
    | (go_at_call 10; refine (awake21 _ HT.out).mono ?_; rintro e w1 ⟨rfl, hb1⟩; have HB1 := Lib.hid hb1; replace HS := Lib.hid (HS.out.below hb1); replace HR := Lib.hid (HR.out.below hb1); clear hb1)
    | (go_at_call 11; refine (FC _ HS.out).mono ?_; rintro e w2 ⟨rfl, hb2⟩; have HB2 := Lib.hid (chain HB1.out hb2); replace HR := Lib.hid (HR.out.below hb2); clear hb2)
    | (go_at_call 12; refine (CK _ HR.out).mono ?_; rintro e w3 ⟨rfl, hb3⟩; have HB3 := Lib.hid (chain HB2.out hb3); replace HR := Lib.hid (HR.out.below hb3); clear hb3))
  go_ret
  exact ⟨rfl, HB3.out⟩
set_option maxRecDepth 100000 in
set_option maxHeartbeats 8000000 in
theorem turns_same (A : Option Addr) (n c : Nat) (l : List Sn) (a : ByteArray) (x y : Int) (hcap : CapOk A n c) (hn : n ≤ maxLen) (hl : l.length = n) (hf : (fewN l && decide (n ≤ 30)) = true) (hn2 : n ≤ 30) (ha : a.size ≤ 100) (hc : chkN l = true) (w : World) (hs : Sees w 3 A n (flat encN l)) (hT : Pows w) :
    Calls Tryd.prog 9 #[.slice A n c, .string a, .int .i64 x, .string a, .int .i64 y] w fun e w' => e = .returned (.bool true) ∧ Below w.heap.size w w' := by
  have FC := fun W h => fewN_c A n c l 30 hn (by omega) W h hl
  rw [hf] at FC
  have HS := Lib.hid hs
  have HT := Lib.hid hT
  have HR : Hid (Rows encN 3 w (.slice A n c) n l) := Lib.hid ⟨A, c, rfl, hcap, by omega, hl, hs⟩
  have CK := fun W h => tcheck_c (.slice A n c) n l W h
  rw [hc] at CK
  obtain ⟨la1, la2⟩ := note_len hc (by omega) a x
  obtain ⟨lx1, lx2⟩ := note_len (note_chk hc (by omega) a x) (by omega) a y
  have NA := fun W h => note_c (.slice A n c) n l a x W h
  have NB := fun W h => note_c (.slice A n c) n l a y W h
  have NAB := fun v n W h => note_c v n (noteN l a x) a y W h
  have NBA := fun v n W h => note_c v n (noteN l a y) a x W h
  unfold NoteP at NA NB NAB NBA
  obtain ⟨l1, hl1⟩ : ∃ l1, noteN l a x = l1 := ⟨_, rfl⟩
  rw [hl1] at NA NAB la1 la2 lx1 lx2
  obtain ⟨l2, hl2⟩ : ∃ l2, noteN l1 a y = l2 := ⟨_, rfl⟩
  rw [hl2] at NAB lx1 lx2
  rw [hl] at la1 la2
  have LX := Lib.hid (show n ≤ l2.length ∧ l2.length ≤ n + 2 by omega)
  clear hs hf hT hc hl1 hl2 la1 la2 lx1 lx2
  have qa1 : decide (100 < (a.size : Int)) = false := by simp; omega
  have qa2 : decide (100 < a.size) = false := by simp; omega
  have qa3 : ¬(100 : Int) < (a.size : Int) := by omega
  clear ha
  go_enter Tryd.func9, Tryd.ntmps9
  go_wp2_with (first
    | (go_at_call 10; refine (awake21 _ HT.out).mono ?_; rintro e w1 ⟨rfl, hb1⟩; have HB1 := Lib.hid hb1; replace HS := Lib.hid (HS.out.below hb1); replace HR := Lib.hid (HR.out.below hb1); clear hb1)
    | (go_at_call 11; refine (FC _ HS.out).mono ?_; rintro e w2 ⟨rfl, hb2⟩; have HB2 := Lib.hid (chain HB1.out hb2); replace HR := Lib.hid (HR.out.below hb2); clear hb2)
    | (go_at_call 12; refine (CK _ HR.out).mono ?_; rintro e w3 ⟨rfl, hb3⟩; have HB3 := Lib.hid (chain HB2.out hb3); replace HR := Lib.hid (HR.out.below hb3); clear hb3))
  refine (NA _ HR.out).mono ?_
  rintro e w4 ⟨u4, n4, rfl, r4, hb4⟩
  have R1 := Lib.hid r4
  replace HR := Lib.hid (HR.out.below hb4)
  have HB4 := Lib.hid (chain HB3.out hb4)
  clear hb4 r4
  go_wp2_with fail
  refine (NAB _ _ _ R1.out).mono ?_
  rintro e w5 ⟨u5, n5, rfl, r5, hb5⟩
  have RX := Lib.hid r5
  replace HR := Lib.hid (HR.out.below hb5)
  have HB5 := Lib.hid (chain HB4.out hb5)
  clear hb5 r5
  go_wp2_with fail
  refine (NB _ HR.out).mono ?_
  rintro e w6 ⟨u6, n6, rfl, r6, hb6⟩
  have R3 := Lib.hid r6
  replace RX := Lib.hid (RX.out.below hb6)
  have HB6 := Lib.hid (chain HB5.out hb6)
  clear hb6 r6
  go_wp2_with fail
  refine (NBA _ _ _ R3.out).mono ?_
  rintro e w7 ⟨u7, n7, rfl, r7, hb7⟩
  have RY := Lib.hid r7
  replace RX := Lib.hid (RX.out.below hb7)
  have HB7 := Lib.hid (chain HB6.out hb7)
  clear hb7 r7
  obtain ⟨hx1, hx2⟩ := LX.out
  rw [RX.out.len] at hx1 hx2
  obtain ⟨A5, c5, rfl, _⟩ := RX.out
  have qd0 : IntKind.i64.wrap ((n5 : Int) - (n : Int)) = (n5 : Int) - (n : Int) := by rw [IntKind.wrap_i64]; omega
  have qd1 : wrap64 ((n5 : Int) - (n : Int)) = (n5 : Int) - (n : Int) := by unfold wrap64; omega
  have qd2 : (n5 : Int) - (n : Int) ≤ 2 := by omega
  have qd3 : decide ((n5 : Int) - (n : Int) ≤ 2) = true := decide_eq_true qd2
  have qd4 : (n : Int) ≤ (n5 : Int) := by omega
  have qd5 : decide ((n : Int) ≤ (n5 : Int)) = true := decide_eq_true qd4
  go_wp2_with fail
  go_ret
  exact ⟨rfl, HB7.out⟩
set_option maxRecDepth 100000 in
set_option maxHeartbeats 8000000 in
theorem turns_unlike (A : Option Addr) (n c : Nat) (l : List Sn) (a b : ByteArray) (x y : Int) (hcap : CapOk A n c) (hn : n ≤ maxLen) (hl : l.length = n) (hf : (fewN l && decide (n ≤ 30)) = true) (hn2 : n ≤ 30) (ha : a.size ≤ 100) (hb : b.size ≤ 100) (hab : a ≠ b) (hc : chkN l = true) (w : World) (hs : Sees w 3 A n (flat encN l)) (hT : Pows w) :
    Calls Tryd.prog 9 #[.slice A n c, .string a, .int .i64 x, .string b, .int .i64 y] w fun e w' => e = .returned (.bool true) ∧ Below w.heap.size w w' := by
  have FC := fun W h => fewN_c A n c l 30 hn (by omega) W h hl
  rw [hf] at FC
  have HS := Lib.hid hs
  have HT := Lib.hid hT
  have HR : Hid (Rows encN 3 w (.slice A n c) n l) := Lib.hid ⟨A, c, rfl, hcap, by omega, hl, hs⟩
  have CK := fun W h => tcheck_c (.slice A n c) n l W h
  rw [hc] at CK
  obtain ⟨la1, la2⟩ := note_len hc (by omega) a x
  obtain ⟨lx1, lx2⟩ := note_len (note_chk hc (by omega) a x) (by omega) b y
  have NA := fun W h => note_c (.slice A n c) n l a x W h
  have NB := fun W h => note_c (.slice A n c) n l b y W h
  have NAB := fun v n W h => note_c v n (noteN l a x) b y W h
  have NBA := fun v n W h => note_c v n (noteN l b y) a x W h
  have TU := note_turns hc (by omega) hab x y
  unfold NoteP at NA NB NAB NBA
  obtain ⟨l1, hl1⟩ : ∃ l1, noteN l a x = l1 := ⟨_, rfl⟩
  rw [hl1] at NA NAB la1 la2 lx1 lx2
  obtain ⟨l2, hl2⟩ : ∃ l2, noteN l1 b y = l2 := ⟨_, rfl⟩
  rw [hl2] at NAB lx1 lx2
  rw [hl1, hl2] at TU
  rw [← TU] at NBA
  rw [hl] at la1 la2
  have LX := Lib.hid (show n ≤ l2.length ∧ l2.length ≤ n + 2 by omega)
  clear hs hf hT hc hl1 hl2 la1 la2 lx1 lx2
  have qa1 : decide (100 < (a.size : Int)) = false := by simp; omega
  have qa2 : decide (100 < a.size) = false := by simp; omega
  have qa3 : ¬(100 : Int) < (a.size : Int) := by omega
  have qb1 : decide (100 < (b.size : Int)) = false := by simp; omega
  have qb2 : decide (100 < b.size) = false := by simp; omega
  have qb3 : ¬(100 : Int) < (b.size : Int) := by omega
  have qe1 : decide (a = b) = false := decide_eq_false hab
  clear ha hb hab TU
  go_enter Tryd.func9, Tryd.ntmps9
  go_wp2_with (first
    | (go_at_call 10; refine (awake21 _ HT.out).mono ?_; rintro e w1 ⟨rfl, hb1⟩; have HB1 := Lib.hid hb1; replace HS := Lib.hid (HS.out.below hb1); replace HR := Lib.hid (HR.out.below hb1); clear hb1)
    | (go_at_call 11; refine (FC _ HS.out).mono ?_; rintro e w2 ⟨rfl, hb2⟩; have HB2 := Lib.hid (chain HB1.out hb2); replace HR := Lib.hid (HR.out.below hb2); clear hb2)
    | (go_at_call 12; refine (CK _ HR.out).mono ?_; rintro e w3 ⟨rfl, hb3⟩; have HB3 := Lib.hid (chain HB2.out hb3); replace HR := Lib.hid (HR.out.below hb3); clear hb3))
  refine (NA _ HR.out).mono ?_
  rintro e w4 ⟨u4, n4, rfl, r4, hb4⟩
  have R1 := Lib.hid r4
  replace HR := Lib.hid (HR.out.below hb4)
  have HB4 := Lib.hid (chain HB3.out hb4)
  clear hb4 r4
  go_wp2_with fail
  refine (NAB _ _ _ R1.out).mono ?_
  rintro e w5 ⟨u5, n5, rfl, r5, hb5⟩
  have RX := Lib.hid r5
  replace HR := Lib.hid (HR.out.below hb5)
  have HB5 := Lib.hid (chain HB4.out hb5)
  clear hb5 r5
  go_wp2_with fail
  refine (NB _ HR.out).mono ?_
  rintro e w6 ⟨u6, n6, rfl, r6, hb6⟩
  have R3 := Lib.hid r6
  replace RX := Lib.hid (RX.out.below hb6)
  have HB6 := Lib.hid (chain HB5.out hb6)
  clear hb6 r6
  go_wp2_with fail
  refine (NBA _ _ _ R3.out).mono ?_
  rintro e w7 ⟨u7, n7, rfl, r7, hb7⟩
  have RY := Lib.hid r7
  replace RX := Lib.hid (RX.out.below hb7)
  have HB7 := Lib.hid (chain HB6.out hb7)
  clear hb7 r7
  obtain ⟨hx1, hx2⟩ := LX.out
  rw [RX.out.len] at hx1 hx2
  obtain ⟨A5, c5, rfl, _⟩ := RX.out
  have qd0 : IntKind.i64.wrap ((n5 : Int) - (n : Int)) = (n5 : Int) - (n : Int) := by rw [IntKind.wrap_i64]; omega
  have qd1 : wrap64 ((n5 : Int) - (n : Int)) = (n5 : Int) - (n : Int) := by unfold wrap64; omega
  have qd2 : (n5 : Int) - (n : Int) ≤ 2 := by omega
  have qd3 : decide ((n5 : Int) - (n : Int) ≤ 2) = true := decide_eq_true qd2
  have qd4 : (n : Int) ≤ (n5 : Int) := by omega
  have qd5 : decide ((n : Int) ≤ (n5 : Int)) = true := decide_eq_true qd4
  obtain rfl : n7 = n5 := by rw [← RY.out.len, RX.out.len]
  have SA := fun W h1 h2 => sameN_c (.slice A5 n7 c5) u7 n7 l2 W h1 h2
  go_wp2_with fail
  · go_ret
    exact ⟨rfl, HB7.out⟩
  · refine (SA _ RX.out RY.out).mono ?_
    rintro e w8 ⟨rfl, hb8⟩
    have HB8 := Lib.hid (chain HB7.out hb8)
    clear hb8
    go_wp2_with fail
    go_ret
    exact ⟨rfl, HB8.out⟩
theorem walk_TuneTurns (v0 : Value) (a : ByteArray) (x : Int) (b : ByteArray) (y : Int) (w1 : a.size ≤ maxLen) (w2 : (Lit.int .i64 x).wf = true) (w3 : b.size ≤ maxLen) (w4 : (Lit.int .i64 y).wf = true) (w : World) (hT : Pows w) (o0 : RowIn encN 3 okSn w v0) :
    Calls Tryd.prog 9 #[v0, .string a, .int .i64 x, .string b, .int .i64 y] w fun e w' => e = .returned (.bool true) ∧ Below w.heap.size w w' := by
  obtain ⟨A, n, c, l, rfl, hc, hn, hl, _, hs⟩ := o0
  cases hf : (fewN l && decide (n ≤ 30)) with
  | false => exact turns_few A n c l a b x y hc hn hl hf w hs hT
  | true =>
    have hn2 : n ≤ 30 := by rw [Bool.and_eq_true, decide_eq_true_iff] at hf; exact hf.2
    by_cases ha : 100 < a.size
    · exact turns_a A n c l a b x y hc hn hl hf ha w hs hT
    · by_cases hb : 100 < b.size
      · exact turns_b A n c l a b x y hc hn hl hf (by omega) hb w hs hT
      · cases hk : chkN l with
        | false => exact turns_chk A n c l a b x y hc hn hl hf hn2 (by omega) (by omega) hk w hs hT
        | true =>
          by_cases hab : a = b
          · subst hab
            exact turns_same A n c l a x y hc hn hl hf hn2 (by omega) hk w hs hT
          · exact turns_unlike A n c l a b x y hc hn hl hf hn2 (by omega) (by omega) hab hk w hs hT
end Go.Proofs.Tryd
