/- arena.Take. -/
import Derived.Test.YtempamkacnjhjaaDoorAr6
namespace Go.Proofs.Tryd
open Go.RowKit
set_option linter.unusedVariables false
set_option linter.unusedSimpArgs false
theorem slN_cls (c : Int) (h : slN c ≠ 0) : 0 ≤ c ∧ c ≤ 3 := by
  unfold slN at h
  repeat' split at h
  all_goals omega
theorem seek_c (v : Value) (n : Nat) (l : List Sg) (c : Int) (hc : 0 ≤ c ∧ c ≤ 3) (w : World) (h : Segs w v n l) (hT : Deb w) :
    Calls Tryd.prog 15 #[v, .int .i64 c] w fun e w' => e = .returned (.tuple #[.agg #[.int .i64 (skI (seekL l c)), .int .i64 (skK (seekL l c))], .bool (seekL l c).isSome]) ∧ Below w.heap.size w w' := by
  obtain ⟨A, cc, rfl, hcc, hn, hl, hu, hs⟩ := h
  rcases hs.2 with h0 | ⟨b, off, rfl, _, _⟩
  · subst h0
    obtain rfl : l = [] := List.eq_nil_of_length_eq_zero hl
    clear hs hcc hl hu hT
    have HR : seekL [] c = none := rfl
    rw [HR]
    go_enter Tryd.func15, Tryd.ntmps15
    go_wp2_with fail
    go_step3
    go_wp2_with fail
    go_step3
    go_wp2_with fail
    go_loop [7, 14] (fun f i => f = .bool false ∧ i = .int .i64 0) (fun _ _ => 0)
    case atStart => exact ⟨rfl, rfl⟩
    case round =>
      obtain ⟨rfl, rfl⟩ := hrel
      go_wp2_with fail
      (try rw [Exit.noGoto_ret])
      refine bodyPost_ret (by simp [results, Tryd.results15, go_sem, World.heap]; try rfl) rfl ?_
      exact ⟨rfl, by (repeat' (first | (with_reducible exact Below.refl _ _) | (with_reducible assumption) | (with_reducible refine Below.alloc ?_ ?_ _) | (with_reducible refine Below.drew ?_) | (with_reducible refine Below_drewN ?_ _) | (with_reducible refine Below.setCell ?_ ?_ _) | (refine Below.step (B' := ?_) (b := ?_) ?_ ?_ ?_; rotate_left 2; (with_reducible assumption)) | go_size))⟩
  · exact seek_in b off n cc l c hc hn hl hu w hs hT
/-- What Take answers: the segments, the slot, the error. -/
def tkR (l : List Sg) (c : Int) : List Sg × Int × Int × Int :=
  if chkL l then (if slN c = 0 then (l, 0, 0, 100) else match seekL l c with
    | some (i, k) => (putL l c i k, (i : Int), (k : Int), 0)
    | none => (l, 0, 0, 110)) else (l, 0, 0, 120)
/-- How Take ends. -/
def TakeR (R : List Sg × Int × Int × Int) (n : Nat) (w : World) (e : Ending) (w' : World) : Prop :=
  (∃ v', e = .returned (.tuple #[v', .agg #[.int .i64 R.2.1, .int .i64 R.2.2.1], .int .i64 R.2.2.2]) ∧ OwnS w.heap.size w' v' n R.1) ∧ Below w.heap.size w w'
theorem wrap_pow (k P : Nat) (hk : k < 64) (hP : 2 ^ k = P) : P < 18446744073709551616 ∧ IntKind.u64.wrap (2 ^ k) = (P : Int) := by
  have h : 2 ^ k < 2 ^ 64 := Nat.pow_lt_pow_right (by omega) hk
  rw [hP] at h
  have e : (2 : Int) ^ k = (P : Int) := by rw [← hP]; simp
  rw [e, IntKind.wrap_u64]
  omega
theorem OwnS.mono {B B' : Nat} {w : World} {v : Value} {n : Nat} {l : List Sg} (h : OwnS B' w v n l) (hB : B ≤ B') : OwnS B w v n l := by
  obtain ⟨a, b, c, h⟩ := h
  refine ⟨a, b, c, h.imp id ?_⟩
  rintro ⟨g, cc, rfl, h1, h2, h3, h4⟩
  exact ⟨g, cc, rfl, h1, Nat.le_trans hB h2, h3, h4⟩
theorem OwnS.other {B : Nat} {w : World} {v : Value} {n : Nat} {l : List Sg} (h : OwnS B w v n l) {a : Addr} (ha : a.block < B) (x : Value) : OwnS B (w.setCell a x) v n l := by
  obtain ⟨p, q, r, h⟩ := h
  refine ⟨p, q, r, h.imp id ?_⟩
  rintro ⟨g, cc, rfl, h1, h2, h3, h4⟩
  exact ⟨g, cc, rfl, h1, h2, by simpa using h3, h4.other (by omega) x⟩
set_option maxRecDepth 100000 in
set_option maxHeartbeats 4000000 in
theorem take_no (v : Value) (n : Nat) (l : List Sg) (c : Int) (hc : ¬chkL l) (w : World) (h : Segs w v n l) :
    Calls Tryd.prog 7 #[v, .int .i64 c] w (TakeR (l, 0, 0, 120) n w) := by
  have HS := Lib.hid h
  have HC := Lib.hid (fun W (hb : Below w.heap.size w W) => chk_c v n l W (HS.out.below hb))
  rw [decide_eq_false hc] at HC
  have HK := Lib.hid (fun W (hb : Below w.heap.size w W) => clone_c v n l W (HS.out.below hb))
  clear h
  clear hc
  go_enter Tryd.func7, Tryd.ntmps7
  go_wp2_with fail
  refine (HK.out _ (by (repeat' (first | (with_reducible exact Below.refl _ _) | (with_reducible assumption) | (with_reducible refine Below.alloc ?_ ?_ _) | (with_reducible refine Below.drew ?_) | (with_reducible refine Below_drewN ?_ _) | (with_reducible refine Below.setCell ?_ ?_ _) | (refine Below.step (B' := ?_) (b := ?_) ?_ ?_ ?_; rotate_left 2; (with_reducible assumption)) | go_size)))).mono ?_
  rintro e w1 ⟨⟨v1, rfl, ho⟩, hb1⟩
  have hz1 := hb1.size
  simp only [World.size_alloc] at hz1 ho
  have HP := Lib.hid ((pairAt.new w (.int .i64 0) (.int .i64 0) 34).below hb1)
  have HB := Lib.hid (show Below w.heap.size w w1 from ((Below.refl _ _).alloc (Nat.le_refl _) _).trans (hb1.mono (by simp)))
  have HO := Lib.hid ho
  clear hb1 ho
  go_wp2_with fail
  refine (HC.out _ HB.out).mono ?_
  rintro e w2 ⟨rfl, hb2⟩
  have HB := Lib.hid (chain HB.out hb2)
  have HO := Lib.hid (HO.out.below hb2)
  have HP := Lib.hid (HP.out.below hb2)
  have hy := HP.out.lt
  obtain ⟨c0, c1, f0, f1⟩ := HP.out
  clear hb2
  go_wp2_with fail
  have hq := HP.out.set (.int .i64 0) (.int .i64 0)
  obtain ⟨r0, r1, _, _⟩ := hq
  refine bodyPost_ret (by simp [results, Tryd.results7, go_sem, r0, r1]; try rfl) rfl ?_
  refine ⟨⟨v1, rfl, ((HO.out.other (a := ⟨w.heap.size, 0, none⟩) (by simp) _).other (a := ⟨w.heap.size, 1, none⟩) (by simp) _).mono (Nat.le_succ _)⟩, ?_⟩
  have := HB.out
  (repeat' (first | (with_reducible exact Below.refl _ _) | (with_reducible assumption) | (with_reducible refine Below.alloc ?_ ?_ _) | (with_reducible refine Below.drew ?_) | (with_reducible refine Below_drewN ?_ _) | (with_reducible refine Below.setCell ?_ ?_ _) | (refine Below.step (B' := ?_) (b := ?_) ?_ ?_ ?_; rotate_left 2; (with_reducible assumption)) | go_size))
set_option maxRecDepth 100000 in
set_option maxHeartbeats 4000000 in
theorem take_size (v : Value) (n : Nat) (l : List Sg) (c : Int) (hc : chkL l) (hk : slN c = 0) (w : World) (h : Segs w v n l) :
    Calls Tryd.prog 7 #[v, .int .i64 c] w (TakeR (l, 0, 0, 100) n w) := by
  have HS := Lib.hid h
  have HC := Lib.hid (fun W (hb : Below w.heap.size w W) => chk_c v n l W (HS.out.below hb))
  rw [decide_eq_true hc] at HC
  have HK := Lib.hid (fun W (hb : Below w.heap.size w W) => clone_c v n l W (HS.out.below hb))
  clear h
  have hsl := slots_c c
  rw [clsS_sl, hk] at hsl
  clear hk
  clear hc
  go_enter Tryd.func7, Tryd.ntmps7
  go_wp2_with fail
  refine (HK.out _ (by (repeat' (first | (with_reducible exact Below.refl _ _) | (with_reducible assumption) | (with_reducible refine Below.alloc ?_ ?_ _) | (with_reducible refine Below.drew ?_) | (with_reducible refine Below_drewN ?_ _) | (with_reducible refine Below.setCell ?_ ?_ _) | (refine Below.step (B' := ?_) (b := ?_) ?_ ?_ ?_; rotate_left 2; (with_reducible assumption)) | go_size)))).mono ?_
  rintro e w1 ⟨⟨v1, rfl, ho⟩, hb1⟩
  have hz1 := hb1.size
  simp only [World.size_alloc] at hz1 ho
  have HP := Lib.hid ((pairAt.new w (.int .i64 0) (.int .i64 0) 34).below hb1)
  have HB := Lib.hid (show Below w.heap.size w w1 from ((Below.refl _ _).alloc (Nat.le_refl _) _).trans (hb1.mono (by simp)))
  have HO := Lib.hid ho
  clear hb1 ho
  go_wp2_with fail
  refine (HC.out _ HB.out).mono ?_
  rintro e w2 ⟨rfl, hb2⟩
  have HB := Lib.hid (chain HB.out hb2)
  have HO := Lib.hid (HO.out.below hb2)
  have HP := Lib.hid (HP.out.below hb2)
  have hy := HP.out.lt
  obtain ⟨c0, c1, f0, f1⟩ := HP.out
  clear hb2
  go_wp2_with fail
  with_reducible refine (hsl _).mono ?_
  rintro e w' ⟨rfl, rfl⟩
  go_wp2_with fail
  have hq := HP.out.set (.int .i64 0) (.int .i64 0)
  obtain ⟨r0, r1, _, _⟩ := hq
  refine bodyPost_ret (by simp [results, Tryd.results7, go_sem, r0, r1]; try rfl) rfl ?_
  refine ⟨⟨v1, rfl, ((HO.out.other (a := ⟨w.heap.size, 0, none⟩) (by simp) _).other (a := ⟨w.heap.size, 1, none⟩) (by simp) _).mono (Nat.le_succ _)⟩, ?_⟩
  have := HB.out
  (repeat' (first | (with_reducible exact Below.refl _ _) | (with_reducible assumption) | (with_reducible refine Below.alloc ?_ ?_ _) | (with_reducible refine Below.drew ?_) | (with_reducible refine Below_drewN ?_ _) | (with_reducible refine Below.setCell ?_ ?_ _) | (refine Below.step (B' := ?_) (b := ?_) ?_ ?_ ?_; rotate_left 2; (with_reducible assumption)) | go_size))
set_option maxRecDepth 100000 in
set_option maxHeartbeats 4000000 in
theorem take_room (v : Value) (n : Nat) (l : List Sg) (c : Int) (hc : chkL l) (hk : slN c ≠ 0) (hs : seekL l c = none) (w : World) (h : Segs w v n l) (hT : Deb w) :
    Calls Tryd.prog 7 #[v, .int .i64 c] w (TakeR (l, 0, 0, 110) n w) := by
  have HS := Lib.hid h
  have HC := Lib.hid (fun W (hb : Below w.heap.size w W) => chk_c v n l W (HS.out.below hb))
  rw [decide_eq_true hc] at HC
  have HK := Lib.hid (fun W (hb : Below w.heap.size w W) => clone_c v n l W (HS.out.below hb))
  clear h
  have hsl := slots_c c
  rw [clsS_sl] at hsl
  have hk1 : (((slN c : Nat) : Int) == 0) = false := by rw [beq_eq_false_iff_ne]; omega
  have hk2 : (slN c == 0) = false := by rw [beq_eq_false_iff_ne]; omega
  have HT := Lib.hid hT
  have HE := Lib.hid (fun W (hb : Below w.heap.size w W) => seek_c v n l c (slN_cls c hk) W (HS.out.below hb) (HT.out.below hb))
  rw [hs] at HE
  simp only [skI, skK, Option.isSome_some, Option.isSome_none] at HE
  clear hk hT
  generalize slN c = K at *
  clear hc
  go_enter Tryd.func7, Tryd.ntmps7
  go_wp2_with fail
  refine (HK.out _ (by (repeat' (first | (with_reducible exact Below.refl _ _) | (with_reducible assumption) | (with_reducible refine Below.alloc ?_ ?_ _) | (with_reducible refine Below.drew ?_) | (with_reducible refine Below_drewN ?_ _) | (with_reducible refine Below.setCell ?_ ?_ _) | (refine Below.step (B' := ?_) (b := ?_) ?_ ?_ ?_; rotate_left 2; (with_reducible assumption)) | go_size)))).mono ?_
  rintro e w1 ⟨⟨v1, rfl, ho⟩, hb1⟩
  have hz1 := hb1.size
  simp only [World.size_alloc] at hz1 ho
  have HP := Lib.hid ((pairAt.new w (.int .i64 0) (.int .i64 0) 34).below hb1)
  have HB := Lib.hid (show Below w.heap.size w w1 from ((Below.refl _ _).alloc (Nat.le_refl _) _).trans (hb1.mono (by simp)))
  have HO := Lib.hid ho
  clear hb1 ho
  go_wp2_with fail
  refine (HC.out _ HB.out).mono ?_
  rintro e w2 ⟨rfl, hb2⟩
  have HB := Lib.hid (chain HB.out hb2)
  have HO := Lib.hid (HO.out.below hb2)
  have HP := Lib.hid (HP.out.below hb2)
  have hy := HP.out.lt
  obtain ⟨c0, c1, f0, f1⟩ := HP.out
  clear hb2
  go_wp2_with fail
  with_reducible refine (hsl _).mono ?_
  rintro e w' ⟨rfl, rfl⟩
  go_wp2_with fail
  refine (HE.out _ HB.out).mono ?_
  rintro e w3 ⟨rfl, hb3⟩
  have HB := Lib.hid (chain HB.out hb3)
  have HO := Lib.hid (HO.out.below hb3)
  have HP := Lib.hid (HP.out.below hb3)
  clear c0 c1 f0 f1 hy
  have hy := HP.out.lt
  obtain ⟨c0, c1, f0, f1⟩ := HP.out
  clear hb3
  go_wp2_with fail
  have hq := (HP.out.set (.int .i64 0) (.int .i64 0)).alloc (.cells #[.int .i64 0, .int .i64 0] 34)
  obtain ⟨r0, r1, _, _⟩ := hq
  refine bodyPost_ret (by simp [results, Tryd.results7, go_sem, r0, r1]; try rfl) rfl ?_
  refine ⟨⟨v1, rfl, (((HO.out.other (a := ⟨w.heap.size, 0, none⟩) (by simp) _).other (a := ⟨w.heap.size, 1, none⟩) (by simp) _).below ((Below.refl _ _).alloc (Nat.le_refl _) _)).mono (Nat.le_succ _)⟩, ?_⟩
  have := HB.out
  (repeat' (first | (with_reducible exact Below.refl _ _) | (with_reducible assumption) | (with_reducible refine Below.alloc ?_ ?_ _) | (with_reducible refine Below.drew ?_) | (with_reducible refine Below_drewN ?_ _) | (with_reducible refine Below.setCell ?_ ?_ _) | (refine Below.step (B' := ?_) (b := ?_) ?_ ?_ ?_; rotate_left 2; (with_reducible assumption)) | go_size))
set_option maxRecDepth 100000 in
set_option maxHeartbeats 4000000 in
theorem take_ok (v : Value) (n : Nat) (l : List Sg) (c : Int) (i k : Nat) (hc : chkL l) (hk : slN c ≠ 0) (hs : seekL l c = some (i, k)) (w : World) (h : Segs w v n l) (hT : Deb w) :
    Calls Tryd.prog 7 #[v, .int .i64 c] w (TakeR (putL l c i k, (i : Int), (k : Int), 0) n w) := by
  have HS := Lib.hid h
  have HC := Lib.hid (fun W (hb : Below w.heap.size w W) => chk_c v n l W (HS.out.below hb))
  rw [decide_eq_true hc] at HC
  have HK := Lib.hid (fun W (hb : Below w.heap.size w W) => clone_c v n l W (HS.out.below hb))
  clear h
  have HI := Lib.hid (show i < l.length ∧ k < 64 from by have := seek_is l c hc hk i k hs; have := slN_le c; omega)
  have hsl := slots_c c
  rw [clsS_sl] at hsl
  have hk1 : (((slN c : Nat) : Int) == 0) = false := by rw [beq_eq_false_iff_ne]; omega
  have hk2 : (slN c == 0) = false := by rw [beq_eq_false_iff_ne]; omega
  have HT := Lib.hid hT
  have HE := Lib.hid (fun W (hb : Below w.heap.size w W) => seek_c v n l c (slN_cls c hk) W (HS.out.below hb) (HT.out.below hb))
  rw [hs] at HE
  simp only [skI, skK, Option.isSome_some, Option.isSome_none] at HE
  clear hk hT
  generalize slN c = K at *
  clear hc
  go_enter Tryd.func7, Tryd.ntmps7
  go_wp2_with fail
  refine (HK.out _ (by (repeat' (first | (with_reducible exact Below.refl _ _) | (with_reducible assumption) | (with_reducible refine Below.alloc ?_ ?_ _) | (with_reducible refine Below.drew ?_) | (with_reducible refine Below_drewN ?_ _) | (with_reducible refine Below.setCell ?_ ?_ _) | (refine Below.step (B' := ?_) (b := ?_) ?_ ?_ ?_; rotate_left 2; (with_reducible assumption)) | go_size)))).mono ?_
  rintro e w1 ⟨⟨v1, rfl, ho⟩, hb1⟩
  have hz1 := hb1.size
  simp only [World.size_alloc] at hz1 ho
  have HP := Lib.hid ((pairAt.new w (.int .i64 0) (.int .i64 0) 34).below hb1)
  have HB := Lib.hid (show Below w.heap.size w w1 from ((Below.refl _ _).alloc (Nat.le_refl _) _).trans (hb1.mono (by simp)))
  have HO := Lib.hid ho
  clear hb1 ho
  go_wp2_with fail
  refine (HC.out _ HB.out).mono ?_
  rintro e w2 ⟨rfl, hb2⟩
  have HB := Lib.hid (chain HB.out hb2)
  have HO := Lib.hid (HO.out.below hb2)
  have HP := Lib.hid (HP.out.below hb2)
  have hy := HP.out.lt
  obtain ⟨c0, c1, f0, f1⟩ := HP.out
  clear hb2
  go_wp2_with fail
  with_reducible refine (hsl _).mono ?_
  rintro e w' ⟨rfl, rfl⟩
  go_wp2_with fail
  refine (HE.out _ HB.out).mono ?_
  rintro e w3 ⟨rfl, hb3⟩
  have HB := Lib.hid (chain HB.out hb3)
  have HO := Lib.hid (HO.out.below hb3)
  have HP := Lib.hid (HP.out.below hb3)
  clear c0 c1 f0 f1 hy
  have hy := HP.out.lt
  obtain ⟨c0, c1, f0, f1⟩ := HP.out
  clear hb3
  clear hs
  obtain ⟨hn1, hl1, hu1, hd⟩ := HO.out
  have hi := HI.out.1
  have hk64 := HI.out.2
  rw [hl1] at hi
  rcases hd with ⟨rfl, rfl⟩ | ⟨g, cc, rfl, hcc, hg1, hg2, hrow⟩
  · omega
  have HR := Lib.hid hrow
  obtain ⟨⟨s0, s1⟩, t0, t1⟩ := hrow i (by omega)
  rw [Nat.mul_comm 2 i] at s0 s1 t0 t1
  have hi' : (i : Int) < (n : Int) := by omega
  obtain ⟨P, hP⟩ : ∃ P, 2 ^ k = P := ⟨_, rfl⟩
  obtain ⟨hP1, hpw⟩ := wrap_pow k P hk64 hP
  obtain ⟨V, hV⟩ : ∃ V, (at' l i).2 ||| P = V := ⟨_, rfl⟩
  have hor := bits_or_u64_nat (at' l i).2 P (hu1 i) hP1
  rw [hV] at hor
  have HV := Lib.hid (show (at' l i).2 ||| 2 ^ k = V by rw [hP, hV])
  have HV2 := Lib.hid (show V < 18446744073709551616 by have := Nat.or_lt_two_pow (n := 64) (show (at' l i).2 < 2 ^ 64 from hu1 i) (show P < 2 ^ 64 from hP1); rw [hV] at this; exact this)
  clear hP hV
  have HU1 := Lib.hid hu1
  have HL1 := Lib.hid hl1
  clear hrow hu1 hl1
  go_wp2_with fail
  go_region
  go_wp2_with fail
  go_region
  go_wp2_with fail
  have hq := ((((HP.out.other (a := ⟨g, i * 2, none⟩) (by simp; omega) (.int .i64 c)).other (a := ⟨g, i * 2 + 1, none⟩) (by simp; omega) (.int .u64 (V : Int))).set (.int .i64 (i : Int)) (.int .i64 (k : Int))).alloc (.cells #[.int .i64 (i : Int), .int .i64 (k : Int)] 34))
  obtain ⟨r0, r1, _, _⟩ := hq
  have HL9 : l.length = n := HL1.out
  have h1 := HR.out.set0 i (by omega) c
  have h2 := h1.set1 i (by rw [List.length_set]; omega) V
  rw [at_set _ _ _ _ (by omega), if_pos rfl, List.set_set, Nat.mul_comm 2 i] at h2
  have h3 := (h2.other (a := ⟨w.heap.size, 0, none⟩) (by simp; omega) (.int .i64 (i : Int))).other (a := ⟨w.heap.size, 1, none⟩) (by simp; omega) (.int .i64 (k : Int))
  have h4 := h3.below ((Below.refl _ _).alloc (Nat.le_refl _) (.cells #[.int .i64 (i : Int), .int .i64 (k : Int)] 34)) (by simp; exact hg2)
  refine bodyPost_ret (by simp [results, Tryd.results7, go_sem, r0, r1]; try rfl) rfl ?_
  refine ⟨⟨_, rfl, hn1, by unfold putL; rw [List.length_set]; exact HL9, ?_, .inr ⟨g, cc, rfl, hcc, by omega, by simp; omega, ?_⟩⟩, ?_⟩
  · intro j
    unfold putL
    simp only
    rw [at_set _ _ _ _ (by omega), HV.out]
    split
    · exact HV2.out
    · exact HU1.out j
  · unfold putL
    simp only
    rw [HV.out]
    exact h4
  · have := HB.out
    (repeat' (first | (with_reducible exact Below.refl _ _) | (with_reducible assumption) | (with_reducible refine Below.alloc ?_ ?_ _) | (with_reducible refine Below.drew ?_) | (with_reducible refine Below_drewN ?_ _) | (with_reducible refine Below.setCell ?_ ?_ _) | (refine Below.step (B' := ?_) (b := ?_) ?_ ?_ ?_; rotate_left 2; (with_reducible assumption)) | go_size))
end Go.Proofs.Tryd
