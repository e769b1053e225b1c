/- Windows (stage 21): what a member is, tune.Check. -/
import Derived.Test.YtjcclobnpbgmcaaDoorRw
import Derived.Test.YtjcclobnpbgmcaaDoorLater
import Derived.Test.YtjcclobnpbgmcaaDoorFix
import Derived.Test.YtjcclobnpbgmcaaDoorChain
import Derived.Laws.Cover1
import Derived.Lib.Hide
namespace Go.Proofs.Tryd
open Go.RowKit
set_option linter.unusedVariables false
set_option linter.unusedSimpArgs false
/-- A member of a window: its key, its size, how often. -/
abbrev Sn := ByteArray × Int × Int
def encN (s : Sn) : List Value := [.string s.1, .int .i64 s.2.1, .int .i64 s.2.2]
theorem encN_len (s : Sn) : (encN s).length = 3 := rfl
theorem encN_one (s : Sn) : ∀ u ∈ encN s, u.oneCell' = true := by
  intro u hu
  simp [encN] at hu
  rcases hu with rfl | rfl | rfl <;> rfl
def atN (l : List Sn) (k : Nat) : Sn := l.getD k (⟨#[]⟩, 0, 0)
theorem atN_some {l : List Sn} {j : Nat} (h : j < l.length) : l[j]? = some (atN l j) := by
  unfold atN
  rw [List.getD_eq_getElem?_getD, List.getElem?_eq_getElem h]; rfl
theorem Sees.seen {w : World} {n b off : Nat} {l : List Sn} (h : Sees w 3 (some ⟨b, off, none⟩) n (flat encN l)) {j : Nat} (hj : j < n) :
    w.cell? ⟨b, off + j * 3, none⟩ = some (.string (atN l j).1) ∧ w.cell? ⟨b, off + j * 3 + 1, none⟩ = some (.int .i64 (atN l j).2.1) ∧ w.cell? ⟨b, off + j * 3 + 2, none⟩ = some (.int .i64 (atN l j).2.2) ∧ b < w.heap.size := by
  have hl := h.elen encN_len (by omega)
  have hx := atN_some (l := l) (j := j) (by omega)
  have h0 := h.el encN_len hx (i := 0) rfl
  have h1 := h.el encN_len hx (i := 1) rfl
  have h2 := h.el encN_len hx (i := 2) rfl
  rw [Nat.add_zero] at h0
  exact ⟨h0, h1, h2, World.block_lt_of_cell? w _ h0⟩
def ltK (a b : ByteArray) : Bool := Op.bytesLess a.toList b.toList
def inB (z lo hi : Int) : Bool := decide (lo ≤ z) && decide (z ≤ hi)
def okAt (l : List Sn) (i : Nat) : Bool := (decide (i = 0) || ltK (atN l (i - 1)).1 (atN l i).1) && inB (atN l i).2.1 1 4096 && inB (atN l i).2.2 1 1000
def chkN (l : List Sn) : Bool := decide (l.length ≤ 1000) && (List.range l.length).all (okAt l)
theorem chkN_iff {l : List Sn} : chkN l = true ↔ l.length ≤ 1000 ∧ ∀ i, i < l.length → okAt l i = true := by
  unfold chkN
  rw [Bool.and_eq_true, decide_eq_true_iff, List.all_eq_true]
  simp only [List.mem_range]
theorem chkN_no {l : List Sn} {i : Nat} (hi : i < l.length) (h : okAt l i = false) : chkN l = false := by
  cases hc : chkN l with
  | false => rfl
  | true => rw [(chkN_iff.1 hc).2 i hi] at h; cases h
theorem wrap_1 (k : Nat) (h : k ≤ 100000) : wrap64 ((k : Int) + 1) = (k : Int) + 1 := by unfold wrap64; omega
set_option maxRecDepth 100000 in
set_option maxHeartbeats 2000000 in
theorem within_c (z lo hi : Int) (w : World) : Calls Tryd.prog 28 #[.int .i64 z, .int .i64 lo, .int .i64 hi] w fun e w' => e = .returned (.bool (inB z lo hi)) ∧ w = w' := by
  unfold inB
  by_cases h1 : lo ≤ z
  · have q1 : decide (lo ≤ z) = true := decide_eq_true h1
    rw [q1]
    go_enter Tryd.func28, Tryd.ntmps28
    go_wp2_with fail
    go_ret
    exact ⟨by first | rfl | (simp; done), rfl⟩
  · have q1 : decide (lo ≤ z) = false := decide_eq_false h1
    rw [q1]
    go_enter Tryd.func28, Tryd.ntmps28
    go_wp2_with fail
    go_ret
    exact ⟨by first | rfl | (simp; done), rfl⟩
set_option maxRecDepth 100000 in
set_option maxHeartbeats 4000000 in
theorem tcheck_c (v : Value) (n : Nat) (l : List Sn) (w : World) (h : Rows encN 3 w v n l) :
    Calls Tryd.prog 12 #[v] w fun e w' => e = .returned (.bool (chkN l)) ∧ Below w.heap.size w w' := by
  obtain ⟨A, c, rfl, hc, hn, hl, hs⟩ := h
  have HL := Lib.hid hl
  have HH := Lib.hid hs
  have W1 := fun z W => within_c z 1 4096 W
  have W2 := fun z W => within_c z 1 1000 W
  clear hl hs hc
  by_cases hbig : 1000 < n
  · have q1 : decide (1000 < (n : Int)) = true := by simp; omega
    have q2 : decide (1000 < n) = true := by simp; omega
    have HD : Hid (chkN l = false) := Lib.hid (by unfold chkN; rw [decide_eq_false (by rw [HL.out]; omega)]; rfl)
    clear hbig
    go_enter Tryd.func12, Tryd.ntmps12
    go_wp2_with fail
    go_ret
    rw [HD.out]
    exact ⟨rfl, Below.refl _ _⟩
  · have q1 : decide (1000 < (n : Int)) = false := by simp; omega
    have q2 : decide (1000 < n) = false := by simp; omega
    have q3 : ¬((1000 : Int) < (n : Int)) := by omega
    have hn2 : n ≤ 1000 := by omega
    clear hbig
    go_enter Tryd.func12, Tryd.ntmps12
    go_wp2_with fail
    go_loopw [10] (fun i wr => ∃ k : Nat, k ≤ n ∧ i = .int .i64 k ∧ Hid (∀ j, j < k → okAt l j = true) ∧ Hid (Below w.heap.size w wr)) (fun i _ => n - (intOf i).toNat)
    case atStart => exact ⟨0, by omega, rfl, Lib.hid (fun j hj => by omega), Lib.hid (Below.refl _ _)⟩
    case round =>
      obtain ⟨k, hk, rfl, HF, HB⟩ := hrel
      by_cases hlt : k < n
      · have hki : (k : Int) < (n : Int) := by omega
        have hs := HH.out.below HB.out
        obtain ⟨b, off, rfl, hbl⟩ := Rows.some hs (by omega)
        obtain ⟨c0, c1, c2, hbz⟩ := hs.seen hlt
        have HKL := Lib.hid (show k < l.length by rw [HL.out]; exact hlt)
        obtain ⟨⟨s, x, y⟩, hp⟩ : ∃ p, atN l k = p := ⟨_, rfl⟩
        have HP := Lib.hid hp
        rw [hp] at c0 c1 c2
        dsimp only at c0 c1 c2
        clear hp
        by_cases hk0 : k = 0
        · have hk1 : decide ((0 : Int) < (k : Int)) = false := by simp; omega
          have hk2 : decide (0 < k) = false := by simp; omega
          have HK0 := Lib.hid hk0
          clear hk0
          cases hx : inB x 1 4096 with
          | false =>
            have WX := fun W => W1 x W
            rw [hx] at WX
            have HD := Lib.hid (chkN_no HKL.out (by unfold okAt; rw [HP.out]; dsimp only; rw [hx, Bool.and_false, Bool.false_and]))
            go_wp2_with fail
            have d0 : (wr.alloc (.cells #[.string s, .int .i64 x, .int .i64 y] 25)).cell? ⟨wr.heap.size, 0, none⟩ = some (.string s) := by go_simp
            have d1 : (wr.alloc (.cells #[.string s, .int .i64 x, .int .i64 y] 25)).cell? ⟨wr.heap.size, 1, none⟩ = some (.int .i64 x) := by go_simp
            have d2 : (wr.alloc (.cells #[.string s, .int .i64 x, .int .i64 y] 25)).cell? ⟨wr.heap.size, 2, none⟩ = some (.int .i64 y) := by go_simp
            have hbV : wr.heap.size < (wr.alloc (.cells #[.string s, .int .i64 x, .int .i64 y] 25)).heap.size := by simp
            have HBV := Lib.hid (chain1 HB.out (.cells #[.string s, .int .i64 x, .int .i64 y] 25))
            clear c0 c1 c2
            generalize wr.alloc (.cells #[.string s, .int .i64 x, .int .i64 y] 25) = V at *
            (refine region_later (by kernel_rfl) (by kernel_rfl) ?_); (intro hlat); (repeat (go_big_quiet_step ((fail)))); (refine wpQuiet_nil ?_); (intro W1 hb1); (clear hlat)
            replace d1 := (hb1.cell (p := ⟨wr.heap.size, 1, none⟩) hbV).trans d1
            replace d2 := (hb1.cell (p := ⟨wr.heap.size, 2, none⟩) hbV).trans d2
            have HB1 := Lib.hid (chain HBV.out hb1)
            clear hb1 d0 hbV
            go_wp2_with (go_at_call 28; refine (WX _).mono ?_; rintro e w5 ⟨rfl, rfl⟩)
            go_ret
            rw [HD.out]
            exact ⟨rfl, HB1.out⟩
          | true =>
            have WX := fun W => W1 x W
            rw [hx] at WX
            cases hy : inB y 1 1000 with
            | false =>
              have WY := fun W => W2 y W
              rw [hy] at WY
              have HD := Lib.hid (chkN_no HKL.out (by unfold okAt; rw [HP.out]; dsimp only; rw [hy, Bool.and_false]))
              go_wp2_with fail
              have d0 : (wr.alloc (.cells #[.string s, .int .i64 x, .int .i64 y] 25)).cell? ⟨wr.heap.size, 0, none⟩ = some (.string s) := by go_simp
              have d1 : (wr.alloc (.cells #[.string s, .int .i64 x, .int .i64 y] 25)).cell? ⟨wr.heap.size, 1, none⟩ = some (.int .i64 x) := by go_simp
              have d2 : (wr.alloc (.cells #[.string s, .int .i64 x, .int .i64 y] 25)).cell? ⟨wr.heap.size, 2, none⟩ = some (.int .i64 y) := by go_simp
              have hbV : wr.heap.size < (wr.alloc (.cells #[.string s, .int .i64 x, .int .i64 y] 25)).heap.size := by simp
              have HBV := Lib.hid (chain1 HB.out (.cells #[.string s, .int .i64 x, .int .i64 y] 25))
              clear c0 c1 c2
              generalize wr.alloc (.cells #[.string s, .int .i64 x, .int .i64 y] 25) = V at *
              (refine region_later (by kernel_rfl) (by kernel_rfl) ?_); (intro hlat); (repeat (go_big_quiet_step ((fail)))); (refine wpQuiet_nil ?_); (intro W1 hb1); (clear hlat)
              replace d1 := (hb1.cell (p := ⟨wr.heap.size, 1, none⟩) hbV).trans d1
              replace d2 := (hb1.cell (p := ⟨wr.heap.size, 2, none⟩) hbV).trans d2
              have HB1 := Lib.hid (chain HBV.out hb1)
              clear hb1 d0 hbV
              go_wp2_with fail
              refine (WX _).mono ?_
              rintro e w5 ⟨rfl, rfl⟩
              go_wp2_with fail
              refine (WY _).mono ?_
              rintro e w6 ⟨rfl, rfl⟩
              go_wp2_with fail
              go_ret
              rw [HD.out]
              exact ⟨rfl, HB1.out⟩
            | true =>
              have WY := fun W => W2 y W
              rw [hy] at WY
              have HN : Hid (∀ j, j < k + 1 → okAt l j = true) := Lib.hid fun j hj => by
                by_cases e : j = k
                · subst e
                  unfold okAt
                  rw [HP.out]
                  dsimp only
                  rw [hx, hy, Bool.and_true, Bool.and_true]
                  rw [decide_eq_true HK0.out, Bool.true_or]
                · exact HF.out j (by omega)
              go_wp2_with fail
              have d0 : (wr.alloc (.cells #[.string s, .int .i64 x, .int .i64 y] 25)).cell? ⟨wr.heap.size, 0, none⟩ = some (.string s) := by go_simp
              have d1 : (wr.alloc (.cells #[.string s, .int .i64 x, .int .i64 y] 25)).cell? ⟨wr.heap.size, 1, none⟩ = some (.int .i64 x) := by go_simp
              have d2 : (wr.alloc (.cells #[.string s, .int .i64 x, .int .i64 y] 25)).cell? ⟨wr.heap.size, 2, none⟩ = some (.int .i64 y) := by go_simp
              have hbV : wr.heap.size < (wr.alloc (.cells #[.string s, .int .i64 x, .int .i64 y] 25)).heap.size := by simp
              have HBV := Lib.hid (chain1 HB.out (.cells #[.string s, .int .i64 x, .int .i64 y] 25))
              clear c0 c1 c2
              generalize wr.alloc (.cells #[.string s, .int .i64 x, .int .i64 y] 25) = V at *
              (refine region_later (by kernel_rfl) (by kernel_rfl) ?_); (intro hlat); (repeat (go_big_quiet_step ((fail)))); (refine wpQuiet_nil ?_); (intro W1 hb1); (clear hlat)
              replace d1 := (hb1.cell (p := ⟨wr.heap.size, 1, none⟩) hbV).trans d1
              replace d2 := (hb1.cell (p := ⟨wr.heap.size, 2, none⟩) hbV).trans d2
              have HB1 := Lib.hid (chain HBV.out hb1)
              clear hb1 d0 hbV
              go_wp2_with fail
              refine (WX _).mono ?_
              rintro e w5 ⟨rfl, rfl⟩
              go_wp2_with fail
              refine (WY _).mono ?_
              rintro e w6 ⟨rfl, rfl⟩
              go_wp2_with fail
              exact ⟨⟨k + 1, by omega, by first | rfl | (rw [wrap_1 (k) (by omega)]; rfl), HN, HB1⟩, by first | (simp [intOf]; done) | (simp [intOf]; omega) | (rw [wrap_1 (k) (by omega)]; simp [intOf]; omega)⟩
        · obtain ⟨k, rfl⟩ : ∃ p, k = p + 1 := ⟨k - 1, by omega⟩
          obtain ⟨e0, _, _, _⟩ := hs.seen (j := k) (by omega)
          have hkp : (k : Int) < (n : Int) := by omega
          have qz : decide ((0 : Int) < ((k + 1 : Nat) : Int)) = true := by simp
          obtain ⟨sp, hsp⟩ : ∃ sp, (atN l k).1 = sp := ⟨_, rfl⟩
          rw [hsp] at e0
          have HSP := Lib.hid hsp
          clear hsp hk0
          cases hr : Op.bytesLess sp.toList s.toList with
          | false =>
            have HD := Lib.hid (chkN_no HKL.out (by unfold okAt ltK; rw [HP.out, Nat.add_sub_cancel, HSP.out]; dsimp only; rw [hr]; simp))
            go_wp2_with fail
            have d0 : (wr.alloc (.cells #[.string s, .int .i64 x, .int .i64 y] 25)).cell? ⟨wr.heap.size, 0, none⟩ = some (.string s) := by go_simp
            have d1 : (wr.alloc (.cells #[.string s, .int .i64 x, .int .i64 y] 25)).cell? ⟨wr.heap.size, 1, none⟩ = some (.int .i64 x) := by go_simp
            have d2 : (wr.alloc (.cells #[.string s, .int .i64 x, .int .i64 y] 25)).cell? ⟨wr.heap.size, 2, none⟩ = some (.int .i64 y) := by go_simp
            have hbV : wr.heap.size < (wr.alloc (.cells #[.string s, .int .i64 x, .int .i64 y] 25)).heap.size := by simp
            have HBV := Lib.hid (chain1 HB.out (.cells #[.string s, .int .i64 x, .int .i64 y] 25))
            replace e0 : (wr.alloc (.cells #[.string s, .int .i64 x, .int .i64 y] 25)).cell? ⟨b, off + k * 3, none⟩ = some (.string sp) := ((Below.refl wr.heap.size wr).alloc (Nat.le_refl _) (.cells #[.string s, .int .i64 x, .int .i64 y] 25)).cell (p := ⟨b, off + k * 3, none⟩) hbz |>.trans e0
            have hbz2 : b < (wr.alloc (.cells #[.string s, .int .i64 x, .int .i64 y] 25)).heap.size := by simp; omega
            clear c0 c1 c2
            generalize wr.alloc (.cells #[.string s, .int .i64 x, .int .i64 y] 25) = V at *
            (refine region_later (by kernel_rfl) (by kernel_rfl) ?_); (intro hlat); (repeat (go_big_quiet_step ((fail)))); (refine wpQuiet_nil ?_); (intro W1 hb1); (clear hlat)
            replace d1 := (hb1.cell (p := ⟨wr.heap.size, 1, none⟩) hbV).trans d1
            replace d2 := (hb1.cell (p := ⟨wr.heap.size, 2, none⟩) hbV).trans d2
            have HB1 := Lib.hid (chain HBV.out hb1)
            clear hb1 d0 hbV
            go_wp2_with fail
            go_ret
            rw [HD.out]
            exact ⟨rfl, HB1.out⟩
          | true =>
            cases hx : inB x 1 4096 with
            | false =>
              have WX := fun W => W1 x W
              rw [hx] at WX
              have HD := Lib.hid (chkN_no HKL.out (by unfold okAt; rw [HP.out]; dsimp only; rw [hx, Bool.and_false, Bool.false_and]))
              go_wp2_with fail
              have d0 : (wr.alloc (.cells #[.string s, .int .i64 x, .int .i64 y] 25)).cell? ⟨wr.heap.size, 0, none⟩ = some (.string s) := by go_simp
              have d1 : (wr.alloc (.cells #[.string s, .int .i64 x, .int .i64 y] 25)).cell? ⟨wr.heap.size, 1, none⟩ = some (.int .i64 x) := by go_simp
              have d2 : (wr.alloc (.cells #[.string s, .int .i64 x, .int .i64 y] 25)).cell? ⟨wr.heap.size, 2, none⟩ = some (.int .i64 y) := by go_simp
              have hbV : wr.heap.size < (wr.alloc (.cells #[.string s, .int .i64 x, .int .i64 y] 25)).heap.size := by simp
              have HBV := Lib.hid (chain1 HB.out (.cells #[.string s, .int .i64 x, .int .i64 y] 25))
              replace e0 : (wr.alloc (.cells #[.string s, .int .i64 x, .int .i64 y] 25)).cell? ⟨b, off + k * 3, none⟩ = some (.string sp) := ((Below.refl wr.heap.size wr).alloc (Nat.le_refl _) (.cells #[.string s, .int .i64 x, .int .i64 y] 25)).cell (p := ⟨b, off + k * 3, none⟩) hbz |>.trans e0
              have hbz2 : b < (wr.alloc (.cells #[.string s, .int .i64 x, .int .i64 y] 25)).heap.size := by simp; omega
              clear c0 c1 c2
              generalize wr.alloc (.cells #[.string s, .int .i64 x, .int .i64 y] 25) = V at *
              (refine region_later (by kernel_rfl) (by kernel_rfl) ?_); (intro hlat); (repeat (go_big_quiet_step ((fail)))); (refine wpQuiet_nil ?_); (intro W1 hb1); (clear hlat)
              replace d1 := (hb1.cell (p := ⟨wr.heap.size, 1, none⟩) hbV).trans d1
              replace d2 := (hb1.cell (p := ⟨wr.heap.size, 2, none⟩) hbV).trans d2
              have HB1 := Lib.hid (chain HBV.out hb1)
              clear hb1 d0 hbV
              go_wp2_with (go_at_call 28; refine (WX _).mono ?_; rintro e w5 ⟨rfl, rfl⟩)
              go_ret
              rw [HD.out]
              exact ⟨rfl, HB1.out⟩
            | true =>
              have WX := fun W => W1 x W
              rw [hx] at WX
              cases hy : inB y 1 1000 with
              | false =>
                have WY := fun W => W2 y W
                rw [hy] at WY
                have HD := Lib.hid (chkN_no HKL.out (by unfold okAt; rw [HP.out]; dsimp only; rw [hy, Bool.and_false]))
                go_wp2_with fail
                have d0 : (wr.alloc (.cells #[.string s, .int .i64 x, .int .i64 y] 25)).cell? ⟨wr.heap.size, 0, none⟩ = some (.string s) := by go_simp
                have d1 : (wr.alloc (.cells #[.string s, .int .i64 x, .int .i64 y] 25)).cell? ⟨wr.heap.size, 1, none⟩ = some (.int .i64 x) := by go_simp
                have d2 : (wr.alloc (.cells #[.string s, .int .i64 x, .int .i64 y] 25)).cell? ⟨wr.heap.size, 2, none⟩ = some (.int .i64 y) := by go_simp
                have hbV : wr.heap.size < (wr.alloc (.cells #[.string s, .int .i64 x, .int .i64 y] 25)).heap.size := by simp
                have HBV := Lib.hid (chain1 HB.out (.cells #[.string s, .int .i64 x, .int .i64 y] 25))
                replace e0 : (wr.alloc (.cells #[.string s, .int .i64 x, .int .i64 y] 25)).cell? ⟨b, off + k * 3, none⟩ = some (.string sp) := ((Below.refl wr.heap.size wr).alloc (Nat.le_refl _) (.cells #[.string s, .int .i64 x, .int .i64 y] 25)).cell (p := ⟨b, off + k * 3, none⟩) hbz |>.trans e0
                have hbz2 : b < (wr.alloc (.cells #[.string s, .int .i64 x, .int .i64 y] 25)).heap.size := by simp; omega
                clear c0 c1 c2
                generalize wr.alloc (.cells #[.string s, .int .i64 x, .int .i64 y] 25) = V at *
                (refine region_later (by kernel_rfl) (by kernel_rfl) ?_); (intro hlat); (repeat (go_big_quiet_step ((fail)))); (refine wpQuiet_nil ?_); (intro W1 hb1); (clear hlat)
                replace d1 := (hb1.cell (p := ⟨wr.heap.size, 1, none⟩) hbV).trans d1
                replace d2 := (hb1.cell (p := ⟨wr.heap.size, 2, none⟩) hbV).trans d2
                have HB1 := Lib.hid (chain HBV.out hb1)
                clear hb1 d0 hbV
                go_wp2_with fail
                refine (WX _).mono ?_
                rintro e w5 ⟨rfl, rfl⟩
                go_wp2_with fail
                refine (WY _).mono ?_
                rintro e w6 ⟨rfl, rfl⟩
                go_wp2_with fail
                go_ret
                rw [HD.out]
                exact ⟨rfl, HB1.out⟩
              | true =>
                have WY := fun W => W2 y W
                rw [hy] at WY
                have HN : Hid (∀ j, j < k + 1 + 1 → okAt l j = true) := Lib.hid fun j hj => by
                  by_cases e : j = k + 1
                  · subst e
                    unfold okAt
                    rw [HP.out]
                    dsimp only
                    rw [hx, hy, Bool.and_true, Bool.and_true]
                    rw [show ltK (atN l (k + 1 - 1)).1 s = true by unfold ltK; rw [Nat.add_sub_cancel, HSP.out]; exact hr, Bool.or_true]
                  · exact HF.out j (by omega)
                go_wp2_with fail
                have d0 : (wr.alloc (.cells #[.string s, .int .i64 x, .int .i64 y] 25)).cell? ⟨wr.heap.size, 0, none⟩ = some (.string s) := by go_simp
                have d1 : (wr.alloc (.cells #[.string s, .int .i64 x, .int .i64 y] 25)).cell? ⟨wr.heap.size, 1, none⟩ = some (.int .i64 x) := by go_simp
                have d2 : (wr.alloc (.cells #[.string s, .int .i64 x, .int .i64 y] 25)).cell? ⟨wr.heap.size, 2, none⟩ = some (.int .i64 y) := by go_simp
                have hbV : wr.heap.size < (wr.alloc (.cells #[.string s, .int .i64 x, .int .i64 y] 25)).heap.size := by simp
                have HBV := Lib.hid (chain1 HB.out (.cells #[.string s, .int .i64 x, .int .i64 y] 25))
                replace e0 : (wr.alloc (.cells #[.string s, .int .i64 x, .int .i64 y] 25)).cell? ⟨b, off + k * 3, none⟩ = some (.string sp) := ((Below.refl wr.heap.size wr).alloc (Nat.le_refl _) (.cells #[.string s, .int .i64 x, .int .i64 y] 25)).cell (p := ⟨b, off + k * 3, none⟩) hbz |>.trans e0
                have hbz2 : b < (wr.alloc (.cells #[.string s, .int .i64 x, .int .i64 y] 25)).heap.size := by simp; omega
                clear c0 c1 c2
                generalize wr.alloc (.cells #[.string s, .int .i64 x, .int .i64 y] 25) = V at *
                (refine region_later (by kernel_rfl) (by kernel_rfl) ?_); (intro hlat); (repeat (go_big_quiet_step ((fail)))); (refine wpQuiet_nil ?_); (intro W1 hb1); (clear hlat)
                replace d1 := (hb1.cell (p := ⟨wr.heap.size, 1, none⟩) hbV).trans d1
                replace d2 := (hb1.cell (p := ⟨wr.heap.size, 2, none⟩) hbV).trans d2
                have HB1 := Lib.hid (chain HBV.out hb1)
                clear hb1 d0 hbV
                go_wp2_with fail
                refine (WX _).mono ?_
                rintro e w5 ⟨rfl, rfl⟩
                go_wp2_with fail
                refine (WY _).mono ?_
                rintro e w6 ⟨rfl, rfl⟩
                go_wp2_with fail
                exact ⟨⟨k + 1 + 1, by omega, by first | rfl | (rw [wrap_1 (k + 1) (by omega)]; rfl), HN, HB1⟩, by first | (simp [intOf]; done) | (simp [intOf]; omega) | (rw [wrap_1 (k + 1) (by omega)]; simp [intOf]; omega)⟩
      · have hke : k = n := by omega
        subst hke
        have HD : Hid (chkN l = true) := Lib.hid (chkN_iff.2 ⟨by rw [HL.out]; exact hn2, fun i hi => HF.out i (by rw [← HL.out]; exact hi)⟩)
        go_wp2_with fail
        go_ret
        rw [HD.out]
        exact ⟨rfl, HB.out⟩
end Go.Proofs.Tryd
