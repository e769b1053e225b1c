/- The search in a window (stage 21). -/
import Derived.Test.YtjcclobnpbgmcaaDoorUi
namespace Go.Proofs.Tryd
open Go.RowKit Go.Sort
set_option linter.unusedVariables false
set_option linter.unusedSimpArgs false
theorem cmpB_lt : ∀ (x y : List UInt8), Lib.compareBytes x y < 0 ↔ x < y
  | [], [] => by simp [Lib.compareBytes]
  | [], b :: ys => by simp [Lib.compareBytes]
  | a :: xs, [] => by simp [Lib.compareBytes]
  | a :: xs, b :: ys => by
    rw [Lib.compareBytes, List.cons_lt_cons_iff]
    by_cases h1 : a < b
    · rw [if_pos h1]; simp [h1]
    · rw [if_neg h1]
      by_cases h2 : b < a
      · rw [if_pos h2]
        constructor
        · intro h; omega
        · rintro (h | ⟨rfl, h⟩)
          · exact absurd h h1
          · exact absurd h2 h1
      · rw [if_neg h2, cmpB_lt xs ys]
        have he : a = b := by
          have := UInt8.le_antisymm (UInt8.not_lt.1 h2) (UInt8.not_lt.1 h1)
          exact this
        constructor
        · exact fun h => .inr ⟨he, h⟩
        · rintro (h | ⟨_, h⟩)
          · exact absurd h h1
          · exact h
theorem cmpB_eq : ∀ (x y : List UInt8), Lib.compareBytes x y = 0 ↔ x = y
  | [], [] => by simp [Lib.compareBytes]
  | [], b :: ys => by simp [Lib.compareBytes]
  | a :: xs, [] => by simp [Lib.compareBytes]
  | a :: xs, b :: ys => by
    rw [Lib.compareBytes]
    by_cases h1 : a < b
    · rw [if_pos h1]
      constructor
      · intro h; omega
      · intro h
        injection h with h _
        rw [h] at h1
        exact absurd h1 (UInt8.lt_irrefl _)
    · rw [if_neg h1]
      by_cases h2 : b < a
      · rw [if_pos h2]
        constructor
        · intro h; omega
        · intro h
          injection h with h _
          rw [h] at h2
          exact absurd h2 (UInt8.lt_irrefl _)
      · rw [if_neg h2, cmpB_eq xs ys]
        have he : a = b := UInt8.le_antisymm (UInt8.not_lt.1 h2) (UInt8.not_lt.1 h1)
        constructor
        · intro h; rw [he, h]
        · intro h; injection h
theorem ltK_iff (a b : ByteArray) : ltK a b = true ↔ a.data.toList < b.data.toList := by
  unfold ltK
  rw [bytesLess_eq, ByteArray.toList_eq, ByteArray.toList_eq, decide_eq_true_iff]
theorem cmpK_lt (a b : ByteArray) : decide (cmpK a b < 0) = ltK a b := by
  rw [Bool.eq_iff_iff, decide_eq_true_iff, ltK_iff]
  exact cmpB_lt _ _
theorem keyN_ext {a b : ByteArray} (h : a.data.toList = b.data.toList) : a = b := ByteArray.ext (Array.ext' h)
theorem cmpK_eq (a b : ByteArray) : cmpK a b = 0 ↔ a = b := by
  unfold cmpK
  rw [cmpB_eq]
  exact ⟨keyN_ext, fun h => by rw [h]⟩
theorem ltK_irrefl (a : ByteArray) : ltK a a = false := by
  cases h : ltK a a with
  | false => rfl
  | true => exact absurd ((ltK_iff a a).1 h) (List.lt_irrefl _)
theorem ltK_trans {a b c : ByteArray} (h1 : ltK a b = true) (h2 : ltK b c = true) : ltK a c = true := (ltK_iff a c).2 (List.lt_trans ((ltK_iff a b).1 h1) ((ltK_iff b c).1 h2))
theorem ltK_tri {a b : ByteArray} (h : ltK a b = false) (hne : a ≠ b) : ltK b a = true := by
  refine (ltK_iff b a).2 ?_
  have h1 : ¬ a.data.toList < b.data.toList := fun h2 => by rw [(ltK_iff a b).2 h2] at h; cases h
  by_cases h3 : b.data.toList < a.data.toList
  · exact h3
  · exact absurd (keyN_ext (List.le_antisymm (List.not_lt.1 h3) (List.not_lt.1 h1))) hne
theorem chk_rise {l : List Sn} (h : chkN l = true) : ∀ d i, i + (d + 1) < l.length → ltK (atN l i).1 (atN l (i + (d + 1))).1 = true := by
  have one : ∀ i, i + 1 < l.length → ltK (atN l i).1 (atN l (i + 1)).1 = true := fun i hi => by
    have h1 := (chkN_iff.1 h).2 (i + 1) hi
    unfold okAt at h1
    rw [Nat.add_sub_cancel] at h1
    simp only [Bool.and_eq_true, Bool.or_eq_true, decide_eq_true_eq] at h1
    exact h1.1.1.resolve_left (by omega)
  intro d
  induction d with
  | zero => exact fun i hi => one i hi
  | succ d ih =>
    intro i hi
    exact ltK_trans (ih i (by omega)) (one (i + (d + 1)) (by omega))
/-- How many keys are less than one. -/
def posN (l : List Sn) (k : ByteArray) : Nat := (l.takeWhile fun s => ltK s.1 k).length
theorem posN_le (l : List Sn) (k : ByteArray) : posN l k ≤ l.length := (List.takeWhile_prefix _).length_le
theorem posN_lt {l : List Sn} {k : ByteArray} {i : Nat} (hi : i < posN l k) : ltK (atN l i).1 k = true := by
  have hl : i < (l.takeWhile fun s => ltK s.1 k).length := hi
  have h1 := List.getElem_mem hl
  have h2 : (l.takeWhile fun s => ltK s.1 k)[i] = atN l i := by
    have h3 := (List.takeWhile_prefix (l := l) (fun s => ltK s.1 k)).getElem hl
    rw [h3]
    unfold atN
    rw [List.getD_eq_getElem?_getD, List.getElem?_eq_getElem]
    rfl
  rw [h2] at h1
  exact List.all_eq_true.1 (List.all_takeWhile (p := fun s : Sn => ltK s.1 k) (l := l)) _ h1
theorem posN_ge {l : List Sn} (h : chkN l = true) {k : ByteArray} {i : Nat} (hi : posN l k ≤ i) (hl : i < l.length) : ltK (atN l i).1 k = false := by
  have h0 : ltK (atN l (posN l k)).1 k = false := by
    have hlt : posN l k < l.length := by omega
    have := List.takeWhile_append_dropWhile (p := fun s : Sn => ltK s.1 k) (l := l)
    have hd : l.dropWhile (fun s => ltK s.1 k) ≠ [] := by
      intro e
      rw [e, List.append_nil] at this
      have h2 : (l.takeWhile fun s => ltK s.1 k).length = l.length := by rw [this]
      unfold posN at hlt
      omega
    have h3 := List.head_dropWhile_not (fun s : Sn => ltK s.1 k) hd
    have h4 : (l.dropWhile fun s => ltK s.1 k).head hd = atN l (posN l k) := by
      unfold posN atN
      rw [List.getD_eq_getElem?_getD]
      have hg := congrArg (fun z => z[(l.takeWhile fun s => ltK s.1 k).length]?) this
      rw [← hg]
      generalize l.takeWhile (fun s => ltK s.1 k) = T at *
      generalize l.dropWhile (fun s => ltK s.1 k) = D at *
      rw [List.getElem?_append_right (Nat.le_refl _), Nat.sub_self, ← List.head?_eq_getElem?, List.head?_eq_some_head hd]
      rfl
    rw [h4] at h3
    simpa using h3
  by_cases e : i = posN l k
  · rw [e]; exact h0
  · cases hx : ltK (atN l i).1 k with
    | false => rfl
    | true =>
      have h1 := chk_rise h (i - posN l k - 1) (posN l k) (by omega)
      rw [show posN l k + (i - posN l k - 1 + 1) = i by omega] at h1
      rw [ltK_trans h1 hx] at h0
      cases h0
set_option maxRecDepth 100000 in
set_option maxHeartbeats 4000000 in
theorem search_c (v : Value) (n : Nat) (l : List Sn) (k : ByteArray) (hok : chkN l = true) (w : World) (h : Rows encN 3 w v n l) :
    Calls Tryd.prog 30 #[v, .string k, .func (.func 31) #[] #[]] w fun e w' => e = .returned (.tuple #[.int .i64 ((posN l k : Nat) : Int), .bool (decide (posN l k < l.length ∧ (atN l (posN l k)).1 = k))]) ∧ Below w.heap.size w w' := by
  have HL := Lib.hid h.len
  have hn : n ≤ 1000 := by have := (chkN_iff.1 hok).1; rw [h.len] at this; exact this
  have HP := Lib.hid (fun i (hi : i < posN l k) => posN_lt hi)
  have HQ := Lib.hid (fun i (hi : posN l k ≤ i) hl => posN_ge hok hi hl)
  have hpn : posN l k ≤ n := by have := posN_le l k; rw [h.len] at this; exact this
  obtain ⟨A, c, rfl, hc, _, _, hs⟩ := h
  have HS := Lib.hid hs
  have NC := fun s x y W => note1_c s k x y W
  obtain ⟨p, hp⟩ : ∃ p, posN l k = p := ⟨_, rfl⟩
  rw [hp] at HP HQ hpn ⊢
  clear hs hc hok hp
  go_enter Tryd.func30, Tryd.ntmps30
  go_wp2_with fail
  go_loopw [9, 10] (fun a b wr => ∃ (i j : Nat), i ≤ p ∧ p ≤ j ∧ j ≤ n ∧ a = .int .i64 (i : Int) ∧ b = .int .i64 (j : Int) ∧ Hid (Below w.heap.size w wr)) (fun a b _ => (intOf b).toNat - (intOf a).toNat)
  case atStart => exact ⟨0, n, by omega, by omega, by omega, rfl, rfl, Lib.hid (Below.refl _ _)⟩
  case round =>
    obtain ⟨i, j, hip, hpj, hjn, rfl, rfl, HB⟩ := hrel
    by_cases hlt : i < j
    · have hij : decide ((i : Int) < (j : Int)) = true := by simp; omega
      have hs := HS.out.below HB.out
      obtain ⟨b, off, rfl, hbl⟩ := Rows.some hs (by omega)
      obtain ⟨m, hm⟩ : ∃ m, (i + j) / 2 = m := ⟨_, rfl⟩
      have hmn : m < n := by omega
      have hmi : (m : Int) < (n : Int) := by omega
      obtain ⟨c0, c1, c2, hbz⟩ := hs.seen hmn
      obtain ⟨⟨s, x, y⟩, hpm⟩ : ∃ q, atN l m = q := ⟨_, rfl⟩
      have HA := Lib.hid hpm
      rw [hpm] at c0 c1 c2
      dsimp only at c0 c1 c2
      have hm2 : ((i : Int) + (j : Int)) / 2 = (m : Int) := by omega
      clear hs hpm
      go_wp2_with fail
      refine (NC s x y _).mono ?_
      rintro e w5 ⟨rfl, hb5⟩
      have HB5 := Lib.hid (chain HB.out hb5)
      have hcl := cmpK_lt s k
      clear hb5
      by_cases hmp : m < p
      · have h1 := HP.out m hmp
        rw [HA.out] at h1
        rw [show ltK s k = true from h1] at hcl
        clear h1
        generalize cmpK s k = C at *
        have hC : C < 0 := of_decide_eq_true hcl
        go_wp2_with fail
        go_roundw
        case rel => exact ⟨m + 1, j, by omega, by omega, by omega, by first | rfl | (rw [wrap_1 m (by omega)]; rfl), rfl, HB5⟩
        case measure => first | (simp [intOf]; done) | (simp [intOf]; omega) | (rw [wrap_1 m (by omega)]; simp [intOf]; omega)
      · have h1 := HQ.out m (by omega) (by rw [HL.out]; exact hmn)
        rw [HA.out] at h1
        rw [show ltK s k = false from h1] at hcl
        clear h1
        generalize cmpK s k = C at *
        have hC : ¬(C < 0) := of_decide_eq_false hcl
        go_wp2_with fail
        go_roundw
        case rel => exact ⟨i, m, by omega, by omega, by omega, rfl, rfl, HB5⟩
        case measure => first | (simp [intOf]; done) | (simp [intOf]; omega)
    · have hij : decide ((i : Int) < (j : Int)) = false := by simp; omega
      obtain rfl : i = p := by omega
      have hje : j = i := by omega
      subst hje
      by_cases hpl : j < n
      · have hpi : decide ((j : Int) < (n : Int)) = true := by simp; omega
        have hpi2 : (j : Int) < (n : Int) := by omega
        have hs := HS.out.below HB.out
        obtain ⟨b, off, rfl, hbl⟩ := Rows.some hs (by omega)
        obtain ⟨c0, c1, c2, hbz⟩ := hs.seen hpl
        have HLn := Lib.hid (show j < l.length by rw [HL.out]; exact hpl)
        obtain ⟨⟨s, x, y⟩, hpm⟩ : ∃ q, atN l j = q := ⟨_, rfl⟩
        have HA := Lib.hid hpm
        rw [hpm] at c0 c1 c2
        dsimp only at c0 c1 c2
        have hce := cmpK_eq s k
        clear hs hpm
        by_cases hsk : s = k
        · have hz := hce.2 hsk
          have HD : Hid (decide (j < l.length ∧ (atN l j).1 = k) = true) := Lib.hid (decide_eq_true ⟨HLn.out, by rw [HA.out]; exact hsk⟩)
          have N1 := fun W => NC s x y W
          rw [hz] at N1
          clear hce hsk hz
          go_wp2_with fail
          refine (N1 _).mono ?_
          rintro e w5 ⟨rfl, hb5⟩
          go_wp2_with fail
          go_ret2
          rw [HD.out]
          exact ⟨by first | rfl | (simp; done), chain HB.out hb5⟩
        · have hz : ¬(cmpK s k = 0) := fun h => hsk (hce.1 h)
          have HD : Hid (decide (j < l.length ∧ (atN l j).1 = k) = false) := Lib.hid (decide_eq_false (by rw [HA.out]; exact fun h => hsk h.2))
          have N1 := fun W => NC s x y W
          generalize cmpK s k = C at *
          have hz1 : (C == 0) = false := by rw [beq_eq_false_iff_ne]; exact hz
          have hz2 : decide (C = 0) = false := decide_eq_false hz
          clear hce hsk
          go_wp2_with fail
          refine (N1 _).mono ?_
          rintro e w5 ⟨rfl, hb5⟩
          go_wp2_with fail
          go_ret2
          rw [HD.out]
          exact ⟨by first | rfl | (simp; done), chain HB.out hb5⟩
      · have hpi : decide ((j : Int) < (n : Int)) = false := by simp; omega
        have HD : Hid (decide (j < l.length ∧ (atN l j).1 = k) = false) := Lib.hid (decide_eq_false (by rw [HL.out]; exact fun h => hpl h.1))
        go_wp2_with fail
        go_ret2
        rw [HD.out]
        exact ⟨by first | rfl | (simp; done), HB.out⟩
end Go.Proofs.Tryd
