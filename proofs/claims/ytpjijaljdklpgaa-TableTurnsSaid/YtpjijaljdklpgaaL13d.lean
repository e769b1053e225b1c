/- The walk of TableTurns. -/
import Derived.Test.YtpjijaljdklpgaaL13a
import Derived.Test.YtpjijaljdklpgaaTxt
import Derived.Test.YtpjijaljdklpgaaMid2
namespace Go.Proofs.Try
open Go.RowKit Go.Maps Go.Sort
set_option linter.unusedVariables false
set_option linter.unusedSimpArgs false
theorem kmore {α : Type} (ss : List α) (k : Nat) (d : α) (h : k < ss.length) : ss.take (k + 1) = ss.take k ++ [ss.getD k d] := by
  rw [List.take_add_one, List.getElem?_eq_getElem h, List.getD_eq_getElem?_getD, List.getElem?_eq_getElem h]; rfl
theorem kmem {α : Type} (ss : List α) (k : Nat) (d : α) (h : k < ss.length) : ss.getD k d ∈ ss := by
  rw [List.getD_eq_getElem?_getD, List.getElem?_eq_getElem h]; exact List.getElem_mem h
/-- The first k of the texts turned by f. -/
def turnK (ss : List ByteArray) (f k : Nat) : List ByteArray := (List.range k).map fun i => ss.getD ((i + f) % ss.length) ⟨#[]⟩
theorem turnK_snoc (ss : List ByteArray) (f k : Nat) : turnK ss f (k + 1) = turnK ss f k ++ [ss.getD ((k + f) % ss.length) ⟨#[]⟩] := by
  unfold turnK; rw [List.range_succ, List.map_append]; rfl
theorem turnK_back (j n f : Nat) (h : j < n) : ((j + (n - f % n)) % n + f) % n = j := by
  rw [Nat.mod_add_mod]
  have h1 : f % n < n := Nat.mod_lt _ (by omega)
  have h2 : f = f % n + n * (f / n) := (Nat.mod_add_div f n).symm
  have h3 : j + (n - f % n) + f = j + n * (f / n + 1) := by
    rw [Nat.mul_add, Nat.mul_one]
    omega
  rw [h3, Nat.add_mul_mod_self_left, Nat.mod_eq_of_lt h]
theorem turnK_mem (ss : List ByteArray) (f : Nat) (x : ByteArray) : x ∈ turnK ss f ss.length ↔ x ∈ ss := by
  unfold turnK
  rw [List.mem_map]
  constructor
  · rintro ⟨i, hi, rfl⟩
    rw [List.mem_range] at hi
    exact kmem ss _ _ (Nat.mod_lt _ (by omega))
  · intro hx
    obtain ⟨j, hj, rfl⟩ := List.mem_iff_getElem.1 hx
    refine ⟨(j + (ss.length - f % ss.length)) % ss.length, List.mem_range.2 (Nat.mod_lt _ (by omega)), ?_⟩
    rw [turnK_back j ss.length f hj, List.getD_eq_getElem?_getD, List.getElem?_eq_getElem hj]
    rfl
/-- Just these keys have their lengths. -/
def HasOf (S : List ByteArray) (l : List Pl) : Prop := ∀ k, (isKey k = true ∧ k ∈ S → valL l k = some (k.size : Int)) ∧ (¬(isKey k = true ∧ k ∈ S) → valL l k = none)
theorem has_new : HasOf [] (noPl 128) := fun k => ⟨fun h => by simp at h, fun _ => val_new k⟩
theorem has_more {S : List ByteArray} {l : List Pl} (g : OkL l) (h : HasOf S l) (hf : fullN l < 96) (s : ByteArray) : HasOf (S ++ [s]) (putL l s (s.size : Int)).1 ∧ fullN (putL l s (s.size : Int)).1 ≤ fullN l + 1 := by
  have hc : ∀ k, k ∈ S ++ [s] ↔ k ∈ S ∨ k = s := fun k => by rw [List.mem_append, List.mem_singleton]
  by_cases he : (putL l s (s.size : Int)).2 = 0
  · refine ⟨fun k => ?_, by rw [put_full g he]; split <;> omega⟩
    rw [put_val g he]
    have hk := (put_ok_eq he).1
    by_cases e : k = s
    · subst e
      rw [if_pos rfl]
      exact ⟨fun _ => rfl, fun h2 => absurd ⟨hk, (hc _).2 (.inr rfl)⟩ h2⟩
    · rw [if_neg e]
      exact ⟨fun h2 => (h k).1 ⟨h2.1, ((hc _).1 h2.2).resolve_right e⟩, fun h2 => (h k).2 (fun h3 => h2 ⟨h3.1, (hc _).2 (.inl h3.2)⟩)⟩
  · refine ⟨fun k => ?_, by rw [put_same he]; omega⟩
    rw [put_same he]
    have hk : isKey s = false := by
      cases hk : isKey s with
      | false => rfl
      | true => exact absurd (put_fine g hk hf) he
    refine ⟨fun h2 => (h k).1 ⟨h2.1, ((hc _).1 h2.2).resolve_right (fun e => ?_)⟩, fun h2 => (h k).2 (fun h3 => h2 ⟨h3.1, (hc _).2 (.inl h3.2)⟩)⟩
    have := h2.1
    rw [e, hk] at this
    cases this
theorem has_same {S T : List ByteArray} {a b : List Pl} (ha : HasOf S a) (hb : HasOf T b) (h : ∀ x, x ∈ T ↔ x ∈ S) (k : ByteArray) : valL a k = valL b k := by
  by_cases h1 : isKey k = true ∧ k ∈ S
  · rw [(ha k).1 h1, (hb k).1 ⟨h1.1, (h k).2 h1.2⟩]
  · rw [(ha k).2 h1, (hb k).2 (fun h2 => h1 ⟨h2.1, (h k).1 h2.2⟩)]
theorem del_same {a b a' b' : List Pl} {k : ByteArray} {e f : Int} (h : ∀ x, valL a x = valL b x) (ha : DelP a k a' e) (hb : DelP b k b' f) : e = f ∧ ∀ x, valL a' x = valL b' x := by
  rcases ha with ⟨h1, rfl, rfl⟩ | ⟨h1, rfl, h2⟩ <;> rcases hb with ⟨h3, rfl, rfl⟩ | ⟨h3, rfl, h4⟩
  · exact ⟨rfl, h⟩
  · rw [h] at h1; exact absurd h1 h3
  · rw [h] at h1; exact absurd h3 h1
  · exact ⟨rfl, fun x => by rw [h2.val, h4.val, h]⟩
set_option maxRecDepth 100000 in
set_option maxHeartbeats 4000000 in
theorem turns_big1 (A : Option Addr) (n c : Nat) (f : Nat) (gone : ByteArray) (hn : 30 < n) (w : World) :
    Calls Try.prog 7 #[.slice A n c, .int .u8 (f : Int), .string gone] w fun e w' => e = .returned (.bool true) ∧ Below w.heap.size w w' := by
  have qn1 : decide (30 < (n : Int)) = true := by simp; omega
  have qn2 : decide (30 < n) = true := by simp; omega
  have qn3 : (30 : Int) < (n : Int) := by omega
  go_enter Try.func7, Try.ntmps7
  go_wp2_with (go_at_call 8; refine (awake13 _).mono ?_; rintro e w1 ⟨rfl, hb1⟩; have HB1 := Lib.hid hb1; clear hb1)
  go_ret
  exact ⟨rfl, HB1.out⟩
set_option maxRecDepth 100000 in
set_option maxHeartbeats 4000000 in
theorem turns_big2 (A : Option Addr) (n c : Nat) (f : Nat) (gone : ByteArray) (hn : n ≤ 30) (hg : 100 < gone.size) (w : World) :
    Calls Try.prog 7 #[.slice A n c, .int .u8 (f : Int), .string gone] w fun e w' => e = .returned (.bool true) ∧ Below w.heap.size w w' := by
  have qn1 : decide (30 < (n : Int)) = false := by simp; omega
  have qn2 : decide (30 < n) = false := by simp; omega
  have qn3 : ¬((30 : Int) < (n : Int)) := by omega
  have qgone1 : decide (100 < (gone.size : Int)) = true := by simp; omega
  have qgone2 : decide (100 < gone.size) = true := by simp; omega
  have qgone3 : (100 : Int) < (gone.size : Int) := by omega
  go_enter Try.func7, Try.ntmps7
  go_wp2_with (go_at_call 8; refine (awake13 _).mono ?_; rintro e w1 ⟨rfl, hb1⟩; have HB1 := Lib.hid hb1; clear hb1)
  go_ret
  exact ⟨rfl, HB1.out⟩
set_option maxRecDepth 100000 in
set_option maxHeartbeats 8000000 in
theorem turns_c (A : Option Addr) (n c : Nat) (ss : List ByteArray) (f : Nat) (hfb : f < 256) (gone : ByteArray) (hn : n ≤ 30) (hg : gone.size ≤ 100) (w : World) (hs : Sees w 1 A n (ss.map Value.string)) :
    Calls Try.prog 7 #[.slice A n c, .int .u8 (f : Int), .string gone] w fun e w' => e = .returned (.bool true) ∧ Below w.heap.size w w' := by
  have qn1 : decide (30 < (n : Int)) = false := by simp; omega
  have qn2 : decide (30 < n) = false := by simp; omega
  have qn3 : ¬((30 : Int) < (n : Int)) := by omega
  have qgone1 : decide (100 < (gone.size : Int)) = false := by simp; omega
  have qgone2 : decide (100 < gone.size) = false := by simp; omega
  have qgone3 : ¬((100 : Int) < (gone.size : Int)) := by omega
  have HL := Lib.hid (show ss.length = n by have := hs.1; simpa using this)
  have HS := Lib.hid hs
  have HGN := Lib.hid hg
  clear hs hg
  go_enter Try.func7, Try.ntmps7
  go_wp2_with (go_at_call 8; refine (awake13 _).mono ?_; rintro e w1 ⟨rfl, hb1⟩; have HB1 := Lib.hid hb1; replace HS := Lib.hid (HS.out.below hb1); clear hb1)
  go_wp2_with fail
  refine (tnew_t _).mono ?_
  rintro e w2 ⟨v2, rfl, ht2, hb2⟩
  replace HS := Lib.hid (HS.out.below hb2)
  have HB2 := Lib.hid (chain HB1.out hb2)
  clear hb2 HB1
  go_wp2_with fail
  refine (tnew_t _).mono ?_
  rintro e w3 ⟨v3, rfl, ht3, hb3⟩
  replace HS := Lib.hid (HS.out.below hb3)
  have HB3 := Lib.hid (chain HB2.out hb3)
  have HA3 := Lib.hid (ht2.below hb3)
  have HC3 := Lib.hid ht3
  clear hb3 ht2 ht3 HB2
  go_wp2_with fail
  go_loopw [8, 9, 10] (fun x y i wr => ∃ (j : Nat) (la lb : List Pl), j ≤ n ∧ i = .int .i64 (j : Int) ∧ Hid (Tbl wr x la) ∧ Hid (Tbl wr y lb) ∧ Hid (HasOf (ss.take j) la ∧ HasOf (turnK ss f j) lb ∧ fullN la ≤ j ∧ fullN lb ≤ j) ∧ Hid (∀ q, q < j → (ss.getD q ⟨#[]⟩).size ≤ 100) ∧ Hid (Below w3.heap.size w3 wr)) (fun _ _ i _ => n - (intOf i).toNat)
  case atStart => exact ⟨0, noPl 128, noPl 128, by omega, rfl, HA3, HC3, Lib.hid ⟨by rw [List.take_zero]; exact has_new, has_new, by rw [full_new]; omega, by rw [full_new]; omega⟩, Lib.hid (fun q hq => by omega), Lib.hid (Below.refl _ _)⟩
  case round =>
    obtain ⟨j, la, lb, hj, rfl, HTA, HTB, HH, HZ, HB⟩ := hrel
    by_cases hlt : j < n
    · have hlt' : (j : Int) < (n : Int) := by omega
      have hsw := HS.out.below HB.out
      obtain ⟨b, off, rfl, hbz, _⟩ := hsw.2.resolve_left (by omega)
      have hmn : (j + f) % n < n := Nat.mod_lt _ (by omega)
      have c0 := hsw.txt hlt
      have c1 := hsw.txt hmn
      have HM1 := Lib.hid (kmore ss j ⟨#[]⟩ (by rw [HL.out]; exact hlt))
      have HM2 := Lib.hid (turnK_snoc ss f j)
      rw [HL.out] at HM2
      obtain ⟨s, hs⟩ : ∃ s, ss.getD j ⟨#[]⟩ = s := ⟨_, rfl⟩
      obtain ⟨t, ht⟩ : ∃ t, ss.getD ((j + f) % n) ⟨#[]⟩ = t := ⟨_, rfl⟩
      rw [hs] at c0 HM1
      rw [ht] at c1 HM2
      have HSJ := Lib.hid hs
      clear hs ht hsw
      have ej : ((j : Int) + (f : Int)) % (n : Int) = (((j + f) % n : Nat) : Int) := by simp
      obtain ⟨m, hm⟩ : ∃ m, (j + f) % n = m := ⟨_, rfl⟩
      rw [hm] at c1 hmn ej
      have hmi : (m : Int) < (n : Int) := by omega
      clear hm
      by_cases hsz : s.size ≤ 100
      · have HSZ := Lib.hid hsz
        have qs1 : decide (100 < (s.size : Int)) = false := by simp; omega
        have qs2 : decide (100 < s.size) = false := by simp; omega
        have qs3 : ¬((100 : Int) < (s.size : Int)) := by omega
        have PA := fun W h => put_t u8 la s (s.size : Int) W h
        have PB := fun W h => put_t u9 lb t (t.size : Int) W h
        have hfa := HH.out.2.2.1
        have hfb2 := HH.out.2.2.2
        obtain ⟨A1, A2⟩ := has_more HTA.out.ok HH.out.1 (by omega) s
        obtain ⟨B1, B2⟩ := has_more HTB.out.ok HH.out.2.1 (by omega) t
        have HN : Hid (HasOf (ss.take (j + 1)) (putL la s (s.size : Int)).1 ∧ HasOf (turnK ss f (j + 1)) (putL lb t (t.size : Int)).1 ∧ fullN (putL la s (s.size : Int)).1 ≤ j + 1 ∧ fullN (putL lb t (t.size : Int)).1 ≤ j + 1) := Lib.hid ⟨by rw [HM1.out]; exact A1, by rw [HM2.out]; exact B1, by omega, by omega⟩
        clear hsz hfa hfb2 A1 A2 B1 B2
        go_wp2_with fail
        (refine region_gate 10 6 (by kernel_rfl) (by kernel_rfl) (by kernel_rfl) (by kernel_rfl) (by decide) rfl ?_); (intro hlat); (try simp only [List.append]); (simp only [List.take_succ_cons, List.take_zero, List.drop_succ_cons, List.drop_zero]); (repeat (go_big_quiet_step ((fail)))); (refine wpQuiet_nil ?_); (intro W1 hb1); (clear hlat); (refine wpAny_ready (rs := [10]) (fuel := 5) (by kernel_rfl) (by simp) (AllReady.cons rfl (fun K hK => ?_) AllReady.nil)); go_simp
        replace HTA := Lib.hid (HTA.out.below hb1)
        replace HTB := Lib.hid (HTB.out.below hb1)
        have HB1 := Lib.hid (chain HB.out hb1)
        replace c0 := (hb1.cell (p := ⟨b, off + j, none⟩) hbz).trans c0
        replace c1 := (hb1.cell (p := ⟨b, off + m, none⟩) hbz).trans c1
        replace hbz := Nat.lt_of_lt_of_le hbz hb1.size
        clear hb1
        go_wp2_with (go_at_call 16; refine (PA _ HTA.out).mono ?_; rintro e w5 ⟨v5, rfl, ht5, hb5⟩)
        (try (refine hK _ _ ?_)); (try clear hK K)
        replace HTB := Lib.hid (HTB.out.below hb5)
        have HB2 := Lib.hid (chain HB1.out hb5)
        have HA5 := Lib.hid ht5
        replace c0 := (hb5.cell (p := ⟨b, off + j, none⟩) hbz).trans c0
        replace c1 := (hb5.cell (p := ⟨b, off + m, none⟩) hbz).trans c1
        replace hbz := Nat.lt_of_lt_of_le hbz hb5.size
        clear hb5 ht5 HTA HB1
        (refine any_rest 11 (by kernel_rfl) (by kernel_rfl) (by kernel_rfl) (by decide) rfl (by kernel_rfl) ?_); (intro hlat); (simp only [List.drop_succ_cons, List.drop_zero]); (repeat (go_big_quiet_step ((fail)))); (refine wpQuiet_nil ?_); (intro W2 hb2); (clear hlat)
        replace HTB := Lib.hid (HTB.out.below hb2)
        have HB3 := Lib.hid (chain HB2.out hb2)
        replace HA5 := Lib.hid (HA5.out.below hb2)
        replace c0 := (hb2.cell (p := ⟨b, off + j, none⟩) hbz).trans c0
        replace c1 := (hb2.cell (p := ⟨b, off + m, none⟩) hbz).trans c1
        replace hbz := Nat.lt_of_lt_of_le hbz hb2.size
        clear hb2 HB2 c0
        go_wp2_with fail
        (refine region_gate 10 6 (by kernel_rfl) (by kernel_rfl) (by kernel_rfl) (by kernel_rfl) (by decide) rfl ?_); (intro hlat); (try simp only [List.append]); (simp only [List.take_succ_cons, List.take_zero, List.drop_succ_cons, List.drop_zero]); (repeat (go_big_quiet_step ((fail)))); (refine wpQuiet_nil ?_); (intro W3 hb3); (clear hlat); (refine wpAny_ready (rs := [10]) (fuel := 5) (by kernel_rfl) (by simp) (AllReady.cons rfl (fun K hK => ?_) AllReady.nil)); go_simp
        replace HA5 := Lib.hid (HA5.out.below hb3)
        replace HTB := Lib.hid (HTB.out.below hb3)
        have HB4 := Lib.hid (chain HB3.out hb3)
        clear hb3 HB3
        go_wp2_with (go_at_call 16; refine (PB _ HTB.out).mono ?_; rintro e w6 ⟨v6, rfl, ht6, hb6⟩)
        (try (refine hK _ _ ?_)); (try clear hK K)
        replace HA5 := Lib.hid (HA5.out.below hb6)
        have HB5 := Lib.hid (chain HB4.out hb6)
        have HC6 := Lib.hid ht6
        clear hb6 ht6 HTB HB4
        (refine any_rest 11 (by kernel_rfl) (by kernel_rfl) (by kernel_rfl) (by decide) rfl (by kernel_rfl) ?_); (intro hlat); (simp only [List.drop_succ_cons, List.drop_zero]); (repeat (go_big_quiet_step ((fail)))); (refine wpQuiet_nil ?_); (intro W4 hb4); (clear hlat)
        replace HA5 := Lib.hid (HA5.out.below hb4)
        replace HC6 := Lib.hid (HC6.out.below hb4)
        have HB6 := Lib.hid (chain HB5.out hb4)
        clear hb4 HB5
        go_wp2_with fail
        refine ⟨⟨j + 1, _, _, by omega, by first | rfl | (rw [wrap_suc j (by omega)]; rfl), HA5, HC6, HN, Lib.hid (fun q hq => ?_), HB6⟩, by first | (simp [intOf]; done) | (simp [intOf]; omega) | (rw [wrap_suc j (by omega)]; simp [intOf]; omega)⟩
        by_cases e : q = j
        · rw [e, HSJ.out]; exact HSZ.out
        · exact HZ.out q (by omega)
      · have hsz2 : 100 < s.size := by omega
        have qs1 : decide (100 < (s.size : Int)) = true := by simp; omega
        have qs2 : decide (100 < s.size) = true := by simp; omega
        have qs3 : (100 : Int) < (s.size : Int) := by omega
        clear hsz hsz2
        go_wp2_with fail
        go_ret
        exact ⟨rfl, chain HB3.out HB.out⟩
    · have hke : j = n := by omega
      subst hke
      obtain ⟨hA, hB2, _, _⟩ := HH.out
      have hval : ∀ k, valL la k = valL lb k := by
        have h1 : ss.take j = ss := by rw [← HL.out, List.take_length]
        rw [h1] at hA
        have := turnK_mem ss f
        rw [HL.out] at this
        exact has_same hA hB2 this
      have HVAL := Lib.hid hval
      have HSW := Lib.hid (HS.out.below HB.out)
      have HBX := Lib.hid (chain HB3.out HB.out)
      have D1 := fun W h => del_t u8 la gone (by have := HGN.out; omega) W h
      have D2 := fun W h => del_t u9 lb gone (by have := HGN.out; omega) W h
      clear hA hB2 hval HH HB HB3 HA3 HC3 HS hlt
      go_wp2_with fail
      refine (D1 _ HTA.out).mono ?_
      rintro e w5 ⟨x5, l5, e5, rfl, hd5, ht5, hb5⟩
      replace HTB := Lib.hid (HTB.out.below hb5)
      replace HSW := Lib.hid (HSW.out.below hb5)
      replace HBX := Lib.hid (chain HBX.out hb5)
      have HT5 := Lib.hid ht5
      have HD5 := Lib.hid hd5
      clear ht5 hb5 hd5 HTA D1
      go_wp2_with fail
      refine (D2 _ HTB.out).mono ?_
      rintro e w6 ⟨x6, l6, e6, rfl, hd6, ht6, hb6⟩
      replace HSW := Lib.hid (HSW.out.below hb6)
      replace HBX := Lib.hid (chain HBX.out hb6)
      replace HT5 := Lib.hid (HT5.out.below hb6)
      have HT6 := Lib.hid ht6
      obtain ⟨rfl, hsame⟩ := del_same HVAL.out HD5.out hd6
      have HSAME := Lib.hid hsame
      clear ht6 hb6 hd6 hsame HTB D2 HD5 HVAL
      go_wp2_with fail
      go_loopw [20] (fun i wr => ∃ q : Nat, q ≤ j ∧ i = .int .i64 (q : Int) ∧ Hid (Below w6.heap.size w6 wr)) (fun i _ => j - (intOf i).toNat)
      case atStart => exact ⟨0, by omega, rfl, Lib.hid (Below.refl _ _)⟩
      case round =>
        obtain ⟨q, hq, rfl, HBQ⟩ := hrel
        by_cases hqt : q < j
        · have hqi : (q : Int) < (j : Int) := by omega
          have hsw := HSW.out.below HBQ.out
          obtain ⟨b, off, rfl, hbz, _⟩ := hsw.2.resolve_left (by omega)
          have c0 := hsw.txt hqt
          have hsz := HZ.out q hqt
          obtain ⟨s, hs⟩ : ∃ s, ss.getD q ⟨#[]⟩ = s := ⟨_, rfl⟩
          rw [hs] at c0 hsz
          have G1 := fun W h => get_t x5 l5 s (by omega) W h
          have G2 := fun W h => get_t x6 l6 s (by omega) W h
          rw [← HSAME.out s] at G2
          obtain ⟨N1, hN1⟩ : ∃ N1, (valL l5 s).getD 0 = N1 := ⟨_, rfl⟩
          obtain ⟨I1, hI1⟩ : ∃ I1, (valL l5 s).isSome = I1 := ⟨_, rfl⟩
          rw [hN1, hI1] at G1 G2
          have HQ5 := Lib.hid (HT5.out.below HBQ.out)
          have HQ6 := Lib.hid (HT6.out.below HBQ.out)
          clear hsw hs hsz hN1 hI1
          go_wp2_with fail
          refine (G1 _ HQ5.out).mono ?_
          rintro e w7 ⟨rfl, hb7⟩
          replace c0 := (hb7.cell (p := ⟨b, off + q, none⟩) hbz).trans c0
          replace hbz := Nat.lt_of_lt_of_le hbz hb7.size
          replace HQ6 := Lib.hid (HQ6.out.below hb7)
          replace HBQ := Lib.hid (chain HBQ.out hb7)
          clear hb7 G1 HQ5
          go_wp2_with fail
          refine (G2 _ HQ6.out).mono ?_
          rintro e w8 ⟨rfl, hb8⟩
          replace HBQ := Lib.hid (chain HBQ.out hb8)
          clear hb8 G2 HQ6 c0 hbz
          go_wp2_with fail
          exact ⟨⟨q + 1, by omega, by first | rfl | (rw [wrap_suc q (by omega)]; rfl), HBQ⟩, by first | (simp [intOf]; done) | (simp [intOf]; omega) | (rw [wrap_suc q (by omega)]; simp [intOf]; omega)⟩
        · have hqe : q = j := by omega
          subst hqe
          have HQ5 := Lib.hid (HT5.out.below HBQ.out)
          have HQ6 := Lib.hid (HT6.out.below HBQ.out)
          have K1 := fun W h => keys_t x5 l5 W h
          have K2 := fun W h => keys_t x6 l6 W h
          have hkl := keysL_same HT5.out.ok HT6.out.ok (fun k => by rw [HSAME.out k])
          have hfl : fullN l6 = fullN l5 := by rw [← keysL_len, ← keysL_len, hkl]
          rw [hfl, ← hkl] at K2
          have hf96 := HT5.out.ok.few
          obtain ⟨F, hF⟩ : ∃ F, fullN l5 = F := ⟨_, rfl⟩
          rw [hF] at K1 K2 hf96
          have HBY := Lib.hid (chain HBX.out HBQ.out)
          clear hkl hfl hF hqt HBX HBQ
          go_wp2_with fail
          refine (K1 _ HQ5.out).mono ?_
          rintro e w7 ⟨A7, c7, rfl, hc7, hs7, hb7⟩
          replace HQ6 := Lib.hid (HQ6.out.below hb7)
          replace HBY := Lib.hid (chain HBY.out hb7)
          have HS7 := Lib.hid hs7
          clear hb7 hs7 K1 HQ5
          go_wp2_with fail
          refine (K2 _ HQ6.out).mono ?_
          rintro e w8 ⟨A8, c8, rfl, hc8, hs8, hb8⟩
          replace HBY := Lib.hid (chain HBY.out hb8)
          replace HS7 := Lib.hid (HS7.out.below hb8)
          have HS8 := Lib.hid hs8
          clear hb8 hs8 K2 HQ6
          go_wp2_with fail
          refine (same7k _ _ F _ _ _ _ HS7.out HS8.out (by omega)).mono ?_
          rintro e w9 ⟨rfl, hb9⟩
          replace HBY := Lib.hid (chain HBY.out hb9)
          clear hb9
          go_wp2_with fail
          go_ret
          exact ⟨rfl, HBY.out⟩
theorem walk_TableTurns (v0 : Value) (a1 : Int) (gone : ByteArray) (w1 : (Lit.int .u8 a1).wf = true) (w2 : gone.size ≤ maxLen) (w : World) (o0 : ∃ xs, Texts w v0 xs) :
    Calls Try.prog 7 #[v0, .int .u8 a1, .string gone] w fun e w' => e = .returned (.bool true) ∧ Below w.heap.size w w' := by
  obtain ⟨ss, A, n, c, rfl, hcap, hmax, hsees, hszs⟩ := o0
  obtain ⟨n0, n1⟩ := bounds_u8 w1
  obtain ⟨f, rfl⟩ := Int.eq_ofNat_of_zero_le n0
  rcases Nat.lt_or_ge 30 n with hn | hn
  · exact turns_big1 A n c f gone hn w
  · rcases Nat.lt_or_ge 100 gone.size with hg | hg
    · exact turns_big2 A n c f gone hn hg w
    · exact turns_c A n c ss f (by omega) gone hn hg w hsees
end Go.Proofs.Try
