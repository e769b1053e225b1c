/- The walk of ArenaRoom. -/
import Derived.Test.YtgphmjhhfcgnaaaDoorL11c
namespace Go.Proofs.Tryd
open Go.RowKit
set_option linter.unusedVariables false
set_option linter.unusedSimpArgs false
/-- All segments are of that class, or free. -/
def oneC (l : List Sg) (c : Int) : Prop := ∀ s, s ∈ l → s.1 = c ∨ s.1 = -1
theorem oneC_put {l : List Sg} {c : Int} {i k : Nat} (h : oneC l c) : oneC (putL l c i k) c := by
  intro s hs
  unfold putL at hs
  rcases List.mem_or_eq_of_mem_set hs with h1 | rfl
  · exact h s h1
  · exact .inl rfl
theorem slby (c : Int) (h : slN c ≠ 0) : slN c * byN c = 512 := by
  unfold slN byN at *
  repeat' split at h
  all_goals first | omega | (split <;> omega) | skip
  all_goals simp_all
theorem pc_all (u : Nat) : ∀ S, (∀ a, a < S → u.testBit a = true) → pc u S = S
  | 0, _ => rfl
  | S + 1, h => by rw [pc, pc_all u S (fun a ha => h a (by omega)), h S (by omega)]; simp
theorem pc_more (u S : Nat) (h : u < 2 ^ S) : ∀ n, pc u (S + n) = pc u S
  | 0 => rfl
  | n + 1 => by
    rw [show S + (n + 1) = S + n + 1 by omega, pc, pc_more u S h n, Nat.testBit_lt_two_pow (Nat.lt_of_lt_of_le h (Nat.pow_le_pow_right (by omega) (by omega)))]
    simp
/-- Where no slot is left, all is full. -/
theorem room_full (c : Int) (hc : slN c ≠ 0) : ∀ l : List Sg, (∀ s, s ∈ l → okS s) → oneC l c → (∀ m, m < l.length → ¬((at' l m).1 = c ∧ lz (at' l m).2 64 < slN c)) → (∀ m, m < l.length → (at' l m).1 ≠ -1) → tknL l = 512 * l.length ∧ heldL l = 512 * l.length
  | [], _, _, _, _ => ⟨rfl, rfl⟩
  | s :: r, h1, h2, h3, h4 => by
    have ih := room_full c hc r (fun x hx => h1 x (List.mem_cons_of_mem _ hx)) (fun x hx => h2 x (List.mem_cons_of_mem _ hx)) (fun m hm => by have := h3 (m + 1) (by simpa using hm); simpa [at'] using this) (fun m hm => by have := h4 (m + 1) (by simpa using hm); simpa [at'] using this)
    have g3 : ¬(s.1 = c ∧ lz s.2 64 < slN c) := by have := h3 0 (by simp); simpa [at'] using this
    have g4 : s.1 ≠ -1 := by have := h4 0 (by simp); simpa [at'] using this
    have g2 : s.1 = c := by
      rcases h2 s (List.mem_cons_self ..) with h | h
      · exact h
      · exact absurd h g4
    have g5 : ∀ a, a < slN c → s.2.testBit a = true := fun a ha => lz_below s.2 64 (by omega) a (by omega) (by
      have : ¬lz s.2 64 < slN c := fun h => g3 ⟨g2, h⟩
      omega)
    have g6 : s.2 < 2 ^ slN c := by
      rcases h1 s (List.mem_cons_self ..) with ⟨a, b⟩ | ⟨a, b, d, f⟩
      · exact absurd a g4
      · rw [← g2]; exact f
    have g7 : byS s = 512 := by
      unfold byS
      have e : 64 = slN c + (64 - slN c) := by have := slN_le c; omega
      rw [e, pc_more s.2 (slN c) g6, pc_all s.2 _ g5, g2, slby c hc]
    unfold tknL heldL at *
    simp only [List.map_cons, List.sum_cons, List.length_cons, g7, if_neg g4]
    omega
/-- How far the taking has come: so many slots are taken, or all. -/
def RoomR (l : List Sg) (c : Int) (n : Nat) (f : Int) (m : Nat) : Prop := chkL l ∧ oneC l c ∧ l.length = n ∧ tknL l = m * byN c ∧ (f = 0 ∨ f = 110 ∧ tknL l = 512 * n ∧ heldL l = 512 * n)
def roomM (f m : Value) : Nat := if intOf f = 0 then 1000 - (intOf m).toNat else 0
theorem room_bound {l : List Sg} {c : Int} {n m : Nat} {f : Int} (h : RoomR l c n f m) (hn : n ≤ 3) (hc : slN c ≠ 0) : m ≤ 192 := by
  obtain ⟨h1, h2, h3, h4, _⟩ := h
  have a := held_ge l h1
  have b := held_le l
  have d := slby c hc
  have e := slN_le c
  rw [h3] at b
  have hb : 8 ≤ byN c := by
    unfold slN byN at *
    repeat' split at hc
    all_goals first | omega | (simp_all)
  have := Nat.mul_le_mul_left m hb
  omega
theorem room_take {l : List Sg} {c : Int} {n m : Nat} (h : RoomR l c n 0 m) (hc : slN c ≠ 0) : ∃ P p q E f2, tkR l c = (P, p, q, E) ∧ RoomR P c n E (if E = 0 then m + 1 else m) ∧ (E = 0 ∨ E = 110) ∧ f2 = E := by
  obtain ⟨h1, h2, h3, h4, _⟩ := h
  unfold tkR
  rw [if_pos h1, if_neg hc]
  cases hs : seekL l c with
  | none =>
    obtain ⟨a, b⟩ := room_full c hc l h1.2 h2 (by
      intro k hk
      unfold seekL at hs
      cases hf : seekF l c 0 with
      | none => exact seekF_none c l 0 hf k hk
      | some p => rw [hf] at hs; cases hs) (by
      intro k hk
      unfold seekL at hs
      cases hf : seekF l c 0 with
      | none => rw [hf] at hs; exact freeF_none l 0 hs k hk
      | some p => rw [hf] at hs; cases hs)
    exact ⟨l, 0, 0, 110, 110, rfl, ⟨h1, h2, h3, by rw [if_neg (by decide)]; exact h4, .inr ⟨rfl, by rw [a, h3], by rw [b, h3]⟩⟩, .inr rfl, rfl⟩
  | some p =>
    obtain ⟨i, k⟩ := p
    obtain ⟨hi, hk2, hkt, hkc⟩ := seek_is l c h1 hc i k hs
    have hk64 : k < 64 := by have := slN_le c; omega
    refine ⟨putL l c i k, (i : Int), (k : Int), 0, 0, rfl, ⟨put_ok l c h1 hc i k hi hk2 hkc, oneC_put h2, by unfold putL; rw [List.length_set]; exact h3, ?_, .inl rfl⟩, .inl rfl, rfl⟩
    rw [if_pos rfl, tkn_put l c i k hi hk64 hkt hkc, h4, Nat.add_mul, Nat.one_mul]
theorem room_start (n : Nat) (hn : n ≤ 200) (c : Int) : RoomR (List.replicate n ((-1 : Int), (0 : Nat))) c n 0 0 := by
  refine ⟨rep_chk n hn, fun s hs => ?_, by simp, ?_, .inl rfl⟩
  · rw [List.mem_replicate] at hs; rw [hs.2]; exact .inr rfl
  · unfold tknL
    rw [List.map_replicate, List.sum_replicate_nat]
    simp [byS, pc_zero]
set_option maxRecDepth 100000 in
set_option maxHeartbeats 4000000 in
theorem walk_ArenaRoom (a0 a1 : Int) (w0 : (Lit.int .u8 a0).wf = true) (w1 : (Lit.int .u8 a1).wf = true) (w : World) (hT : Deb w) :
    Calls Tryd.prog 5 #[.int .u8 a0, .int .u8 a1] w fun e w' => e = .returned (.bool true) ∧ Below w.heap.size w w' := by
  obtain ⟨b0, b1⟩ := bounds_u8 w0
  obtain ⟨d0, d1⟩ := bounds_u8 w1
  clear w0 w1
  have HT := Lib.hid hT
  clear hT
  obtain ⟨n, hnm⟩ : ∃ n : Nat, a0 % 4 = (n : Int) := ⟨(a0 % 4).toNat, by omega⟩
  obtain ⟨c, hcm⟩ : ∃ c, a1 % 4 = c := ⟨_, rfl⟩
  have hn3 : n ≤ 3 := by omega
  have hni : (n : Int) ≤ 3 := by omega
  have hc0 : 0 ≤ c ∧ c ≤ 3 := by omega
  have hc00 := hc0.1
  have hc3 := hc0.2
  have hk := Lib.hid (slN_in c hc0)
  have NW := fun W => new_c n (by omega) W
  have RS := rslots_c c
  rw [clsS_sl] at RS
  have hsl := slN_le c
  go_enter Tryd.func5, Tryd.ntmps5
  go_wp2_with fail
  with_reducible refine (awake11 _ HT.out).mono ?_
  rintro e w1 ⟨rfl, hb1⟩
  have HBW := Lib.hid hb1
  replace HT := Lib.hid (HT.out.below hb1)
  clear hb1
  go_wp2_with fail
  with_reducible refine (NW _).mono ?_
  rintro e w2 ⟨⟨v2, rfl, ho⟩, hb2⟩
  replace HBW := Lib.hid (chain HBW.out hb2)
  replace HT := Lib.hid (HT.out.below hb2)
  have HL := Lib.hid ho.segs
  clear ho
  clear hb2
  go_wp2_with fail
  have HRR := Lib.hid (room_start n (by omega) c)
  go_loopw [8, 10, 11] (fun v m f wr => ∃ (l : List Sg) (M : Nat) (F : Int), m = .int .i64 M ∧ f = .int .i64 F ∧ Hid (Segs wr v n l) ∧ Hid (RoomR l c n F M) ∧ Below w2.heap.size w2 wr) (fun _ m f _ => roomM f m)
  case atStart => exact ⟨_, 0, 0, rfl, rfl, HL, HRR, Below.refl _ _⟩
  case round =>
    obtain ⟨l, M, F, rfl, rfl, HLr, HRr, hb⟩ := hrel
    have HB := Lib.hid hb
    have hM := room_bound HRr.out hn3 hk.out
    have hMi : (M : Int) < 400 := by omega
    clear hb
    by_cases hF : F = 0
    · subst hF
      obtain ⟨P, p, q, E, _, hR, hRR, hE, _⟩ := room_take HRr.out hk.out
      have TK := take_c u8 n l c _ hR wr HLr.out (HT.out.below HB.out)
      have HRR2 := Lib.hid hRR
      clear hR hRR
      go_wp2_with fail
      refine TK.mono ?_
      rintro e w9 ⟨⟨v9, rfl, ho⟩, hb9⟩
      simp only at ho ⊢
      have HL9 := Lib.hid (ho.segs.below ((Below.refl _ _).alloc (Nat.le_refl _) (.cells #[.int .i64 p, .int .i64 q] 24)))
      have HB9 := Lib.hid (chain1 (chain HB.out hb9) (.cells #[.int .i64 p, .int .i64 q] 24))
      clear ho hb9
      rcases hE with rfl | rfl
      · go_wp2_with fail
        go_roundw
        case rel => exact ⟨P, M + 1, 0, by go_num, rfl, HL9, Lib.hid (by have := HRR2.out; rw [if_pos rfl] at this; exact this), HB9.out⟩
        case measure => simp [roomM, intOf]; omega
      · go_wp2_with fail
        go_roundw
        case rel => exact ⟨P, M, 110, rfl, rfl, HL9, Lib.hid (by have := HRR2.out; rw [if_neg (by decide)] at this; exact this), HB9.out⟩
        case measure => simp [roomM, intOf]; omega
    · have hR := HRr.out
      obtain ⟨h1, h2, h3, h4, h5⟩ := hR
      rcases h5 with h5 | ⟨rfl, h5, h6⟩
      · exact absurd h5 hF
      · have TN := taken_c u8 n l h1
        have HD := held_c u8 n l h1
        have hms : M = n * slN c := by
          have hs := slby c hk.out
          have hb8 : 0 < byN c := by
            rcases Nat.eq_zero_or_pos (byN c) with h | h
            · rw [h] at hs; omega
            · exact h
          apply Nat.eq_of_mul_eq_mul_right hb8
          rw [← h4, h5, Nat.mul_assoc, hs]
          omega
        rw [h5] at TN
        rw [h6] at HD
        rw [show ((512 * n : Nat) : Int) = 512 * (n : Int) by omega] at TN HD
        have hmi : (M : Int) = (n : Int) * ((slN c : Nat) : Int) := by rw [hms]; simp
        have hw1 : IntKind.i64.wrap ((n : Int) * ((slN c : Nat) : Int)) = (M : Int) := by rw [← hmi, IntKind.wrap_i64]; omega
        have hw2 : IntKind.i64.wrap (512 * (n : Int)) = 512 * (n : Int) := by rw [IntKind.wrap_i64]; omega
        clear h1 h2 h3 h4 h5 h6 hms hmi hF
        generalize slN c = S at *
        go_wp2_with fail
        with_reducible refine (RS _).mono ?_
        rintro e w' ⟨rfl, rfl⟩
        go_wp2_with fail
        with_reducible refine (TN _ HLr.out).mono ?_
        rintro e w9 ⟨rfl, hb9⟩
        have HL9 := Lib.hid (HLr.out.below hb9)
        have HB9 := Lib.hid (chain HB.out hb9)
        clear hb9
        go_wp2_with fail
        with_reducible refine (HD _ HL9.out).mono ?_
        rintro e w8 ⟨rfl, hb8⟩
        have HB8 := Lib.hid (chain HB9.out hb8)
        clear hb8
        go_wp2_with fail
        go_ret
        exact ⟨by first | rfl | (simp; done), chain HBW.out HB8.out⟩
end Go.Proofs.Tryd
