/- table.find (stage 13). -/
import Derived.Test.YtpjijaljdklpgaaTc
import Derived.ScopeJumps
namespace Go.Proofs.Try
open Go.RowKit
set_option linter.unusedVariables false
set_option linter.unusedSimpArgs false
/-- A scope that begins with its one label, to which the run jumps back. -/
theorem wp_scope_again {P : Program} {a : Act} {w : World} {Q : Exit → Act → World → Prop} {rest : Code} (l : Nat) (J : Act → World → Prop) (μ : Act → World → Nat) (start : J a w)
    (pass : ∀ a w, J a w → rest.wp P (Exit.jump l (fun a' w' => J a' w' ∧ μ a' w' < μ a w) Q) a w) : (Code.scope ((Code.label l).seq rest)).wp P Q a w := by
  refine wp_scope_jumps (rest := Code.skip.seq rest) l J μ (by simp [findLabel]) (wp_seq (wp_label ?_)) (fun a w h => wp_seq (wp_skip (pass a w h)))
  exact wp_mono (pass a w start) (fun e a' w' h => by
    cases e <;> first | exact h | exact ⟨h.1, h.2.1⟩)
/-- A scope whose label stands behind its first part. -/
theorem wp_scope_again2 {P : Program} {a : Act} {w : World} {Q : Exit → Act → World → Prop} {x rest : Code} (l : Nat) (J : Act → World → Prop) (μ : Act → World → Nat) (hf : findLabel x l = none)
    (start : ∀ K : Act → World → Prop, (∀ a w, J a w → K a w) → x.wp P (Exit.then K (fun _ _ _ => False)) a w)
    (pass : ∀ a w, J a w → rest.wp P (Exit.jump l (fun a' w' => J a' w' ∧ μ a' w' < μ a w) Q) a w) : (Code.scope (x.seq ((Code.label l).seq rest))).wp P Q a w := by
  refine wp_scope_jumps (rest := Code.skip.seq rest) l J μ (by simp [findLabel, hf]) (wp_seq (wp_mono (start J (fun _ _ h => h)) (fun e a' w' h => ?_))) (fun a w h => wp_seq (wp_skip (pass a w h)))
  cases e with
  | normal =>
    refine wp_seq (wp_label ?_)
    exact wp_mono (pass a' w' h) (fun e a' w' h => by
      cases e <;> first | exact h | exact ⟨h.1, h.2.1⟩)
  | _ => exact absurd h id
/-- Where the way of a key may end: its own place, or an empty one. -/
def stopB (l : List Pl) (k : ByteArray) (i : Nat) : Bool := ((atP l i).1.toList == k.toList) || noneS (atP l i).1
theorem posT_back {n a s : Nat} (ha : a < n) (hs : s < n) : (posT n a s + n - a) % n = s := by
  unfold posT
  rcases mod_two (N := n) (x := a + s) (by omega) with ⟨h1, _⟩ | ⟨h0, h1⟩
  · rw [h1, show a + s + n - a = s + n by omega, Nat.add_mod_right, Nat.mod_eq_of_lt hs]
  · rw [h1, show a + s - n + n - a = s by omega, Nat.mod_eq_of_lt hs]
theorem posT_next {n a s : Nat} : (posT n a s + 1) % n = posT n a (s + 1) := by unfold posT; rw [Nat.mod_add_mod, Nat.add_assoc]
set_option maxRecDepth 100000 in
set_option maxHeartbeats 4000000 in
theorem find_c (b off n c : Nat) (l : List Pl) (k : ByteArray) (hk : k.size ≤ 100000) (a0 s0 : Nat) (w : World) (h : Sees w 2 (some ⟨b, off, none⟩) n (flat encP l)) (hl : l.length = n) (hn : 1 ≤ n) (hn2 : n ≤ 100000) (hh : home k n = (a0 : Int)) (ha : a0 < n)
    (hs : s0 < n) (hstop : stopB l k (posT n a0 s0) = true) (hno : ∀ r, r < s0 → stopB l k (posT n a0 r) = false) :
    Calls Try.prog 21 #[.slice (some ⟨b, off, none⟩) n c, .string k] w fun e w' => e = .returned (.int .i64 ((posT n a0 s0 : Nat) : Int)) ∧ w = w' := by
  have HC := home_c k n (by omega) (by omega) (by omega)
  rw [hh] at HC
  have HP := Lib.hid (posT_zero ha)
  have HH := Lib.hid h
  have HST := Lib.hid hstop
  have HNO := Lib.hid hno
  have HL := Lib.hid hl
  clear h hstop hno hh hl
  go_enter Try.func21, Try.ntmps21
  go_wp2_with fail
  refine wp_scope_again2 0 (fun a' w' => w' = w ∧ ∃ (s : Nat) (u2 u3 u6 u7 u8 u9 u10 u11 u12 u13 u14 u15 u16 u17 u18 u19 u20 u21 u22 u23 u24 u25 u26 u27 u28 u29 u30 : Value), a' = { tmps := #[.slice (some ⟨b, off, none⟩) n c, .string k, u2, u3, .int .i64 0, .int .i64 ((posT n a0 s : Nat) : Int), u6, u7, u8, u9, u10, u11, u12, u13, u14, u15, u16, u17, u18, u19, u20, u21, u22, u23, u24, u25, u26, u27, u28, u29, u30], defers := [] } ∧ s ≤ s0) (fun a' _ => s0 - ((intOf (a'.tmps.getD 5 undef)).toNat + n - a0) % n) (by simp [findLabel]) ?_ ?_
  · intro K hK
    go_wp2_with (go_at_call 26; refine (HC _).mono ?_; rintro e w5 ⟨rfl, rfl⟩)
    exact ⟨0, by rw [HP.out], by omega⟩
  · rintro a' w' ⟨rfl, s, u2, u3, u6, u7, u8, u9, u10, u11, u12, u13, u14, u15, u16, u17, u18, u19, u20, u21, u22, u23, u24, u25, u26, u27, u28, u29, u30, rfl, hsl⟩
    have hpn : posT n a0 s < n := posT_lt (by omega) _ _
    obtain ⟨c0, _⟩ := place_cells HH.out (j := posT n a0 s) (by rw [HL.out]; exact hpn)
    have HNX := Lib.hid (posT_next (n := n) (a := a0) (s := s))
    have HBK := Lib.hid (posT_back (n := n) (a := a0) (s := s) ha (by omega))
    by_cases h0 : s = s0
    · subst h0
      have hst := HST.out
      obtain ⟨p, hp⟩ : ∃ p, posT n a0 s = p := ⟨_, rfl⟩
      rw [hp] at c0 hst hpn ⊢
      have hpi : (p : Int) < (n : Int) := by omega
      have hp0 : (0 : Int) ≤ (p : Int) := by omega
      have HPE := Lib.hid hp
      clear hp
      unfold stopB noneS at hst
      obtain ⟨kk, hkk⟩ : ∃ kk, (atP l p).1 = kk := ⟨_, rfl⟩
      rw [hkk] at c0 hst
      clear hkk
      cases he : kk.toList == k.toList with
      | true =>
        clear hst
        go_wp2_with fail
        simp only [Exit.jump]
        go_ret
        exact ⟨by rw [HPE.out]; rfl, rfl⟩
      | false =>
        rw [he, Bool.false_or] at hst
        go_wp2_with fail
        simp only [Exit.jump]
        go_ret
        exact ⟨by rw [HPE.out]; rfl, rfl⟩
    · have hst := HNO.out s (by omega)
      obtain ⟨p, hp⟩ : ∃ p, posT n a0 s = p := ⟨_, rfl⟩
      rw [hp] at c0 hst hpn HNX HBK ⊢
      have hpi : (p : Int) < (n : Int) := by omega
      have hp0 : (0 : Int) ≤ (p : Int) := by omega
      have HPE := Lib.hid hp
      clear hp
      unfold stopB noneS at hst
      obtain ⟨kk, hkk⟩ : ∃ kk, (atP l p).1 = kk := ⟨_, rfl⟩
      rw [hkk] at c0 hst
      clear hkk
      rw [Bool.or_eq_false_iff] at hst
      obtain ⟨he, hz⟩ := hst
      go_wp2_with fail
      have hnx : ((p : Int) + 1) % (n : Int) = ((posT n a0 (s + 1) : Nat) : Int) := by rw [← HNX.out]; rfl
      rw [hnx]
      refine wp_goto ?_
      show Exit.jump 0 _ _ (.goto 0) _ _
      refine ⟨rfl, ⟨rfl, s + 1, _, _, _, _, _, _, _, _, _, _, _, _, _, _, _, _, _, _, _, _, _, _, _, _, _, _, _, rfl, by omega⟩, ?_⟩
      have hb2 := posT_back (n := n) (a := a0) (s := s + 1) ha (by omega)
      have hb1 := HBK.out
      show s0 - (((posT n a0 (s + 1) : Nat) : Int).toNat + n - a0) % n < s0 - ((p : Int).toNat + n - a0) % n
      rw [Int.toNat_natCast, Int.toNat_natCast, hb1, hb2]
      omega
end Go.Proofs.Try
