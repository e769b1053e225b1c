/- table.Check, table.Get (stage 13). -/
import Derived.Test.YtpjijaljdklpgaaTh
import Derived.Test.YtpjijaljdklpgaaLater
namespace Go.Proofs.Try
open Go.RowKit
set_option linter.unusedVariables false
set_option linter.unusedSimpArgs false
theorem key_size {k : ByteArray} (h : isKey k = true) : k.size ≤ 100000 := by
  unfold isKey at h
  have := of_decide_eq_true h
  omega
theorem lost_ok (B b off c at' : Nat) (l : List Pl) (g : OkL l) (w : World) (hc : w.cell? ⟨B, 0, none⟩ = some (.slice (some ⟨b, off, none⟩) 128 c)) (h : Sees w 2 (some ⟨b, off, none⟩) 128 (flat encP l)) (ha : at' < 128) :
    Calls Try.prog 23 #[.int .i64 (at' : Int), .pointer (some ⟨B, 0, none⟩)] w fun e w' => e = .returned (.bool false) ∧ Below w.heap.size w w' := by
  have hcl := g.cells at' ha
  cases hz : noneS (atP l at').1 with
  | true =>
    refine (lost_none B b off 128 c at' l w hc h g.len ha hz).mono ?_
    rintro e w' ⟨rfl, hb⟩
    refine ⟨?_, hb⟩
    rw [cell_noP hcl hz]
    rfl
  | false =>
    have hk : isKey (atP l at').1 = true := by
      rcases hcl with ⟨h1, _⟩ | h1
      · rw [hz] at h1; cases h1
      · exact h1
    obtain ⟨e0, he, hze⟩ := g.empty
    obtain ⟨s0, hs⟩ := first_some (n := 128) (by omega) l (atP l at').1 (hN 128 (atP l at').1) he hze
    have hp := (good_iff (n := 128) (by omega) l he hze).2 g.good at' ha hz s0 hs
    refine (lost_key B b off 128 c at' s0 l w hc h g.len ha (by omega) hz (key_size hk) hs).mono ?_
    rintro e w' ⟨rfl, hb⟩
    refine ⟨?_, hb⟩
    rw [hk, hp]
    simp
set_option maxRecDepth 100000 in
set_option maxHeartbeats 4000000 in
theorem check_nil (w : World) : Calls Try.prog 15 #[.slice none 0 0] w fun e w' => e = .returned (.bool false) ∧ Below w.heap.size w w' := by
  go_enter Try.func15, Try.ntmps15
  go_wp2_with fail
  go_ret
  exact ⟨rfl, by (repeat' (first | (with_reducible exact Below.refl _ _) | (with_reducible assumption) | (with_reducible refine Below.alloc ?_ ?_ _) | (with_reducible refine Below.drew ?_) | (with_reducible refine Below_drewN ?_ _) | (with_reducible refine Below.setCell ?_ ?_ _) | (refine Below.step (B' := ?_) (b := ?_) ?_ ?_ ?_; rotate_left 2; (with_reducible assumption)) | go_size))⟩
set_option maxRecDepth 100000 in
set_option maxHeartbeats 4000000 in
theorem check_ok (b off c : Nat) (l : List Pl) (g : OkL l) (hc0 : 128 ≤ c) (w : World) (h : Sees w 2 (some ⟨b, off, none⟩) 128 (flat encP l)) :
    Calls Try.prog 15 #[.slice (some ⟨b, off, none⟩) 128 c] w fun e w' => e = .returned (.bool true) ∧ Below w.heap.size w w' := by
  have hmf : ∀ (fn : Fn) (first cap : Array Value) (w : World), (Instr.makeFunc fn first cap).run Try.prog w = .ok (.func fn first cap) w := fun _ _ _ _ => rfl
  have hfew : (fullN l : Int) ≤ 96 := by have := g.few; omega
  obtain ⟨f, hf⟩ : ∃ f, fullN l = f := ⟨_, rfl⟩
  have FC := fun W (h : Sees W 2 (some ⟨b, off, none⟩) 128 (flat encP l)) => full_c _ 128 l W ⟨_, c, rfl, cap_some hc0, by omega, g.len, h⟩
  rw [hf] at hfew FC
  have HH := Lib.hid h
  have HG := Lib.hid g
  have HA := Lib.hid (h.alloc (.cells #[.slice (some ⟨b, off, none⟩) 128 c] 25))
  have hbz : b < w.heap.size := by
    rcases h.2 with h0 | ⟨b', off', hA, hb, _⟩
    · omega
    · injection hA with hA; injection hA with e1 _; subst e1; exact hb
  clear h g hf
  go_enter Try.func15, Try.ntmps15
  go_wp2_with (go_at_call 22; refine (FC _ HA.out).mono ?_; rintro e w5 ⟨rfl, hb5⟩; have hc5 : w5.cell? ⟨w.heap.size, 0, none⟩ = some (.slice (some ⟨b, off, none⟩) 128 c) := (hb5.cell (p := ⟨w.heap.size, 0, none⟩) (by simp)).trans (by simp); have HB5 := Lib.hid (chain (chain1 (Below.refl w.heap.size w) _) hb5); have hz5 := hb5.size; rw [World.size_alloc] at hz5; clear hb5)
  have HS5 := Lib.hid (HH.out.below HB5.out)
  go_loopw [4, 16] (fun u i wr => ∃ k : Nat, k ≤ 128 ∧ i = .int .i64 k ∧ Hid (Below w5.heap.size w5 wr)) (fun _ i _ => 128 - (intOf i).toNat)
  case atStart => exact ⟨0, by omega, rfl, Lib.hid (Below.refl _ _)⟩
  case round =>
    obtain ⟨k, hk, rfl, HB⟩ := hrel
    by_cases hlt : k < 128
    · have hki : (k : Int) < 128 := by omega
      have hcr : wr.cell? ⟨w.heap.size, 0, none⟩ = some (.slice (some ⟨b, off, none⟩) 128 c) := (HB.out.cell (p := ⟨w.heap.size, 0, none⟩) (by show w.heap.size < w5.heap.size; omega)).trans hc5
      have LC := lost_ok w.heap.size b off c k l HG.out wr hcr (HS5.out.below HB.out) hlt
      clear hcr
      go_wp2_with fail
      refine LC.mono ?_
      rintro e w6 ⟨rfl, hb6⟩
      go_wp2_with fail
      refine ⟨⟨k + 1, by omega, by first | rfl | (rw [wrap_suc k (by omega)]; rfl), Lib.hid (chain HB.out hb6)⟩, by first | (simp [intOf]; done) | (simp [intOf]; omega) | (rw [wrap_suc k (by omega)]; simp [intOf]; omega)⟩
    · have hke : k = 128 := by omega
      subst hke
      go_wp2_with fail
      go_ret
      exact ⟨rfl, chain HB5.out HB.out⟩
set_option maxRecDepth 100000 in
set_option maxHeartbeats 4000000 in
theorem get_none (v : Value) (l : List Pl) (w : World) : Calls Try.prog 14 #[v, .string ⟨#[]⟩] w fun e w' => e = .returned (.tuple #[.int .i64 ((valL l ⟨#[]⟩).getD 0), .bool (valL l ⟨#[]⟩).isSome]) ∧ Below w.heap.size w w' := by
  rw [val_empty (l := l) (none_eq.2 rfl)]
  go_enter Try.func14, Try.ntmps14
  go_wp2_with fail
  go_ret2
  exact ⟨rfl, Below.refl _ _⟩
set_option maxRecDepth 100000 in
set_option maxHeartbeats 4000000 in
theorem get_some (b off c : Nat) (l : List Pl) (g : OkL l) (hc0 : 128 ≤ c) (k : ByteArray) (hk : k.size ≤ 100000) (hz : noneS k = false) (w : World) (h : Sees w 2 (some ⟨b, off, none⟩) 128 (flat encP l)) :
    Calls Try.prog 14 #[.slice (some ⟨b, off, none⟩) 128 c, .string k] w fun e w' => e = .returned (.tuple #[.int .i64 ((valL l k).getD 0), .bool (valL l k).isSome]) ∧ Below w.heap.size w w' := by
  obtain ⟨e0, he, hze⟩ := g.empty
  obtain ⟨s0, hs⟩ := first_some (n := 128) (by omega) l k (hN 128 k) he hze
  obtain ⟨hh, hhl⟩ := hN_home 128 (by omega) k
  have CK := fun W (h : Sees W 2 (some ⟨b, off, none⟩) 128 (flat encP l)) => check_ok b off c l g hc0 W h
  have FC := fun W (h : Sees W 2 (some ⟨b, off, none⟩) 128 (flat encP l)) => find_c b off 128 c l k hk (hN 128 k) s0 W h g.len (by omega) (by omega) hh hhl hs.1 hs.2.1 hs.2.2
  have hth := first_there g hz hs
  have hpl : posT 128 (hN 128 k) s0 < 128 := posT_lt (by omega) _ _
  have hlen := g.len
  obtain ⟨p, hpp⟩ : ∃ p, posT 128 (hN 128 k) s0 = p := ⟨_, rfl⟩
  rw [hpp] at FC hth hpl
  have hpi : (p : Int) < 128 := by omega
  have HH := Lib.hid h
  have hz2 : (k.toList == []) = false := hz
  have PC := fun W (h : Sees W 2 (some ⟨b, off, none⟩) 128 (flat encP l)) => place_cells h (j := p) (by rw [hlen]; exact hpl)
  obtain ⟨⟨s, x⟩, hp⟩ : ∃ p', atP l p = p' := ⟨_, rfl⟩
  rw [hp] at PC hth
  dsimp only at PC hth
  have hval : (valL l k).getD 0 = x ∧ (valL l k).isSome = (s.toList == k.toList) := by
    rcases hth with ⟨rfl, e⟩ | ⟨hne, e1, e2, _⟩
    · rw [e]; exact ⟨rfl, by simp⟩
    · rw [e2]
      unfold noP at e1
      injection e1 with e3 e4
      refine ⟨e4.symm, ?_⟩
      cases hb : (s.toList == k.toList) with
      | false => rfl
      | true => exact absurd (key_eq.1 hb) hne
  obtain ⟨h1, h2⟩ := hval
  rw [h1, h2]
  clear h hs hze he hth hpl hh hhl hpp hp hlen hz g h1 h2
  go_enter Try.func14, Try.ntmps14
  go_wp2_with (first
    | (go_at_call 15; refine (CK _ HH.out).mono ?_; rintro e w5 ⟨rfl, hb5⟩; have HB5 := Lib.hid hb5; have HS5 := Lib.hid (HH.out.below hb5); clear hb5)
    | (go_at_call 21; refine (FC _ HS5.out).mono ?_; rintro e w6 ⟨rfl, rfl⟩; obtain ⟨c0, c1⟩ := PC _ HS5.out))
  (refine region_later (by kernel_rfl) (by kernel_rfl) ?_); (intro hlat); (repeat (go_big_quiet_step ((fail)))); (refine wpQuiet_nil ?_); (intro W1 hb1); (clear hlat)
  go_wp2_with fail
  go_ret2
  exact ⟨rfl, chain2 HB5.out hb1⟩
theorem get_ok (b off c : Nat) (l : List Pl) (g : OkL l) (hc0 : 128 ≤ c) (k : ByteArray) (hk : k.size ≤ 100000) (w : World) (h : Sees w 2 (some ⟨b, off, none⟩) 128 (flat encP l)) :
    Calls Try.prog 14 #[.slice (some ⟨b, off, none⟩) 128 c, .string k] w fun e w' => e = .returned (.tuple #[.int .i64 ((valL l k).getD 0), .bool (valL l k).isSome]) ∧ Below w.heap.size w w' := by
  cases hz : noneS k with
  | true =>
    obtain rfl := none_eq.1 hz
    exact get_none _ l w
  | false => exact get_some b off c l g hc0 k hk hz w h
end Go.Proofs.Try
