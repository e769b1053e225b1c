/- The walk of SumBurst. -/
import Derived.Test.YtfdjgdogcknoiaaDoorBurst
import Derived.Test.YtfdjgdogcknoiaaDoorL6a
import Derived.Lib.ConvBytes
namespace Go.Proofs.Tryd
open Go.RowKit Go.Deep
set_option linter.unusedVariables false
set_option linter.unusedSimpArgs false

/-- A block holds these bytes, and they may be written. -/
def bytesAt (W : World) (b : Nat) (l : List UInt8) : Prop := ∀ j, j < l.length → W.cell? ⟨b, j, none⟩ = some (.int .u8 ((l.getD j 0).toNat : Int)) ∧ W.frozen? ⟨b, j, none⟩ = false
theorem bytesAt.set {W : World} {b : Nat} {l : List UInt8} (h : bytesAt W b l) (j : Nat) (hj : j < l.length) (x : UInt8) : bytesAt (W.setCell ⟨b, j, none⟩ (.int .u8 (x.toNat : Int))) b (l.set j x) := fun k hk => by
  rw [List.length_set] at hk
  refine ⟨?_, (World.frozen?_setCell _ _ _ _).trans (h k hk).2⟩
  by_cases e : j = k
  · subst e
    rw [World.cell?_setCell_same _ _ _ (h j hj).1, List.getD_eq_getElem?_getD, List.getElem?_set_self (by omega)]
    rfl
  · rw [World.cell?_setCell_other _ _ _ _ (by first | (simp; done) | (simp; omega)), (h k hk).1, List.getD_eq_getElem?_getD, List.getD_eq_getElem?_getD, List.getElem?_set_ne e]
theorem bytesWorld_below (w : World) (e : TypeId) (s : ByteArray) : Below w.heap.size w (Lib.bytesWorld w e s) :=
  ⟨rfl, rfl, rfl, by rw [Lib.bytesWorld_size]; omega, fun k hk => Lib.bytesWorld_at_old w e s k hk⟩
theorem bytesWorld_at (w : World) (e : TypeId) (l : List UInt8) : bytesAt (Lib.bytesWorld w e (S l)) w.heap.size l := fun j hj => by
  refine ⟨?_, ?_⟩
  · rw [Lib.bytesWorld_cell w e (S l) j (by rw [S_size]; exact hj), S_list]
  · have hsz : j < (Lib.bytesCells w e (S l)).size := by
      have h1 : (S l).data.size = l.length := by simp [S]
      unfold Lib.bytesCells
      rw [Array.size_append, Array.size_map, h1]
      omega
    simp [World.frozen?, Lib.bytesWorld_at_new]
    omega
theorem bytesAt.below {W W' : World} {b : Nat} {l : List UInt8} (h : bytesAt W b l) (hb : Below W.heap.size W W') (hlt : b < W.heap.size) : bytesAt W' b l := fun j hj =>
  ⟨(hb.cell (p := ⟨b, j, none⟩) hlt).trans (h j hj).1, (hb.frozen (p := ⟨b, j, none⟩) hlt).trans (h j hj).2⟩
theorem conv_at {W : World} {b cap : Nat} {l : List UInt8} (h : bytesAt W b l) : (convert 34 9 (.slice (some ⟨b, 0, none⟩) l.length cap)).run Tryd.prog W = .ok (.string (S l)) W := by
  have := conv_str (S l) b cap W (fun j hj => by
    rw [S_size] at hj
    rw [(h j hj).1]
    unfold byteAt
    rw [S_list])
  rw [S_size] at this
  exact this
theorem bit_test (B k : Nat) : ((((B : Int) / 2 ^ k).tmod 2 == 1) = true ↔ B.testBit k = true) := by
  have e : (B : Int) / 2 ^ k = ((B / 2 ^ k : Nat) : Int) := by simp
  have e2 : (((B / 2 ^ k : Nat) : Int)).tmod 2 = ((B / 2 ^ k % 2 : Nat) : Int) := by
    rw [Int.tmod_eq_emod_of_nonneg (Int.natCast_nonneg _)]; rfl
  rw [e, e2, Nat.testBit_eq_decide_div_mod_eq, beq_iff_eq, decide_eq_true_iff]
  omega
theorem xor_bit (x : UInt8) (n : Nat) : bits .xor .u8 (x.toNat : Int) (128 / 2 ^ (n % 8)) = (((x ^^^ bitOf n).toNat : Nat) : Int) := by
  have h8 : n % 8 < 8 := Nat.mod_lt _ (by omega)
  have hb : (bitOf n).toNat = 128 / 2 ^ (n % 8) := by
    unfold bitOf
    generalize n % 8 = r at h8
    match r, h8 with
    | 0, _ | 1, _ | 2, _ | 3, _ | 4, _ | 5, _ | 6, _ | 7, _ => decide
  have e : (128 : Int) / 2 ^ (n % 8) = ((128 / 2 ^ (n % 8) : Nat) : Int) := by simp
  rw [e, ← hb, bits_xor_u8_nat _ _ (UInt8.toNat_lt x) (UInt8.toNat_lt _), UInt8.toNat_xor]
set_option maxRecDepth 100000 in
set_option maxHeartbeats 3000000 in
theorem walk_SumBurst (a0 : ByteArray) (a1 a2 : Int) (w0 : a0.size ≤ maxLen) (w1 : (Lit.int .u16 a1).wf = true) (w2 : (Lit.int .u32 a2).wf = true) (w : World) (hT : Steps w) :
    Calls Tryd.prog 6 #[.string a0, .int .u16 a1, .int .u32 a2] w fun e w' => e = .returned (.bool true) ∧ Below w.heap.size w w' := by
  obtain ⟨s, rfl⟩ : ∃ s, a0 = S s := ⟨a0.data.toList, (S_of a0).symm⟩
  have hsz := S_size s
  rw [hsz] at w0
  have w0' : s.length ≤ 9223372036854775807 := by unfold maxLen at w0; omega
  obtain ⟨p0, p1⟩ := bounds_u16 w1
  obtain ⟨q0, q1⟩ := bounds_u32 w2
  obtain ⟨f, rfl⟩ := Int.eq_ofNat_of_zero_le p0
  obtain ⟨B, rfl⟩ := Int.eq_ofNat_of_zero_le q0
  clear w0 w1 w2
  have HT := Lib.hid hT
  clear hT
  by_cases c0 : s.length ≤ 1000
  · have d0 : decide (1000 < (s.length : Int)) = false := by simp; omega
    have S1 := seal_c s (by omega)
    have hsl := seal_len s
    have hsm := S_size (sealL s)
    have hcv := fun W => Lib.run_convert_string_bytes (P := Tryd.prog) W 9 34 5 (S (sealL s)) Tryd.underlying9 Tryd.underlying34 Tryd.underlying5
    rw [hsm, hsl] at hcv
    have hba := fun W => bytesWorld_at W 5 (sealL s)
    have hbb := fun W => bytesWorld_below W 5 (S (sealL s))
    have HOB := Lib.hid (open_burst s)
    generalize hX : sealL s = X at *
    have HX := Lib.hid hX
    clear hX
    go_enter Tryd.func6, Tryd.ntmps6
    go_wp2_with fail
    with_reducible refine (awake6 _ HT.out).mono ?_
    rintro e w1 ⟨rfl, hb1⟩
    have hz1 := hb1.size
    have HT1 := Lib.hid (HT.out.below hb1)
    go_wp2_with fail
    with_reducible refine (S1 _ HT1.out).mono ?_
    rintro e w2 ⟨rfl, hb2⟩
    have hz2 := hb2.size
    have HT2 := Lib.hid (HT1.out.below hb2)
    have HB2 := Lib.hid (chain hb1 hb2)
    clear hb1 hb2
    obtain ⟨F, hF, hF2⟩ : ∃ F : Nat, (f : Int) % (8 * ((s.length : Int) + 8) - 31) = (F : Int) ∧ F + 32 ≤ 8 * (s.length + 8) := by
      have h1 := Int.emod_nonneg (f : Int) (show (8 * ((s.length : Int) + 8) - 31) ≠ 0 by omega)
      have h2 := Int.emod_lt_of_pos (f : Int) (show 0 < (8 * ((s.length : Int) + 8) - 31) by omega)
      exact ⟨((f : Int) % (8 * ((s.length : Int) + 8) - 31)).toNat, by omega, by omega⟩
    have hba2 := hba w2
    have HBU := Lib.hid (chain HB2.out (hbb w2))
    have hzU := Lib.bytesWorld_size w2 5 (S X)
    go_wp2_with fail
    obtain ⟨U, hU⟩ : ∃ U, Lib.bytesWorld w2 5 (S X) = U := ⟨_, rfl⟩
    rw [hU] at hba2 HBU hzU
    rw [hU]
    have HBA := Lib.hid hba2
    clear hba hbb hcv hba2 hU
    generalize grownCap w2 (s.length + 8) 0 5 = C at *
    go_loopw [10] (fun i wr => ∃ k : Nat, k ≤ 32 ∧ i = .int .i64 k ∧ bytesAt wr w2.heap.size (burstL X F B k) ∧ Below w.heap.size w wr ∧ w2.heap.size < wr.heap.size) (fun i _ => 32 - (intOf i).toNat)
    case atStart => exact ⟨0, by omega, rfl, HBA.out, HBU.out, by omega⟩
    case round =>
      obtain ⟨k, hk, rfl, hat, hbw, hgz⟩ := hrel
      have hbl := burstL_len X F B k
      have HB := Lib.hid hbw
      have hzz := hbw.size
      by_cases hlt : k < 32
      · have hlt' : (k : Int) < 32 := by omega
        have hq : (F + k) / 8 < (burstL X F B k).length := by omega
        obtain ⟨hc, hfz⟩ := hat ((F + k) / 8) hq
        have hset := hat.set ((F + k) / 8) hq ((burstL X F B k).getD ((F + k) / 8) 0 ^^^ bitOf (F + k))
        have hxb := xor_bit ((burstL X F B k).getD ((F + k) / 8) 0) (F + k)
        by_cases hbit : B.testBit k = true
        · have hb := (bit_test B k).2 hbit
          have HN := Lib.hid (show burstL X F B (k + 1) = (burstL X F B k).set ((F + k) / 8) ((burstL X F B k).getD ((F + k) / 8) 0 ^^^ bitOf (F + k)) by rw [burstL, if_pos hbit]; rfl)
          obtain ⟨x, hx⟩ : ∃ x, (burstL X F B k).getD ((F + k) / 8) 0 = x := ⟨_, rfl⟩
          rw [hx] at hc hset hxb HN
          have HST := Lib.hid hset
          obtain ⟨V, hV⟩ : ∃ V, (x ^^^ bitOf (F + k)).toNat = V := ⟨_, rfl⟩
          have HV := Lib.hid hV
          rw [hV] at hxb
          clear hat hbw hbit hset hx hV
          go_wp2_with fail
          go_roundw
          case rel =>
            have h2 := HST.out
            rw [HV.out, ← HN.out] at h2
            exact ⟨k + 1, by omega, by go_num, h2, HB.out.setCell (p := ⟨w2.heap.size, (F + k) / 8, none⟩) (show w.heap.size ≤ w2.heap.size from Nat.le_trans hz1 hz2) _, by simpa using hgz⟩
          case measure => simp [intOf]; omega
        · have hb : (((B : Int) / 2 ^ k).tmod 2 == 1) = false := by
            cases h : (((B : Int) / 2 ^ k).tmod 2 == 1)
            · rfl
            · exact absurd ((bit_test B k).1 h) hbit
          have HN := Lib.hid (show burstL X F B (k + 1) = burstL X F B k by rw [burstL, if_neg hbit])
          have HA := Lib.hid hat
          clear hat hbw hbit hset hxb hc
          go_wp2_with fail
          go_roundw
          case rel => exact ⟨k + 1, by omega, by go_num, by rw [HN.out]; exact HA.out, HB.out, hgz⟩
          case measure => simp [intOf]; omega
      · have hke : k = 32 := by omega
        subst hke
        have hcv := conv_at (cap := C) hat
        rw [hbl, hsl] at hcv
        have HO := open_c (burstL X F B 32) (by omega) wr (HT.out.below hbw)
        rw [HOB.out F B (by omega) (by omega)] at HO
        clear hat hbw
        by_cases h0 : B = 0
        · rw [if_pos h0] at HO
          unfold opR at HO
          simp only at HO
          have e0 : ((B : Int) == 0) = true := by rw [beq_iff_eq]; omega
          clear h0
          go_wp2_with fail
          with_reducible refine HO.mono ?_
          rintro e w5 ⟨rfl, hb5⟩
          go_wp2_with fail
          go_ret
          exact ⟨by first | rfl | (simp; done), chain HB.out hb5⟩
        · rw [if_neg h0] at HO
          unfold opR at HO
          simp only at HO
          have e0 : ((B : Int) == 0) = false := by rw [beq_eq_false_iff_ne]; omega
          clear h0
          go_wp2_with fail
          with_reducible refine HO.mono ?_
          rintro e w5 ⟨rfl, hb5⟩
          go_wp2_with fail
          go_ret
          exact ⟨by first | rfl | (simp; done), chain HB.out hb5⟩
  · have d0 : 1000 < (s.length : Int) := by omega
    go_enter Tryd.func6, Tryd.ntmps6
    go_wp2_with fail
    with_reducible refine (awake6 _ HT.out).mono ?_
    rintro e w1 ⟨rfl, hb1⟩
    go_wp2_with fail
    go_ret
    exact ⟨rfl, hb1⟩
end Go.Proofs.Tryd
