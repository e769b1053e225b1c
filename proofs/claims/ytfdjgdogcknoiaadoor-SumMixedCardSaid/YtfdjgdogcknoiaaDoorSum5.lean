/- Bytes, Seal, Open of layer 6, in theory and as contracts. -/
import Derived.Test.YtfdjgdogcknoiaaDoorSum4
namespace Go.Proofs.Tryd
open Go.RowKit Go.Deep
set_option linter.unusedVariables false
set_option linter.unusedSimpArgs false

/-- The four bytes of a number. -/
def be4 (n : Nat) : List UInt8 := [UInt8.ofNat (n / 16777216 % 256), UInt8.ofNat (n / 65536 % 256), UInt8.ofNat (n / 256 % 256), UInt8.ofNat (n % 256)]
theorem be4_len (n : Nat) : (be4 n).length = 4 := rfl
theorem u8_mod (a b : Nat) (h : UInt8.ofNat (a % 256) = UInt8.ofNat (b % 256)) : a % 256 = b % 256 := by
  have := congrArg UInt8.toNat h
  simp at this
  omega
theorem be4_inj (n m : Nat) (hn : n < 4294967296) (hm : m < 4294967296) (h : be4 n = be4 m) : n = m := by
  unfold be4 at h
  injection h with h1 h
  injection h with h2 h
  injection h with h3 h
  injection h with h4 _
  have e1 := u8_mod _ _ h1
  have e2 := u8_mod _ _ h2
  have e3 := u8_mod _ _ h3
  have e4 := u8_mod _ _ h4
  omega
def sumL (l : List UInt8) : Nat := (crc 0#32 l).toNat
theorem sumL_lt (l : List UInt8) : sumL l < 4294967296 := (crc 0#32 l).isLt
def sealL (l : List UInt8) : List UInt8 := (be4 l.length ++ l) ++ be4 (sumL (be4 l.length ++ l))
theorem seal_len (l : List UInt8) : (sealL l).length = l.length + 8 := by
  unfold sealL
  simp only [List.length_append, be4_len]
  omega
def mid (s : List UInt8) : List UInt8 := (s.take (s.length - 4)).drop 4
theorem mid_seal (l : List UInt8) : mid (sealL l) = l := by
  unfold mid
  rw [seal_len]
  unfold sealL
  rw [show l.length + 8 - 4 = (be4 l.length ++ l).length by rw [List.length_append, be4_len]; omega, List.take_left', show (4 : Nat) = (be4 l.length).length from rfl, List.drop_left']
  · rfl
  · rfl
open Classical in
noncomputable def openL (s : List UInt8) : Option (List UInt8) := if 8 ≤ s.length ∧ sealL (mid s) = s then some (mid s) else none
theorem open_seal (l : List UInt8) : openL (sealL l) = some l := by
  unfold openL
  rw [mid_seal, if_pos ⟨by rw [seal_len]; omega, rfl⟩]
theorem open_some (s t : List UInt8) (h : openL s = some t) : sealL t = s := by
  unfold openL at h
  split at h
  · rename_i hc
    injection h with h
    rw [← h]
    exact hc.2
  · cases h
theorem open_head (s t : List UInt8) (h : openL s = some t) : s.take 4 = be4 t.length ∧ s.length = t.length + 8 := by
  have e := open_some s t h
  refine ⟨?_, by rw [← e, seal_len]⟩
  rw [← e]
  unfold sealL
  rw [List.append_assoc]
  exact List.take_left' rfl
theorem seal_take4 (l : List UInt8) : (sealL l).take 4 = be4 l.length := by
  unfold sealL
  rw [List.append_assoc]
  exact List.take_left' rfl
theorem open_cut (l : List UInt8) (k : Nat) (hl : l.length ≤ 1000000) (hk : k < (sealL l).length) : openL ((sealL l).take k) = none := by
  cases h : openL ((sealL l).take k) with
  | none => rfl
  | some t =>
    obtain ⟨h1, h2⟩ := open_head _ t h
    rw [List.length_take, Nat.min_eq_left (Nat.le_of_lt hk)] at h2
    rw [List.take_take, Nat.min_eq_left (by omega), seal_take4] at h1
    rw [seal_len] at hk
    have := be4_inj _ _ (by omega) (by omega) h1
    omega
theorem open_more (l z : List UInt8) (hl : l.length ≤ 1000000) (hz : 0 < z.length) (hz2 : z.length ≤ 1000000) : openL (sealL l ++ z) = none := by
  cases h : openL (sealL l ++ z) with
  | none => rfl
  | some t =>
    obtain ⟨h1, h2⟩ := open_head _ t h
    rw [List.length_append, seal_len] at h2
    rw [List.take_append_of_le_length (by rw [seal_len]; omega), seal_take4] at h1
    have := be4_inj _ _ (by omega) (by omega) h1
    omega
/-- What is told of a text that is opened. -/
def opR : Option (List UInt8) → Value
  | none => .tuple #[.string ⟨#[]⟩, .bool false]
  | some t => .tuple #[.string (S t), .bool true]
theorem S_be4 (N : Nat) : S (be4 N) = S [UInt8.ofNat (N / 16777216 % 256), UInt8.ofNat (N / 65536 % 256), UInt8.ofNat (N / 256 % 256), UInt8.ofNat (N % 256)] := rfl
theorem byte_at4 (a b c d : UInt8) (j : Nat) : byteAt (S [a, b, c, d]) j = ((([a, b, c, d].getD j 0).toNat : Nat) : Int) := by
  unfold byteAt; rw [S_list]
theorem conv_be4 (N : Nat) (hN : N < 4294967296) (W : World) (g cap : Nat)
    (h0 : W.cell? ⟨g, 0, none⟩ = some (.int .u8 ((N : Int) / 16777216))) (h1 : W.cell? ⟨g, 1, none⟩ = some (.int .u8 ((N : Int) / 65536 % 256)))
    (h2 : W.cell? ⟨g, 2, none⟩ = some (.int .u8 ((N : Int) / 256 % 256))) (h3 : W.cell? ⟨g, 3, none⟩ = some (.int .u8 ((N : Int) % 256))) :
    (convert 34 9 (.slice (some ⟨g, 0, none⟩) 4 cap)).run Tryd.prog W = .ok (.string (S (be4 N))) W := by
  have k0 : (N : Int) / 16777216 = ((N / 16777216 % 256 : Nat) : Int) := by omega
  have k1 : (N : Int) / 65536 % 256 = ((N / 65536 % 256 : Nat) : Int) := by omega
  have k2 : (N : Int) / 256 % 256 = ((N / 256 % 256 : Nat) : Int) := by omega
  have k3 : (N : Int) % 256 = ((N % 256 : Nat) : Int) := by omega
  rw [k0] at h0
  rw [k1] at h1
  rw [k2] at h2
  rw [k3] at h3
  have hu : ∀ n : Nat, (UInt8.ofNat (n % 256)).toNat = n % 256 := fun n => by simp
  have := conv_str (S (be4 N)) g cap W (fun j hj => by
    rw [S_size, be4_len] at hj
    unfold be4
    rw [byte_at4]
    match j, hj with
    | 0, _ => rw [h0]; show _ = some (Value.int .u8 ((UInt8.ofNat (N / 16777216 % 256)).toNat : Int)); rw [hu]
    | 1, _ => rw [h1]; show _ = some (Value.int .u8 ((UInt8.ofNat (N / 65536 % 256)).toNat : Int)); rw [hu]
    | 2, _ => rw [h2]; show _ = some (Value.int .u8 ((UInt8.ofNat (N / 256 % 256)).toNat : Int)); rw [hu]
    | 3, _ => rw [h3]; show _ = some (Value.int .u8 ((UInt8.ofNat (N % 256)).toNat : Int)); rw [hu])
  rw [S_size, be4_len] at this
  exact this
set_option maxRecDepth 100000 in
set_option maxHeartbeats 1000000 in
theorem bytes_c (N : Nat) (hN : N < 4294967296) (w : World) :
    Calls Tryd.prog 14 #[.int .u32 (N : Int)] w fun r w' => r = .returned (.string (S (be4 N))) ∧ Below w.heap.size w w' := by
  have hc := conv_be4 N hN
  go_enter Tryd.func14, Tryd.ntmps14
  go_wp2_with fail
  go_ret
  exact ⟨rfl, by (repeat' (first | (with_reducible exact Below.refl _ _) | (with_reducible assumption) | (with_reducible refine Below.alloc ?_ ?_ _) | (with_reducible refine Below.drew ?_) | (with_reducible refine Below_drewN ?_ _) | (with_reducible refine Below.setCell ?_ ?_ _) | (refine Below.step (B' := ?_) (b := ?_) ?_ ?_ ?_; rotate_left 2; (with_reducible assumption)) | go_size))⟩
set_option maxRecDepth 100000 in
set_option maxHeartbeats 1000000 in
theorem rbytes_c (N : Nat) (hN : N < 4294967296) (w : World) :
    Calls Tryd.prog 15 #[.int .u32 (N : Int)] w fun r w' => r = .returned (.string (S (be4 N))) ∧ Below w.heap.size w w' := by
  have hc := conv_be4 N hN
  go_enter Tryd.func15, Tryd.ntmps15
  go_wp2_with fail
  go_ret
  exact ⟨rfl, by (repeat' (first | (with_reducible exact Below.refl _ _) | (with_reducible assumption) | (with_reducible refine Below.alloc ?_ ?_ _) | (with_reducible refine Below.drew ?_) | (with_reducible refine Below_drewN ?_ _) | (with_reducible refine Below.setCell ?_ ?_ _) | (refine Below.step (B' := ?_) (b := ?_) ?_ ?_ ?_; rotate_left 2; (with_reducible assumption)) | go_size))⟩
/-- What Seal's parts are, as strings. -/
theorem add_S3 (l : List UInt8) (h : l.length ≤ 1000000) : (∀ W, (Op.stringOp .add (S (be4 l.length)) (S l)).run Tryd.prog W = .ok (.string (S (be4 l.length ++ l))) W) ∧ (∀ W, (Op.stringOp .add (S (be4 l.length ++ l)) (S (be4 (sumL (be4 l.length ++ l))))).run Tryd.prog W = .ok (.string (S (sealL l))) W) :=
  ⟨fun W => add_S _ _ (by rw [be4_len]; unfold maxLen; omega) W, fun W => add_S _ _ (by rw [List.length_append, be4_len, be4_len]; unfold maxLen; omega) W⟩
theorem flat2 (a b : List UInt8) : [a, b].flatten = a ++ b := by simp
set_option maxRecDepth 100000 in
set_option maxHeartbeats 1000000 in
theorem seal_c (l : List UInt8) (h : l.length ≤ 1000000) (w : World) (hT : Steps w) :
    Calls Tryd.prog 16 #[.string (S l)] w fun r w' => r = .returned (.string (S (sealL l))) ∧ Below w.heap.size w w' := by
  have HT := Lib.hid hT
  have hsz := S_size l
  obtain ⟨a1, a2⟩ := add_S3 l h
  have B1 := bytes_c l.length (by omega)
  have B2 := bytes_c (sumL (be4 l.length ++ l)) (sumL_lt _)
  have HF := Lib.hid (flat2 (be4 l.length) l)
  have HS := Lib.hid (show (crc 0#32 (be4 l.length ++ l)).toNat = sumL (be4 l.length ++ l) from rfl)
  have HB4 := be4_len l.length
  clear hT
  go_enter Tryd.func16, Tryd.ntmps16
  go_wp2_with fail
  with_reducible refine (B1 _).mono ?_
  rintro e w1 ⟨rfl, hb1⟩
  have hz1 := hb1.size
  have HT1 := Lib.hid (HT.out.below hb1)
  go_wp2_with fail
  have HO := of_c (some ⟨w1.heap.size, 0, none⟩) 2 2 [be4 l.length, l] _ (HT1.out.below ((Below.refl _ _).alloc (Nat.le_refl _) _)) (Sees.new w1 #[.string (S (be4 l.length)), .string (S l)] 9) (by omega) (by intro p hp; simp at hp; rcases hp with rfl | rfl <;> omega)
  rw [HF.out, HS.out] at HO
  with_reducible refine HO.mono ?_
  rintro e w' ⟨rfl, rfl⟩
  clear HO
  go_wp2_with fail
  with_reducible refine (B2 _).mono ?_
  rintro e w2 ⟨rfl, hb2⟩
  go_wp2_with fail
  go_ret
  exact ⟨rfl, hb1.trans (((Below.refl _ _).alloc hz1 _).trans (hb2.mono (by simp; omega)))⟩
set_option maxRecDepth 100000 in
set_option maxHeartbeats 1000000 in
theorem rseal_c (l : List UInt8) (h : l.length ≤ 500000) (w : World) :
    Calls Tryd.prog 17 #[.string (S l)] w fun r w' => r = .returned (.string (S (sealL l))) ∧ Below w.heap.size w w' := by
  have hsz := S_size l
  obtain ⟨a1, a2⟩ := add_S3 l (by omega)
  have B1 := rbytes_c l.length (by omega)
  have B2 := rbytes_c (sumL (be4 l.length ++ l)) (sumL_lt _)
  have HO := fun w => rof_c (be4 l.length ++ l) w (by rw [List.length_append, be4_len]; omega)
  rw [show (crc 0#32 (be4 l.length ++ l)).toNat = sumL (be4 l.length ++ l) from rfl] at HO
  go_enter Tryd.func17, Tryd.ntmps17
  go_wp2_with fail
  with_reducible refine (B1 _).mono ?_
  rintro e w1 ⟨rfl, hb1⟩
  go_wp2_with fail
  with_reducible refine (HO _).mono ?_
  rintro e w' ⟨rfl, rfl⟩
  go_wp2_with fail
  with_reducible refine (B2 _).mono ?_
  rintro e w2 ⟨rfl, hb2⟩
  go_wp2_with fail
  go_ret
  exact ⟨rfl, hb1.trans (hb2.mono hb1.size)⟩
theorem open_no (s : List UInt8) (h : ¬ sealL (mid s) = s) : openL s = none := by
  unfold openL; rw [if_neg (fun hc => h hc.2)]
theorem open_short (s : List UInt8) (h : s.length < 8) : openL s = none := by
  unfold openL; rw [if_neg (fun hc => by omega)]
theorem open_yes (s : List UInt8) (h8 : 8 ≤ s.length) (h : sealL (mid s) = s) : openL s = some (mid s) := by
  unfold openL; rw [if_pos ⟨h8, h⟩]
theorem S_mid (s : List UInt8) (n : Nat) (h : s.length = n) : (S s).extract 4 (n - 4) = S (mid s) :=
  S_ext _ _ (by rw [Lib.extract_data, S_list, S_list]; unfold mid; rw [List.drop_take, h])
set_option maxRecDepth 100000 in
set_option maxHeartbeats 1000000 in
theorem open_c (s : List UInt8) (h : s.length ≤ 1000000) (w : World) (hT : Steps w) :
    Calls Tryd.prog 10 #[.string (S s)] w fun r w' => r = .returned (opR (openL s)) ∧ Below w.heap.size w w' := by
  have HT := Lib.hid hT
  have hsz := S_size s
  clear hT
  by_cases h8 : s.length < 8
  · have HO := Lib.hid (open_short s h8)
    have e0 : (s.length : Int) < 8 := by omega
    go_enter Tryd.func10, Tryd.ntmps10
    go_wp2_with fail
    refine bodyPost_ret (by simp [results, Tryd.results10, go_sem]; try rfl) rfl ?_
    exact ⟨by rw [HO.out]; rfl, Below.refl _ _⟩
  · have e0 : decide ((s.length : Int) < 8) = false := by simp; omega
    have hm := S_mid s s.length rfl
    have hml : (mid s).length ≤ 1000000 := by unfold mid; rw [List.length_drop, List.length_take]; omega
    have hw : IntKind.i64.wrap ((s.length : Int) - 4) = (s.length : Int) - 4 := by rw [IntKind.wrap_i64]; omega
    have hw2 : ((s.length : Int) - 4).toNat = s.length - 4 := by omega
    have i1 : (4 : Int) ≤ (s.length : Int) - 4 := by omega
    have i2 : (s.length : Int) - 4 ≤ (s.length : Int) := by omega
    have i3 : (0 : Int) ≤ (s.length : Int) - 4 := by omega
    have HS := seal_c (mid s) hml
    have hq := S_same (sealL (mid s)) s
    by_cases hc : sealL (mid s) = s
    · have HO := Lib.hid (open_yes s (by omega) hc)
      rw [decide_eq_true hc] at hq
      clear hc
      go_enter Tryd.func10, Tryd.ntmps10
      go_wp2_with fail
      with_reducible refine (HS _ HT.out).mono ?_
      rintro e w1 ⟨rfl, hb1⟩
      go_wp2_with fail
      refine bodyPost_ret (by simp [results, Tryd.results10, go_sem]; try rfl) rfl ?_
      exact ⟨by rw [HO.out]; rfl, hb1⟩
    · have HO := Lib.hid (open_no s hc)
      rw [decide_eq_false hc] at hq
      clear hc
      go_enter Tryd.func10, Tryd.ntmps10
      go_wp2_with fail
      with_reducible refine (HS _ HT.out).mono ?_
      rintro e w1 ⟨rfl, hb1⟩
      go_wp2_with fail
      refine bodyPost_ret (by simp [results, Tryd.results10, go_sem]; try rfl) rfl ?_
      exact ⟨by rw [HO.out]; rfl, hb1⟩
end Go.Proofs.Tryd
