/- The walks of SumTells, SumParts, SumBack, SumCuts. -/
import Derived.Test.YtfdjgdogcknoiaaDoorSum6
import Derived.Test.YtfdjgdogcknoiaaDoorChain
namespace Go.Proofs.Tryd
open Go.RowKit Go.Deep
set_option linter.unusedVariables false
set_option linter.unusedSimpArgs false

/-- Sums of a slice just made. -/
theorem of1 (x : List UInt8) (hx : x.length ≤ 100000) (w : World) (hT : Steps w) :
    Calls Tryd.prog 12 #[.slice (some ⟨w.heap.size, 0, none⟩) 1 1] (w.alloc (.cells #[.string (S x)] 9)) fun r w' => r = .returned (.int .u32 ((crc 0#32 x).toNat : Int)) ∧ (w.alloc (.cells #[.string (S x)] 9)) = w' := by
  have := of_c (some ⟨w.heap.size, 0, none⟩) 1 1 [x] _ (hT.below ((Below.refl _ _).alloc (Nat.le_refl _) _)) (Sees.new w #[.string (S x)] 9) (by omega) (by intro p hp; simp at hp; subst hp; omega)
  rwa [show [x].flatten = x by simp] at this
theorem of2 (x y : List UInt8) (hx : x.length ≤ 100000) (hy : y.length ≤ 100000) (w : World) (hT : Steps w) :
    Calls Tryd.prog 12 #[.slice (some ⟨w.heap.size, 0, none⟩) 2 2] (w.alloc (.cells #[.string (S x), .string (S y)] 9)) fun r w' => r = .returned (.int .u32 ((crc 0#32 (x ++ y)).toNat : Int)) ∧ (w.alloc (.cells #[.string (S x), .string (S y)] 9)) = w' := by
  have := of_c (some ⟨w.heap.size, 0, none⟩) 2 2 [x, y] _ (hT.below ((Below.refl _ _).alloc (Nat.le_refl _) _)) (Sees.new w #[.string (S x), .string (S y)] 9) (by omega) (by intro p hp; simp at hp; rcases hp with rfl | rfl <;> omega)
  rwa [show [x, y].flatten = x ++ y by simp] at this
theorem of3 (x y z : List UInt8) (hx : x.length ≤ 100000) (hy : y.length ≤ 100000) (hz : z.length ≤ 100000) (w : World) (hT : Steps w) :
    Calls Tryd.prog 12 #[.slice (some ⟨w.heap.size, 0, none⟩) 3 3] (w.alloc (.cells #[.string (S x), .string (S y), .string (S z)] 9)) fun r w' => r = .returned (.int .u32 ((crc 0#32 (x ++ (y ++ z))).toNat : Int)) ∧ (w.alloc (.cells #[.string (S x), .string (S y), .string (S z)] 9)) = w' := by
  have := of_c (some ⟨w.heap.size, 0, none⟩) 3 3 [x, y, z] _ (hT.below ((Below.refl _ _).alloc (Nat.le_refl _) _)) (Sees.new w #[.string (S x), .string (S y), .string (S z)] 9) (by omega) (by intro p hp; simp at hp; rcases hp with rfl | rfl | rfl <;> omega)
  rwa [show [x, y, z].flatten = x ++ (y ++ z) by simp] at this
theorem op_all (s : List UInt8) : ∃ (t : ByteArray) (b : Bool), opR (openL s) = .tuple #[.string t, .bool b] := by
  cases openL s with
  | none => exact ⟨_, _, rfl⟩
  | some p => exact ⟨_, _, rfl⟩
set_option maxRecDepth 100000 in
set_option maxHeartbeats 3000000 in
theorem walk_SumTells (a0 : ByteArray) (a1 : Int) (w0 : a0.size ≤ maxLen) (w1 : (Lit.int .u32 a1).wf = true) (w : World) (hT : Steps w) :
    Calls Tryd.prog 3 #[.string a0, .int .u32 a1] w fun e w' => e = .returned (.bool true) ∧ Below w.heap.size w w' := by
  obtain ⟨s, rfl⟩ : ∃ s, a0 = S s := ⟨a0.data.toList, (S_of a0).symm⟩
  have hsz := S_size s
  rw [hsz] at w0
  have w0' : s.length ≤ 9223372036854775807 := by unfold maxLen at w0; omega
  clear w0
  have HT := Lib.hid hT
  clear hT
  obtain ⟨p0, p1⟩ := bounds_u32 w1
  obtain ⟨m, rfl⟩ := Int.eq_ofNat_of_zero_le p0
  clear w1
  by_cases c0 : s.length ≤ 1000
  · have d0 : decide (1000 < (s.length : Int)) = false := by simp; omega
    have T1 := open_c s (by omega)
    have T2 := ropen_c s (by omega)
    obtain ⟨t, b, ho⟩ := op_all s
    rw [ho] at T1 T2
    have O1 := of1 s (by omega)
    have O2 := fun w => rof_c s w (by omega)
    have B1 := bytes_c m (by omega)
    have B2 := rbytes_c m (by omega)
    have S1 := seal_c s (by omega)
    have S2 := rseal_c s (by omega)
    generalize (crc 0#32 s).toNat = K at *
    generalize sealL s = X at *
    generalize be4 m = Y at *
    clear ho
    go_enter Tryd.func3, Tryd.ntmps3
    go_wp2_with fail
    with_reducible refine (awake6 _ HT.out).mono ?_
    rintro e w1 ⟨rfl, hb1⟩
    have HBW := Lib.hid hb1
    have HT := Lib.hid (HT.out.below hb1)
    clear hb1
    go_wp2_with fail
    with_reducible refine (T1 _ HT.out).mono ?_
    rintro e w2 ⟨rfl, hb2⟩
    have HBW := Lib.hid (chain HBW.out hb2)
    have HT := Lib.hid (HT.out.below hb2)
    clear hb2
    go_wp2_with fail
    with_reducible refine (T2 _).mono ?_
    rintro e w3 ⟨rfl, hb3⟩
    have HBW := Lib.hid (chain HBW.out hb3)
    have HT := Lib.hid (HT.out.below hb3)
    clear hb3
    go_wp2_with fail
    with_reducible refine (O1 _ HT.out).mono ?_
    rintro e w' ⟨rfl, rfl⟩
    have HBW := Lib.hid (chain1 HBW.out (.cells #[.string (S s)] 9))
    have HT := Lib.hid (HT.out.below ((Below.refl _ _).alloc (Nat.le_refl _) (.cells #[.string (S s)] 9)))
    go_wp2_with fail
    with_reducible refine (O2 _).mono ?_
    rintro e w' ⟨rfl, rfl⟩
    go_wp2_with fail
    with_reducible refine (B1 _).mono ?_
    rintro e w4 ⟨rfl, hb4⟩
    have HBW := Lib.hid (chain HBW.out hb4)
    have HT := Lib.hid (HT.out.below hb4)
    clear hb4
    go_wp2_with fail
    with_reducible refine (B2 _).mono ?_
    rintro e w5 ⟨rfl, hb5⟩
    have HBW := Lib.hid (chain HBW.out hb5)
    have HT := Lib.hid (HT.out.below hb5)
    clear hb5
    go_wp2_with fail
    with_reducible refine (S1 _ HT.out).mono ?_
    rintro e w6 ⟨rfl, hb6⟩
    have HBW := Lib.hid (chain HBW.out hb6)
    have HT := Lib.hid (HT.out.below hb6)
    clear hb6
    go_wp2_with fail
    with_reducible refine (S2 _).mono ?_
    rintro e w7 ⟨rfl, hb7⟩
    have HBW := Lib.hid (chain HBW.out hb7)
    have HT := Lib.hid (HT.out.below hb7)
    clear hb7
    go_wp2_with fail
    go_ret
    exact ⟨by first | rfl | (simp; done), HBW.out⟩
  · have d0 : 1000 < (s.length : Int) := by omega
    go_enter Tryd.func3, Tryd.ntmps3
    go_wp2_with fail
    with_reducible refine (awake6 _ HT.out).mono ?_
    rintro e w1 ⟨rfl, hb1⟩
    have HBW := Lib.hid hb1
    clear hb1
    go_wp2_with fail
    go_ret
    exact ⟨rfl, HBW.out⟩
set_option maxRecDepth 100000 in
set_option maxHeartbeats 3000000 in
theorem walk_SumParts (a0 a1 a2 : ByteArray) (w0 : a0.size ≤ maxLen) (w1 : a1.size ≤ maxLen) (w2 : a2.size ≤ maxLen) (w : World) (hT : Steps w) :
    Calls Tryd.prog 4 #[.string a0, .string a1, .string a2] w fun e w' => e = .returned (.bool true) ∧ Below w.heap.size w w' := by
  obtain ⟨s, rfl⟩ : ∃ s, a0 = S s := ⟨a0.data.toList, (S_of a0).symm⟩
  have hsz := S_size s
  rw [hsz] at w0
  have w0' : s.length ≤ 9223372036854775807 := by unfold maxLen at w0; omega
  clear w0
  have HT := Lib.hid hT
  clear hT
  obtain ⟨t, rfl⟩ : ∃ s, a1 = S s := ⟨a1.data.toList, (S_of a1).symm⟩
  obtain ⟨u, rfl⟩ : ∃ s, a2 = S s := ⟨a2.data.toList, (S_of a2).symm⟩
  have hst := S_size t
  have hsu := S_size u
  rw [hst] at w1
  rw [hsu] at w2
  have w1' : t.length ≤ 9223372036854775807 := by unfold maxLen at w1; omega
  have w2' : u.length ≤ 9223372036854775807 := by unfold maxLen at w2; omega
  clear w1 w2
  by_cases c0 : s.length ≤ 300
  · have d0 : decide (300 < (s.length : Int)) = false := by simp; omega
    by_cases c1 : t.length ≤ 300
    · have d1 : decide (300 < (t.length : Int)) = false := by simp; omega
      by_cases c2 : u.length ≤ 300
      · have d2 : decide (300 < (u.length : Int)) = false := by simp; omega
        have O1 := of3 s t u (by omega) (by omega) (by omega)
        have O2 := of1 (s ++ t ++ u) (by simp only [List.length_append]; omega)
        have O3 := of2 (s ++ t) u (by simp only [List.length_append]; omega) (by omega)
        have O4 := of2 s (t ++ u) (by omega) (by simp only [List.length_append]; omega)
        rw [List.append_assoc] at O3
        have e3 : (s ++ t ++ u) = s ++ (t ++ u) := List.append_assoc _ _ _
        have O2' := O2
        rw [e3] at O2'
        have A1 := fun W => add_S s t (by unfold maxLen; omega) W
        have A2 := fun W => add_S (s ++ t) u (by rw [List.length_append]; unfold maxLen; omega) W
        have A3 := fun W => add_S t u (by unfold maxLen; omega) W
        rw [e3] at A2
        clear O2 e3
        generalize (crc 0#32 (s ++ (t ++ u))).toNat = K at *
        generalize s ++ (t ++ u) = X3 at *
        generalize s ++ t = X1 at *
        generalize t ++ u = X2 at *
        go_enter Tryd.func4, Tryd.ntmps4
        go_wp2_with fail
        with_reducible refine (awake6 _ HT.out).mono ?_
        rintro e w1 ⟨rfl, hb1⟩
        have HBW := Lib.hid hb1
        have HT := Lib.hid (HT.out.below hb1)
        clear hb1
        go_wp2_with fail
        with_reducible refine (O1 _ HT.out).mono ?_
        rintro e w' ⟨rfl, rfl⟩
        have HBW := Lib.hid (chain1 HBW.out (.cells #[.string (S s), .string (S t), .string (S u)] 9))
        have HT := Lib.hid (HT.out.below ((Below.refl _ _).alloc (Nat.le_refl _) (.cells #[.string (S s), .string (S t), .string (S u)] 9)))
        go_wp2_with fail
        have HC9 := O2' _ HT.out
        simp only [World.size_alloc] at HC9
        with_reducible refine HC9.mono ?_
        rintro e w' ⟨rfl, rfl⟩
        clear HC9
        have HBW := Lib.hid (chain1 HBW.out (.cells #[.string (S X3)] 9))
        have HT := Lib.hid (HT.out.below ((Below.refl _ _).alloc (Nat.le_refl _) (.cells #[.string (S X3)] 9)))
        go_wp2_with fail
        have HC9 := O3 _ HT.out
        simp only [World.size_alloc] at HC9
        with_reducible refine HC9.mono ?_
        rintro e w' ⟨rfl, rfl⟩
        clear HC9
        have HBW := Lib.hid (chain1 HBW.out (.cells #[.string (S X1), .string (S u)] 9))
        have HT := Lib.hid (HT.out.below ((Below.refl _ _).alloc (Nat.le_refl _) (.cells #[.string (S X1), .string (S u)] 9)))
        go_wp2_with fail
        have HC9 := O4 _ HT.out
        simp only [World.size_alloc] at HC9
        with_reducible refine HC9.mono ?_
        rintro e w' ⟨rfl, rfl⟩
        clear HC9
        have HBW := Lib.hid (chain1 HBW.out (.cells #[.string (S s), .string (S X2)] 9))
        have HT := Lib.hid (HT.out.below ((Below.refl _ _).alloc (Nat.le_refl _) (.cells #[.string (S s), .string (S X2)] 9)))
        go_wp2_with fail
        go_ret
        exact ⟨by first | rfl | (simp; done), HBW.out⟩
      · have d0 : 300 < (u.length : Int) := by omega
        go_enter Tryd.func4, Tryd.ntmps4
        go_wp2_with fail
        with_reducible refine (awake6 _ HT.out).mono ?_
        rintro e w1 ⟨rfl, hb1⟩
        have HBW := Lib.hid hb1
        clear hb1
        go_wp2_with fail
        go_ret
        exact ⟨rfl, HBW.out⟩
    · have d0 : 300 < (t.length : Int) := by omega
      go_enter Tryd.func4, Tryd.ntmps4
      go_wp2_with fail
      with_reducible refine (awake6 _ HT.out).mono ?_
      rintro e w1 ⟨rfl, hb1⟩
      have HBW := Lib.hid hb1
      clear hb1
      go_wp2_with fail
      go_ret
      exact ⟨rfl, HBW.out⟩
  · have d0 : 300 < (s.length : Int) := by omega
    go_enter Tryd.func4, Tryd.ntmps4
    go_wp2_with fail
    with_reducible refine (awake6 _ HT.out).mono ?_
    rintro e w1 ⟨rfl, hb1⟩
    have HBW := Lib.hid hb1
    clear hb1
    go_wp2_with fail
    go_ret
    exact ⟨rfl, HBW.out⟩
set_option maxRecDepth 100000 in
set_option maxHeartbeats 3000000 in
theorem walk_SumBack (a0 : ByteArray) (w0 : a0.size ≤ maxLen) (w : World) (hT : Steps w) :
    Calls Tryd.prog 5 #[.string a0] w fun e w' => e = .returned (.bool true) ∧ Below w.heap.size w w' := by
  obtain ⟨s, rfl⟩ : ∃ s, a0 = S s := ⟨a0.data.toList, (S_of a0).symm⟩
  have hsz := S_size s
  rw [hsz] at w0
  have w0' : s.length ≤ 9223372036854775807 := by unfold maxLen at w0; omega
  clear w0
  have HT := Lib.hid hT
  clear hT
  by_cases c0 : s.length ≤ 1000
  · have d0 : decide (1000 < (s.length : Int)) = false := by simp; omega
    have S1 := seal_c s (by omega)
    have hsl := seal_len s
    have T1 := open_c (sealL s) (by omega)
    rw [open_seal] at T1
    have T2 := open_c s (by omega)
    have hls := S_size (sealL s)
    rw [hsl] at hls
    have hi : IntKind.i64.wrap ((s.length : Int) + 8) = (s.length : Int) + 8 := by rw [IntKind.wrap_i64]; omega
    have hcast : ((s.length + 8 : Nat) : Int) = (s.length : Int) + 8 := by omega
    rw [hcast.symm] at hi
    cases ho : openL s with
    | none =>
      rw [ho] at T2
      unfold opR at T1 T2
      simp only at T1 T2
      clear ho hsl hcast
      generalize sealL s = X at *
      go_enter Tryd.func5, Tryd.ntmps5
      go_wp2_with fail
      with_reducible refine (awake6 _ HT.out).mono ?_
      rintro e w1 ⟨rfl, hb1⟩
      have HBW := Lib.hid hb1
      have HT := Lib.hid (HT.out.below hb1)
      clear hb1
      go_wp2_with fail
      with_reducible refine (S1 _ HT.out).mono ?_
      rintro e w2 ⟨rfl, hb2⟩
      have HBW := Lib.hid (chain HBW.out hb2)
      have HT := Lib.hid (HT.out.below hb2)
      clear hb2
      go_wp2_with fail
      with_reducible refine (T1 _ HT.out).mono ?_
      rintro e w3 ⟨rfl, hb3⟩
      have HBW := Lib.hid (chain HBW.out hb3)
      have HT := Lib.hid (HT.out.below hb3)
      clear hb3
      go_wp2_with fail
      with_reducible refine (T2 _ HT.out).mono ?_
      rintro e w4 ⟨rfl, hb4⟩
      have HBW := Lib.hid (chain HBW.out hb4)
      have HT := Lib.hid (HT.out.below hb4)
      clear hb4
      go_wp2_with fail
      with_reducible refine (S1 _ HT.out).mono ?_
      rintro e w5 ⟨rfl, hb5⟩
      have HBW := Lib.hid (chain HBW.out hb5)
      have HT := Lib.hid (HT.out.below hb5)
      clear hb5
      go_wp2_with fail
      go_ret
      exact ⟨by first | rfl | (simp; done), HBW.out⟩
    | some t =>
      have hs2 := open_some s t ho
      have hl2 := (open_head s t ho).2
      have S3 := seal_c t (by omega)
      rw [hs2] at S3
      rw [ho] at T2
      unfold opR at T1 T2
      simp only at T1 T2
      clear ho hsl hcast hs2
      generalize sealL s = X at *
      go_enter Tryd.func5, Tryd.ntmps5
      go_wp2_with fail
      with_reducible refine (awake6 _ HT.out).mono ?_
      rintro e w1 ⟨rfl, hb1⟩
      have HBW := Lib.hid hb1
      have HT := Lib.hid (HT.out.below hb1)
      clear hb1
      go_wp2_with fail
      with_reducible refine (S1 _ HT.out).mono ?_
      rintro e w2 ⟨rfl, hb2⟩
      have HBW := Lib.hid (chain HBW.out hb2)
      have HT := Lib.hid (HT.out.below hb2)
      clear hb2
      go_wp2_with fail
      with_reducible refine (T1 _ HT.out).mono ?_
      rintro e w3 ⟨rfl, hb3⟩
      have HBW := Lib.hid (chain HBW.out hb3)
      have HT := Lib.hid (HT.out.below hb3)
      clear hb3
      go_wp2_with fail
      with_reducible refine (T2 _ HT.out).mono ?_
      rintro e w4 ⟨rfl, hb4⟩
      have HBW := Lib.hid (chain HBW.out hb4)
      have HT := Lib.hid (HT.out.below hb4)
      clear hb4
      go_wp2_with fail
      with_reducible refine (S1 _ HT.out).mono ?_
      rintro e w5 ⟨rfl, hb5⟩
      have HBW := Lib.hid (chain HBW.out hb5)
      have HT := Lib.hid (HT.out.below hb5)
      clear hb5
      go_wp2_with fail
      with_reducible refine (S3 _ HT.out).mono ?_
      rintro e w6 ⟨rfl, hb6⟩
      have HBW := Lib.hid (chain HBW.out hb6)
      have HT := Lib.hid (HT.out.below hb6)
      clear hb6
      go_wp2_with fail
      go_ret
      exact ⟨by first | rfl | (simp; done), HBW.out⟩
  · have d0 : 1000 < (s.length : Int) := by omega
    go_enter Tryd.func5, Tryd.ntmps5
    go_wp2_with fail
    with_reducible refine (awake6 _ HT.out).mono ?_
    rintro e w1 ⟨rfl, hb1⟩
    have HBW := Lib.hid hb1
    clear hb1
    go_wp2_with fail
    go_ret
    exact ⟨rfl, HBW.out⟩
end Go.Proofs.Tryd
