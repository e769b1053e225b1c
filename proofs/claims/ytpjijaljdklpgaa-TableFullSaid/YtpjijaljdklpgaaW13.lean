/- The laws of layer 13: awake. -/
import Derived.Test.YtpjijaljdklpgaaTp
namespace Go.Proofs.Try
open Go.RowKit Go.Maps Go.Sort
set_option linter.unusedVariables false
set_option linter.unusedSimpArgs false
def kA : ByteArray := ⟨#[97]⟩
def kB : ByteArray := ⟨#[98]⟩
theorem put_fine {l : List Pl} (g : OkL l) {k : ByteArray} {v : Int} (hk : isKey k = true) (hf : fullN l < 96) : (putL l k v).2 = 0 := by
  rw [put_err g, if_neg (by rw [hk]; simp), if_neg (by rintro ⟨_, h⟩; omega)]
theorem aw_facts : ∃ l1 l2 l3, putL (noPl 128) ⟨#[98]⟩ 5 = (l1, 0) ∧ putL l1 ⟨#[97]⟩ 7 = (l2, 0) ∧ putL l2 ⟨#[98]⟩ 6 = (l3, 0) ∧ putL l3 ⟨#[]⟩ 1 = (l3, 90) ∧ valL l3 ⟨#[98]⟩ = some 6 ∧ fullN l3 = 2 ∧ keysL l3 = [[97], [98]] := by
  have hA : isKey kA = true := by decide +kernel
  have hB : isKey kB = true := by decide +kernel
  have hne : kA ≠ kB := by decide +kernel
  have g0 := ok_new
  have f0 := full_new
  have e1 := put_fine g0 (v := 5) hB (by omega)
  have g1 := put_ok g0 kB 5
  have v1 := put_val g0 e1
  have f1 := put_full g0 e1
  rw [val_new, if_pos rfl, f0] at f1
  have e2 := put_fine g1 (v := 7) hA (by omega)
  have g2 := put_ok g1 kA 7
  have v2 := put_val g1 e2
  have f2 := put_full g1 e2
  rw [v1, if_neg hne, val_new, if_pos rfl, f1] at f2
  have e3 := put_fine g2 (v := 6) hB (by omega)
  have g3 := put_ok g2 kB 6
  have v3 := put_val g2 e3
  have f3 := put_full g2 e3
  rw [v2, if_neg (Ne.symm hne), v1, if_pos rfl, if_neg (by simp), f2] at f3
  refine ⟨_, _, _, Prod.ext rfl e1, Prod.ext rfl e2, Prod.ext rfl e3, ?_, (v3 kB).trans (if_pos rfl), f3, ?_⟩
  · unfold putL
    rw [if_pos (show isKey ⟨#[]⟩ = false by decide +kernel)]
  · have hp : (keysT (putL (putL (putL (noPl 128) kB 5).1 kA 7).1 kB 6).1).Perm [kA, kB] := by
      refine (List.perm_ext_iff_of_nodup (keysT_nodup g3) (by simp [hne])).2 fun k => ?_
      rw [keysT_mem g3, v3, v2, v1, val_new]
      by_cases h1 : k = kB
      · subst h1; simp
      · by_cases h2 : k = kA
        · subst h2; simp [hne]
        · simp [h1, h2]
    show keysL (putL (putL (putL (noPl 128) kB 5).1 kA 7).1 kB 6).1 = _
    unfold keysL
    rw [show (((keysT (putL (putL (putL (noPl 128) kB 5).1 kA 7).1 kB 6).1).map bytesK).mergeSort leB) = ([kA, kB].map bytesK).mergeSort leB from mergeSort_of_perm (hp.map _)]
    exact List.mergeSort_of_pairwise (by decide +kernel)
set_option maxRecDepth 100000 in
set_option maxHeartbeats 8000000 in
theorem awake13 (w : World) :
    Calls Try.prog 8 #[] w fun r w' => r = .returned (.bool true) ∧ Below w.heap.size w w' := by
  obtain ⟨l1, l2, l3, e1, e2, e3, e4, v3, f3, k3⟩ := aw_facts
  have P1 := fun W v h => put_t v (noPl 128) ⟨#[98]⟩ 5 W h
  rw [e1] at P1
  have P2 := fun W v h => put_t v l1 ⟨#[97]⟩ 7 W h
  rw [e2] at P2
  have P3 := fun W v h => put_t v l2 ⟨#[98]⟩ 6 W h
  rw [e3] at P3
  have P4 := fun W v h => put_t v l3 ⟨#[]⟩ 1 W h
  rw [e4] at P4
  have G1 := fun W v h => get_t v l3 ⟨#[98]⟩ (by decide +kernel) W h
  rw [v3] at G1
  have D1 := fun W v h => del_t v l3 ⟨#[98]⟩ (by decide +kernel) W h
  have K1 := fun W v h => keys_t v l3 W h
  rw [f3, k3] at K1
  have HV := Lib.hid v3
  clear e1 e2 e3 e4 v3 f3 k3
  go_enter Try.func8, Try.ntmps8
  go_wp2_with fail
  refine (tnew_t _).mono ?_
  rintro e w1 ⟨u1, rfl, t1, hb1⟩
  have T1 := Lib.hid t1
  have HBW := Lib.hid hb1
  clear t1 hb1
  go_wp2_with fail
  refine (P1 _ _ T1.out).mono ?_
  rintro e w2 ⟨u2, rfl, t2, hb2⟩
  have T2 := Lib.hid t2
  replace HBW := Lib.hid (chain HBW.out hb2)
  clear t2 hb2 P1 T1
  go_wp2_with fail
  refine (P2 _ _ T2.out).mono ?_
  rintro e w3 ⟨u3, rfl, t3, hb3⟩
  have T3 := Lib.hid t3
  replace HBW := Lib.hid (chain HBW.out hb3)
  clear t3 hb3 P2 T2
  go_wp2_with fail
  refine (P3 _ _ T3.out).mono ?_
  rintro e w4 ⟨u4, rfl, t4, hb4⟩
  have T4 := Lib.hid t4
  replace HBW := Lib.hid (chain HBW.out hb4)
  clear t4 hb4 P3 T3
  go_wp2_with fail
  refine (P4 _ _ T4.out).mono ?_
  rintro e w5 ⟨u5, rfl, t5, hb5⟩
  replace T4 := Lib.hid (T4.out.below hb5)
  replace HBW := Lib.hid (chain HBW.out hb5)
  clear t5 hb5 P4
  go_wp2_with fail
  refine (G1 _ _ T4.out).mono ?_
  rintro e w6 ⟨rfl, hb6⟩
  replace T4 := Lib.hid (T4.out.below hb6)
  replace HBW := Lib.hid (chain HBW.out hb6)
  clear hb6 G1
  dsimp only [Option.getD_some, Option.isSome_some]
  go_wp2_with fail
  refine (D1 _ _ T4.out).mono ?_
  rintro e w7 ⟨u7, l4, x4, rfl, hd, t7, hb7⟩
  replace T4 := Lib.hid (T4.out.below hb7)
  replace HBW := Lib.hid (chain HBW.out hb7)
  have T7 := Lib.hid t7
  have hx : x4 = 0 ∧ valL l4 ⟨#[98]⟩ = none := by
    rcases hd with ⟨h, _⟩ | ⟨_, h1, h2⟩
    · rw [HV.out] at h; cases h
    · exact ⟨h1, by rw [h2.val, if_pos rfl]⟩
  obtain ⟨rfl, hv4⟩ := hx
  have G2 := fun W v h => get_t v l4 ⟨#[98]⟩ (by decide +kernel) W h
  rw [hv4] at G2
  have D2 := fun W v h => del_t v l4 ⟨#[98]⟩ (by decide +kernel) W h
  have HV4 := Lib.hid hv4
  clear t7 hb7 D1 hd hv4
  go_wp2_with fail
  refine (G2 _ _ T7.out).mono ?_
  rintro e w8 ⟨rfl, hb8⟩
  replace T4 := Lib.hid (T4.out.below hb8)
  replace T7 := Lib.hid (T7.out.below hb8)
  replace HBW := Lib.hid (chain HBW.out hb8)
  clear hb8 G2
  dsimp only [Option.getD_none, Option.isSome_none]
  go_wp2_with fail
  refine (D2 _ _ T7.out).mono ?_
  rintro e w9 ⟨u9, l5, x5, rfl, hd, t9, hb9⟩
  replace T4 := Lib.hid (T4.out.below hb9)
  replace HBW := Lib.hid (chain HBW.out hb9)
  obtain rfl : x5 = 120 := by
    rcases hd with ⟨_, _, h⟩ | ⟨h, _⟩
    · exact h
    · exact absurd HV4.out h
  clear t9 hb9 D2 hd T7
  go_wp2_with fail
  refine (K1 _ _ T4.out).mono ?_
  rintro e w10 ⟨A10, c10, rfl, hc10, hs10, hb10⟩
  replace T4 := Lib.hid (T4.out.below hb10)
  replace HBW := Lib.hid (chain HBW.out hb10)
  have S10 := Lib.hid hs10
  clear K1 hs10 hb10
  go_wp2_with fail
  refine (same7k _ _ 2 _ _ [[97], [98]] _ (S10.out.below ((Below.refl _ _).alloc (Nat.le_refl _) _)) (Sees.new _ _ _) (by omega)).mono ?_
  rintro e w11 ⟨rfl, hb11⟩
  replace T4 := Lib.hid (T4.out.below (chain2 (Below.refl _ _) hb11))
  replace HBW := Lib.hid (chain2 HBW.out hb11)
  clear hb11 S10
  go_wp2_with fail
  refine (tnew_c _).mono ?_
  rintro e w12 ⟨rfl, _, hb12⟩
  replace T4 := Lib.hid (T4.out.below hb12)
  replace HBW := Lib.hid (chain HBW.out hb12)
  clear hb12
  go_wp2_with fail
  refine (check_t _ _ _ T4.out).mono ?_
  rintro e w13 ⟨rfl, hb13⟩
  replace HBW := Lib.hid (chain HBW.out hb13)
  clear hb13
  go_wp2_with fail
  refine (check_nil _).mono ?_
  rintro e w14 ⟨rfl, hb14⟩
  replace HBW := Lib.hid (chain HBW.out hb14)
  clear hb14
  go_wp2_with fail
  go_ret
  exact ⟨rfl, HBW.out⟩
end Go.Proofs.Try
