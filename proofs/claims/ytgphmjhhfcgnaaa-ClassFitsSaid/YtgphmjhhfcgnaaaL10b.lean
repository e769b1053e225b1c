/- The walks of ClassRises and ClassSegments. -/
import Derived.Test.YtgphmjhhfcgnaaaL10a
namespace Go.Proofs.Try
open Go.RowKit
set_option linter.unusedVariables false

def tailB (t : Int) : Int := if t ≤ 0 then 0 else if t ≤ 8 then 8 else if t ≤ 16 then 16 else if t ≤ 32 then 32 else 64
theorem tailB_mono (s t : Int) (h : s ≤ t) : tailB s ≤ tailB t := by unfold tailB; (repeat' split) <;> omega
theorem tailB_in (s : Int) : 0 ≤ tailB s ∧ tailB s ≤ 64 := by unfold tailB; (repeat' split) <;> omega
theorem clsF_mono (s t : Int) (h1 : 1 ≤ s) (h : s ≤ t) : clsF t = -1 ∨ clsF s ≤ clsF t := by unfold clsF; (repeat' split) <;> omega
theorem clsF_lo (s : Int) : -1 ≤ clsF s := by unfold clsF; (repeat' split) <;> omega
theorem clsT_rep (k : Nat) : clsT (List.replicate k 3) = 64 * k := by
  induction k with
  | zero => rfl
  | succ k ih => rw [List.replicate_succ, clsT, ih, show clsB 3 = 64 from rfl]; omega
theorem clsT_cut (n : Int) (h : 1 ≤ n) : clsT (cutL n) = 64 * (n / 64) + tailB (n % 64) ∧ ((cutL n).length : Int) = n / 64 + (if n % 64 = 0 then 0 else 1) := by
  obtain ⟨k, hk⟩ : ∃ k : Nat, n / 64 = k := ⟨(n / 64).toNat, by omega⟩
  by_cases h0 : n % 64 = 0
  · rw [cutL_0 n 0 k (by omega) rfl, clsT_rep, h0, if_pos rfl, hk]
    exact ⟨by simp [tailB], by simp⟩
  · rw [cutL_1 n (n % 64) k (by omega) (by omega) (by omega), clsT_app, clsT_rep, if_neg h0, hk]
    refine ⟨?_, by simp⟩
    have : clsB (clsF (n % 64)) = tailB (n % 64) := by
      unfold clsF tailB
      (repeat' split) <;> first | rfl | omega
    simp [clsT, this]
theorem cut_rises (l h : Int) (h1 : 1 ≤ l) (hle : l ≤ h) : clsT (cutL l) ≤ clsT (cutL h) ∧ (cutL l).length ≤ (cutL h).length + 1 := by
  obtain ⟨a, b⟩ := clsT_cut l h1
  obtain ⟨c, d⟩ := clsT_cut h (by omega)
  rw [a, c]
  have e1 := tailB_in (l % 64)
  have e2 := tailB_in (h % 64)
  refine ⟨?_, ?_⟩
  · by_cases hk : l / 64 = h / 64
    · have := tailB_mono (l % 64) (h % 64) (by omega); omega
    · omega
  · split at b <;> split at d <;> omega

set_option maxHeartbeats 2000000 in
theorem rises (a0 a1 m M : Int) (hc : (a0 = m ∧ a1 = M ∧ m < M) ∨ (a0 = M ∧ a1 = m ∧ m < M) ∨ (a0 = m ∧ a1 = m ∧ M = m)) (q0 : 0 ≤ m) (q2 : M ≤ 65535) (w : World) :
    Calls Try.prog 6 #[.int .u16 a0, .int .u16 a1] w fun e w' => e = .returned (.bool true) ∧ Below w.heap.size w w' := by
  have q1 : m ≤ M := by omega
  have l1 : 1 ≤ 1 + m % 4096 ∧ 1 + m % 4096 ≤ 4096 := by omega
  obtain ⟨l1, l2⟩ := l1
  have qd : 0 ≤ M - m := by omega
  have qc : 0 < 4097 - (1 + m % 4096) := by omega
  have r0 := Int.emod_nonneg (M - m) (show 4097 - (1 + m % 4096) ≠ 0 by omega)
  have r1 := Int.emod_lt_of_pos (M - m) (show 0 < 4097 - (1 + m % 4096) by omega)
  generalize hl : 1 + m % 4096 = l at l1 l2 r0 r1 qc
  obtain ⟨g1, g2, g3⟩ : l ≤ l + (M - m) % (4097 - l) ∧ l + (M - m) % (4097 - l) ≤ 4096 ∧ 1 ≤ l + (M - m) % (4097 - l) := ⟨by omega, by omega, by omega⟩
  generalize hh : l + (M - m) % (4097 - l) = z at g1 g2 g3
  have hz : M = m → z = l := fun e => by rw [← hh, e]; simp
  have ez : wrap64 z = z := IntWalk.wrap64_in z (by omega)
  obtain ⟨t1, t2⟩ := cut_rises l z l1 g1
  have f1 := clsF_mono l z l1 g1
  have f2 := clsF_lo z
  have b1 := clsT_in (cutL l)
  have b2 := clsT_in (cutL z)
  have c1 := clsT_cut l l1
  have c2 := clsT_cut z g3
  have b3 : (cutL l).length ≤ 65 := by have := c1.2; split at this <;> omega
  have b4 : (cutL z).length ≤ 65 := by have := c2.2; split at this <;> omega
  clear c1 c2
  generalize hx : cutL l = xs at t1 t2 b1 b3
  generalize hy : cutL z = ys at t1 t2 b2 b4
  have HX := Lib.hid hx
  have HY := Lib.hid hy
  generalize hn : xs.length = n at t2 b1 b3
  generalize hk : ys.length = k at t2 b2 b4
  have HN := Lib.hid hn
  have HK := Lib.hid hk
  generalize hT : clsT xs = T at t1 b1
  generalize hU : clsT ys = U at t1 b2
  have HT := Lib.hid hT
  have HU := Lib.hid hU
  generalize hF : clsF z = F at f1 f2
  generalize hG : clsF l = G at f1
  clear hx hy hn hk hT hU
  have hf : F = -1 ∨ (F == -1) = false ∧ G ≤ F := by
    by_cases fe : F = -1
    · exact .inl fe
    · exact .inr ⟨by simpa using fe, by omega⟩
  clear f1
  rcases hc with ⟨rfl, rfl, hle⟩ | ⟨rfl, rfl, hle⟩ | ⟨rfl, rfl, hle⟩ <;> rcases hf with rfl | ⟨f3, f1⟩
  all_goals
    try (obtain rfl := hz hle; subst hle)
    clear hz
    go_enter Try.func6, Try.ntmps6
    go_wp2_with fail
    refine (awake10 _).mono ?_
    rintro e w1 ⟨rfl, hb1⟩
    have hz1 := hb1.size
    go_wp2_with fail
    with_reducible refine (cut_l _ l1 l2 xs HX.out n HN.out _).mono ?_
    rintro e w2 ⟨A, c, rfl, hc, hs, hb2⟩
    have hz2 := hb2.size
    go_wp2_with fail
    with_reducible refine (cut_l _ g3 g2 ys HY.out k HK.out _).mono ?_
    rintro e w3 ⟨B, d, rfl, hd, hr, hb3⟩
    have hz3 := hb3.size
    go_wp2_with (first
      | (go_at_call 15; refine (fit_c _ _).mono ?_; rintro e w' ⟨rfl, rfl⟩))
    with_reducible refine (room_t _ _ _ xs T HT.out _ (hs.below hb3) (by omega)).mono ?_
    rintro e w' ⟨rfl, rfl⟩
    go_wp2_with fail
    with_reducible refine (room_t _ _ _ ys U HU.out _ hr (by omega)).mono ?_
    rintro e w' ⟨rfl, rfl⟩
    go_wp2_with fail
    go_ret
    exact ⟨rfl, by (repeat' (first | (with_reducible exact Below.refl _ _) | (with_reducible assumption) | (with_reducible refine Below.alloc ?_ ?_ _) | (with_reducible refine Below.drew ?_) | (with_reducible refine Below_drewN ?_ _) | (with_reducible refine Below.setCell ?_ ?_ _) | (refine Below.step (B' := ?_) (b := ?_) ?_ ?_ ?_; rotate_left 2; (with_reducible assumption)) | go_size))⟩

theorem walk_ClassRises (a0 a1 : Int) (w0 : (Lit.int .u16 a0).wf = true) (w1 : (Lit.int .u16 a1).wf = true) (w : World) :
    Calls Try.prog 6 #[.int .u16 a0, .int .u16 a1] w fun e w' => e = .returned (.bool true) ∧ Below w.heap.size w w' := by
  obtain ⟨h0, h0'⟩ := bounds_u16 w0
  obtain ⟨h1, h1'⟩ := bounds_u16 w1
  by_cases h : a0 < a1
  · exact rises a0 a1 a0 a1 (.inl ⟨rfl, rfl, h⟩) h0 h1' w
  · by_cases g : a1 < a0
    · exact rises a0 a1 a1 a0 (.inr (.inl ⟨rfl, rfl, g⟩)) h1 h0' w
    · exact rises a0 a1 a0 a0 (.inr (.inr ⟨rfl, by omega, rfl⟩)) h0 h0' w
end Go.Proofs.Try
