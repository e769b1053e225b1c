/- Contracts of fixed.Mix. -/
import Derived.Test.YtbiifigiobnkpaaFix
import Derived.Deep.RegionHeld3
import Derived.Deep.RegionWith
import Derived.Deep.DeepCutAuto
namespace Go.Proofs.Try
open Go.RowKit
set_option linter.unusedVariables false


set_option maxRecDepth 100000 in
set_option maxHeartbeats 2000000 in
theorem lay_c (n m xh xl : Int) (g : Nat) (w : World) (h1 : 0 ≤ n) (h2 : 0 ≤ m) (h3 : n < 18446744073709551616) (h4 : m < 18446744073709551616) (h5 : 0 ≤ xh) (h6 : 0 ≤ xl) (h7 : xh < 18446744073709551616) (h8 : xl < 18446744073709551616)
    (hg : g < w.heap.size) (c0 : w.cell? ⟨g, 0, none⟩ = some (.int .u64 xh)) (c1 : w.cell? ⟨g, 1, none⟩ = some (.int .u64 xl)) (hf0 : w.frozen? ⟨g, 0, none⟩ = false) (hf1 : w.frozen? ⟨g, 1, none⟩ = false) :
    Calls Try.prog 53 #[.int .u64 n, .int .u64 m, .pointer (some ⟨g, 0, none⟩)] w fun r w' => r = .returned (.tuple #[]) ∧ Below g w w' ∧ g < w'.heap.size ∧ w'.frozen? ⟨g, 0, none⟩ = false ∧ w'.frozen? ⟨g, 1, none⟩ = false ∧
      w'.cell? ⟨g, 0, none⟩ = some (.int .u64 (aHi xh xl (n * m / 18446744073709551616) (n * m % 18446744073709551616))) ∧ w'.cell? ⟨g, 1, none⟩ = some (.int .u64 (aLo xl (n * m % 18446744073709551616))) := by
  have hp := Int.mul_nonneg h1 h2
  have hp' : n * m ≤ 18446744073709551615 * 18446744073709551615 := Int.mul_le_mul (by omega) (by omega) h2 (by omega)
  have hg' := Nat.le_of_lt hg
  go_enter Try.func53, Try.ntmps53
  go_wp2_with fail
  have HK : Hid (∀ W W' : World, Below W.heap.size W W' → (W.cell? ⟨g, 0, none⟩ = some (.int .u64 xh) ∧ W.cell? ⟨g, 1, none⟩ = some (.int .u64 xl) ∧ W.frozen? ⟨g, 0, none⟩ = false ∧ W.frozen? ⟨g, 1, none⟩ = false ∧ g < W.heap.size) →
    (W'.cell? ⟨g, 0, none⟩ = some (.int .u64 xh) ∧ W'.cell? ⟨g, 1, none⟩ = some (.int .u64 xl) ∧ W'.frozen? ⟨g, 0, none⟩ = false ∧ W'.frozen? ⟨g, 1, none⟩ = false ∧ g < W'.heap.size)) :=
    fun W W' hb ⟨a, b, c, c', d⟩ => ⟨(hb.cell (p := ⟨g, 0, none⟩) d).trans a, (hb.cell (p := ⟨g, 1, none⟩) d).trans b, (hb.frozen (p := ⟨g, 0, none⟩) d).trans c, (hb.frozen (p := ⟨g, 1, none⟩) d).trans c', Nat.lt_of_lt_of_le d hb.size⟩
  go_region_with (first
    | (go_at_call 43; refine (wmul_c _ _ (by omega) (by omega) (by omega) (by omega) _).mono ?_; rintro e w1 ⟨rfl, hb1⟩; obtain ⟨d0, d1, df0, df1, dg⟩ := HK.out _ _ hb1 ⟨c0, c1, hf0, hf1, hg⟩)
    | (go_at_call 54; refine (wadd_c _ _ _ _ (by omega) (by omega) (by omega) (by omega) (by omega) (by omega) (by omega) (by omega) _).mono ?_; rintro e w2 ⟨rfl, hb2⟩; obtain ⟨e0, e1, ef0, ef1, eg⟩ := HK.out _ _ hb2 ⟨d0, d1, df0, df1, dg⟩))
  all_goals
    go_end0
    refine ⟨rfl, ?_, ?_, ?_, ?_, ?_, ?_⟩
  all_goals first | (go_simp; done) | (repeat' (first | (with_reducible exact Below.refl _ _) | (with_reducible assumption) | (with_reducible refine Below.alloc ?_ ?_ _) | (with_reducible refine Below.drew ?_) | (with_reducible refine Below_drewN ?_ _) | (with_reducible refine Below.setCell ?_ ?_ _) | (refine Below.step (B' := ?_) (b := ?_) ?_ ?_ ?_; rotate_left 2; (with_reducible assumption)) | go_size))

theorem mix_math (a b m : Int) (ha : 0 ≤ a) (hb : 0 ≤ b) (ha' : a < 18446744073709551616) (hb' : b < 18446744073709551616) (hm0 : 0 ≤ m) (hm1 : m ≤ 4294967296) :
    aHi 0 0 (a * (4294967296 - m) / 18446744073709551616) (a * (4294967296 - m) % 18446744073709551616) = a * (4294967296 - m) / 18446744073709551616 ∧
    aLo 0 (a * (4294967296 - m) % 18446744073709551616) = a * (4294967296 - m) % 18446744073709551616 ∧
    aHi (a * (4294967296 - m) / 18446744073709551616) (a * (4294967296 - m) % 18446744073709551616) (b * m / 18446744073709551616) (b * m % 18446744073709551616) = (a * (4294967296 - m) + b * m) / 18446744073709551616 ∧
    aLo (a * (4294967296 - m) % 18446744073709551616) (b * m % 18446744073709551616) = (a * (4294967296 - m) + b * m) % 18446744073709551616 ∧
    shLo ((a * (4294967296 - m) + b * m) / 18446744073709551616) ((a * (4294967296 - m) + b * m) % 18446744073709551616) 32 = (a * (4294967296 - m) + b * m) / 4294967296 ∧
    0 ≤ a * (4294967296 - m) ∧ a * (4294967296 - m) < 340282366920938463463374607431768211456 ∧ 0 ≤ a * (4294967296 - m) + b * m ∧ a * (4294967296 - m) + b * m < 340282366920938463463374607431768211456 := by
  have p0 : 0 ≤ a * (4294967296 - m) := Int.mul_nonneg ha (by omega)
  have r0 : 0 ≤ b * m := Int.mul_nonneg hb hm0
  have p1 : a * (4294967296 - m) ≤ 18446744073709551615 * (4294967296 - m) := Int.mul_le_mul_of_nonneg_right (by omega) (by omega)
  have r1 : b * m ≤ 18446744073709551615 * m := Int.mul_le_mul_of_nonneg_right (by omega) (by omega)
  generalize a * (4294967296 - m) = P at *
  generalize b * m = R at *
  unfold aHi aLo shLo wN
  have e : (2 : Int) ^ (32 : Int).toNat = 4294967296 := by decide
  rw [e]
  refine ⟨by omega, by omega, by omega, by omega, by omega, by omega, by omega, by omega, by omega⟩

def mixN (a b w : Int) : Int := (a * (4294967296 - min w 4294967296) + b * min w 4294967296) / 4294967296
set_option maxRecDepth 100000 in
set_option maxHeartbeats 2000000 in
theorem fmix_c (a b v : Int) (ha : 0 ≤ a) (hb : 0 ≤ b) (hv : 0 ≤ v) (ha' : a < 18446744073709551616) (hb' : b < 18446744073709551616) (hv' : v < 18446744073709551616) (w : World) :
    Calls Try.prog 37 #[.int .u64 a, .int .u64 b, .int .u64 v] w fun r w' => r = .returned (.int .u64 (mixN a b v)) ∧ Below w.heap.size w w' := by
  have hmf : ∀ (fn : Fn) (first cap : Array Value) (w : World), (Instr.makeFunc fn first cap).run Try.prog w = .ok (.func fn first cap) w := fun _ _ _ _ => rfl
  have hm : 0 ≤ min v 4294967296 ∧ min v 4294967296 ≤ 4294967296 := by omega
  obtain ⟨hm0, hm1⟩ := hm
  have hfd : ∀ (x y : Int) (w : World), (Instr.field 56 (.agg #[.int .u64 x, .int .u64 y]) 1).run Try.prog w = .ok (.int .u64 y) w := fun _ _ _ => by kernel_rfl
  obtain ⟨m1, m2, m3, m4, m5, m6, m7, m8, m9⟩ := mix_math a b (min v 4294967296) ha hb ha' hb' hm0 hm1
  have q1 : mixN a b v = (a * (4294967296 - min v 4294967296) + b * min v 4294967296) / 4294967296 := rfl
  go_enter Try.func37, Try.ntmps37
  go_wp2_with fail
  refine (lay_c _ _ 0 0 _ _ (by omega) (by omega) (by omega) (by omega) (by omega) (by omega) (by omega) (by omega) (by simp) (by go_simp) (by go_simp) (by go_simp) (by go_simp)).mono ?_
  rintro e w1 ⟨rfl, hb1, hg1, f10, f11, c10, c11⟩
  rw [m1] at c10
  rw [m2] at c11
  go_wp2_with fail
  refine (lay_c _ _ _ _ _ _ (by omega) (by omega) (by omega) (by omega) (by omega) (by omega) (by omega) (by omega) hg1 c10 c11 f10 f11).mono ?_
  rintro e w2 ⟨rfl, hb2, hg2, f20, f21, c20, c21⟩
  rw [m3] at c20
  rw [m4] at c21
  clear c10 c11 f10 f11
  go_wp2_with fail
  refine (wshr_c _ _ _ (by omega) (by omega) (by omega) (by omega) (by omega) (by omega) _).mono ?_
  rintro e w3 ⟨rfl, hb3⟩
  go_wp2_with fail
  go_ret
  exact ⟨by rw [q1]; try rfl, by (repeat' (first | (with_reducible exact Below.refl _ _) | (with_reducible assumption) | (with_reducible refine Below.alloc ?_ ?_ _) | (with_reducible refine Below.drew ?_) | (with_reducible refine Below_drewN ?_ _) | (with_reducible refine Below.setCell ?_ ?_ _) | (refine Below.step (B' := ?_) (b := ?_) ?_ ?_ ?_; rotate_left 2; (with_reducible assumption)) | go_size))⟩
end Go.Proofs.Try
