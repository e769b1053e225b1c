/- Contracts of the package wide. -/
import Derived.Test.YthjjogmcpkpekaaWord
namespace Go.Proofs.Try
open Go.RowKit
set_option linter.unusedVariables false

theorem sub64_run (x y c : Int) (hx : 0 ≤ x) (hy : 0 ≤ y) (hx' : x < 18446744073709551616) (hy' : y < 18446744073709551616) (hc0 : 0 ≤ c) (hc : c ≤ 1) (w : World) :
    (callFunc 53 #[.int .u64 x, .int .u64 y, .int .u64 c]).run Try.prog w =
      .ok (.value (.tuple #[.int .u64 ((x - y - c) % 18446744073709551616), .int .u64 (if x < y + c then 1 else 0)])) w := by
  obtain ⟨X, rfl⟩ := Int.eq_ofNat_of_zero_le hx
  obtain ⟨Y, rfl⟩ := Int.eq_ofNat_of_zero_le hy
  obtain ⟨C, rfl⟩ := Int.eq_ofNat_of_zero_le hc0
  rw [run_callFunc_extern Try.func53 (by kernel_rfl) (by kernel_rfl) (by kernel_rfl) (e := sub64Entry) (by kernel_rfl), run_sub64 X Y C (by omega)]
  have e1 : (((X + 18446744073709551616 - Y - C) % 18446744073709551616 : Nat) : Int) = ((X : Int) - Y - C) % 18446744073709551616 := by omega
  have e2 : ((if X < Y + C then 1 else 0 : Nat) : Int) = if (X : Int) < Y + C then 1 else 0 := by
    split <;> split <;> omega
  rw [e1, e2]
  rfl

theorem wof_c (a : Int) (w : World) :
    Calls Try.prog 46 #[.int .u64 a] w fun r w' => r = .returned (.agg #[.int .u64 0, .int .u64 a]) ∧ Below w.heap.size w w' := by
  go_enter Try.func46, Try.ntmps46
  go_wp2
  go_returns
  exact ⟨rfl, by go_grown⟩

theorem wmul_c (a b : Int) (ha : 0 ≤ a) (hb : 0 ≤ b) (ha' : a < 18446744073709551616) (hb' : b < 18446744073709551616) (w : World) :
    Calls Try.prog 40 #[.int .u64 a, .int .u64 b] w fun r w' => r = .returned (.agg #[.int .u64 (a * b / 18446744073709551616), .int .u64 (a * b % 18446744073709551616)]) ∧ Below w.heap.size w w' := by
  go_enter Try.func40, Try.ntmps40
  go_wp2_with (refine (mul64_c _ _ ha hb ha' hb' _).mono ?_; rintro e w' ⟨rfl, rfl⟩)
  go_returns
  exact ⟨rfl, by go_grown⟩

def aLo (xl yl : Int) : Int := (xl + yl) % 18446744073709551616
def aHi (xh xl yh yl : Int) : Int := (xh + yh + (xl + yl) / 18446744073709551616) % 18446744073709551616
def aOv (xh xl yh yl : Int) : Bool := decide (18446744073709551616 ≤ xh + yh + (xl + yl) / 18446744073709551616)
def sLo (xl yl : Int) : Int := (xl - yl) % 18446744073709551616
def sHi (xh xl yh yl : Int) : Int := (xh - yh - (if xl < yl then 1 else 0)) % 18446744073709551616
def sOv (xh xl yh yl : Int) : Bool := decide (xh < yh + (if xl < yl then 1 else 0))
def cmpW (xh xl yh yl : Int) : Int := if xh < yh then -1 else if yh < xh then 1 else if xl < yl then -1 else if yl < xl then 1 else 0

theorem wadd_c (xh xl yh yl : Int) (h1 : 0 ≤ xh) (h2 : 0 ≤ xl) (h3 : 0 ≤ yh) (h4 : 0 ≤ yl) (g1 : xh < 18446744073709551616) (g2 : xl < 18446744073709551616) (g3 : yh < 18446744073709551616) (g4 : yl < 18446744073709551616) (w : World) :
    Calls Try.prog 34 #[.agg #[.int .u64 xh, .int .u64 xl], .agg #[.int .u64 yh, .int .u64 yl]] w fun r w' => r = .returned (.tuple #[.agg #[.int .u64 (aHi xh xl yh yl), .int .u64 (aLo xl yl)], .bool (aOv xh xl yh yl)]) ∧ Below w.heap.size w w' := by
  have hA : ∀ W, (callFunc 47 #[.int .u64 xl, .int .u64 yl, .int .u64 0]).run Try.prog W = .ok (.value (.tuple #[.int .u64 ((xl + yl) % 18446744073709551616), .int .u64 ((xl + yl) / 18446744073709551616)])) W := fun W => by
    have := add64_run xl yl 0 h2 h4 (by omega) (by omega) W
    simpa using this
  have hB := add64_run xh yh ((xl + yl) / 18446744073709551616) h1 h3 (by omega) (by omega)
  go_enter Try.func34, Try.ntmps34
  go_wp2
  go_returns
  exact ⟨ret_ab rfl rfl (by unfold aOv; rw [Bool.eq_iff_iff]; simp; omega), by go_grown⟩

theorem wsub_c (xh xl yh yl : Int) (h1 : 0 ≤ xh) (h2 : 0 ≤ xl) (h3 : 0 ≤ yh) (h4 : 0 ≤ yl) (g1 : xh < 18446744073709551616) (g2 : xl < 18446744073709551616) (g3 : yh < 18446744073709551616) (g4 : yl < 18446744073709551616) (w : World) :
    Calls Try.prog 36 #[.agg #[.int .u64 xh, .int .u64 xl], .agg #[.int .u64 yh, .int .u64 yl]] w fun r w' => r = .returned (.tuple #[.agg #[.int .u64 (sHi xh xl yh yl), .int .u64 (sLo xl yl)], .bool (sOv xh xl yh yl)]) ∧ Below w.heap.size w w' := by
  by_cases hlt : xl < yl
  all_goals by_cases hov : xh < yh + (if xl < yl then 1 else 0)
  all_goals
    have hA : ∀ W, (callFunc 53 #[.int .u64 xl, .int .u64 yl, .int .u64 0]).run Try.prog W = .ok (.value (.tuple #[.int .u64 (sLo xl yl), .int .u64 (if xl < yl then 1 else 0)])) W := fun W => by
      have := sub64_run xl yl 0 h2 h4 g2 g4 (by omega) (by omega) W
      simpa [sLo] using this
    have hB : ∀ W, (callFunc 53 #[.int .u64 xh, .int .u64 yh, .int .u64 (if xl < yl then 1 else 0)]).run Try.prog W = .ok (.value (.tuple #[.int .u64 (sHi xh xl yh yl), .int .u64 (if sOv xh xl yh yl then 1 else 0)])) W := fun W => by
      have := sub64_run xh yh (if xl < yl then 1 else 0) h1 h3 g1 g3 (by split <;> omega) (by split <;> omega) W
      simpa [sHi, sOv] using this
    first | simp only [if_pos hlt] at hA hB hov | simp only [if_neg hlt] at hA hB hov
    have e : sOv xh xl yh yl = decide (xh < yh + (if xl < yl then 1 else 0)) := rfl
    first | rw [if_pos hlt] at e | rw [if_neg hlt] at e
    first | (have e2 : sOv xh xl yh yl = true := by rw [e]; simpa using hov) | (have e2 : sOv xh xl yh yl = false := by rw [e]; simpa using hov)
    clear e hov
    rw [e2] at hB
    simp only [if_true, Bool.false_eq_true, if_false] at hB
    go_enter Try.func36, Try.ntmps36
    go_wp2
    go_returns
    exact ⟨ret_ab rfl rfl (by simp [e2]), by go_grown⟩

theorem wcmp_c (xh xl yh yl : Int) (w : World) :
    Calls Try.prog 42 #[.agg #[.int .u64 xh, .int .u64 xl], .agg #[.int .u64 yh, .int .u64 yl]] w fun r w' => r = .returned (.int .i64 (cmpW xh xl yh yl)) ∧ Below w.heap.size w w' := by
  go_enter Try.func42, Try.ntmps42
  go_wp2
  all_goals
    go_ret
    refine ⟨ret_i ?_, by go_grown⟩
    unfold cmpW
    (repeat' split) <;> omega
end Go.Proofs.Try
