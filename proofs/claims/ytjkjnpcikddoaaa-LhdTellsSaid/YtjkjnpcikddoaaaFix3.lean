/- Contract of fixed.Sum. -/
import Derived.Test.YtjkjnpcikddoaaaFix
import Derived.LoopN
import Derived.WalkMore
namespace Go.Proofs.Try
open Go.RowKit
set_option linter.unusedVariables false

/-- The held sum of the first k of zs. -/
def sN (zs : List Int) : Nat → Int
  | 0 => 0
  | k + 1 => wAdd (sN zs k) (zs.getD k 0)
theorem wAdd_in (a b : Int) (ha : 0 ≤ a) (hb : 0 ≤ b) : 0 ≤ wAdd a b ∧ wAdd a b < 18446744073709551616 := by unfold wAdd; split <;> omega
theorem sN_in (zs : List Int) (h : ∀ k, 0 ≤ zs.getD k 0) (k : Nat) : 0 ≤ sN zs k ∧ sN zs k < 18446744073709551616 := by
  induction k with
  | zero => unfold sN; omega
  | succ k ih => exact wAdd_in _ _ ih.1 (h k)

set_option maxRecDepth 100000 in
set_option maxHeartbeats 2000000 in
theorem fsum_c (b off len cap : Nat) (zs : List Int) (hz : len ≤ zs.length) (hl : len ≤ 4611686018427387904) (hx : ∀ k, 0 ≤ zs.getD k 0) (hx' : ∀ k, zs.getD k 0 < 18446744073709551616) (w : World)
    (hc : ∀ j, j < zs.length → w.cell? ⟨b, off + j, none⟩ = some (.int .u64 (zs.getD j 0))) :
    Calls Try.prog 70 #[.slice (some ⟨b, off, none⟩) len cap] w fun r w' => r = .returned (.int .u64 (sN zs len)) ∧ w = w' := by
  go_enter Try.func70, Try.ntmps70
  go_wp2_with fail
  go_loop [3, 8] (fun v i => ∃ k : Nat, k ≤ len ∧ i = .int .i64 k ∧ v = .int .u64 (sN zs k)) (fun _ i => len - (intOf i).toNat)
  case atStart => exact ⟨0, by omega, rfl, rfl⟩
  case round =>
    obtain ⟨k, hk, rfl, rfl⟩ := hrel
    have hcell : k < len → w.cell? ⟨b, off + k, none⟩ = some (.int .u64 (zs.getD k 0)) := fun h => hc k (by omega)
    obtain ⟨s0, s1⟩ := sN_in zs hx k
    have x0 := hx k
    have x1 := hx' k
    have HE : Hid (wAdd (sN zs k) (zs.getD k 0) = sN zs (k + 1)) := rfl
    clear hc hx hx'
    by_cases hlt : k < len
    · have hcell := hcell hlt
      go_wp2_with (go_at_call 48; refine (add_c _ _ (by assumption) (by assumption) (by assumption) (by assumption) _).mono ?_; rintro e w' ⟨rfl, rfl⟩)
      go_round
      case rel => exact ⟨k + 1, by omega, by go_num, by first | rfl | (rw [← HE.out]; rfl)⟩
      case measure => simp [intOf]; omega
    · have hke : k = len := by omega
      subst hke
      go_wp2_with fail
      go_ret
      exact ⟨rfl, rfl⟩

/-- None at all. -/
theorem fsum_nil (w : World) : Calls Try.prog 70 #[.slice none 0 0] w fun r w' => r = .returned (.int .u64 0) ∧ w = w' := by
  go_enter Try.func70, Try.ntmps70
  go_wp2_with fail
  go_loop [3, 8] (fun v i => i = .int .i64 0 ∧ v = .int .u64 0) (fun _ i => 0)
  case atStart => exact ⟨rfl, rfl⟩
  case round =>
    obtain ⟨rfl, rfl⟩ := hrel
    go_wp2_with fail
    go_ret
    exact ⟨rfl, rfl⟩
end Go.Proofs.Try
