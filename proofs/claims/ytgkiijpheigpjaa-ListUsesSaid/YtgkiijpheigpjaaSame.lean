/- The contract of linhayref08.Same, of two lists that are one. -/
import Derived.Test.YtgkiijpheigpjaaOwn
import Derived.LoopN
import Derived.WalkMore
namespace Go.Proofs.Try
open Go.RowKit
set_option linter.unusedVariables false

set_option maxHeartbeats 400000 in
theorem same_t (A B : Option Addr) (n c d : Nat) (xs : List Int) (w : World) (hA : Sees w 1 A n (xs.map (Value.int .i64))) (hB : Sees w 1 B n (xs.map (Value.int .i64))) (hn : n ≤ 1000000) :
    Calls Try.prog 43 #[.slice A n c, .slice B n d] w fun r w' => r = .returned (.bool true) ∧ Below w.heap.size w w' := by
  rcases hA.2 with h0 | ⟨b, off, rfl, _, _⟩
  · subst h0
    go_enter Try.func43, Try.ntmps43
    go_wp2_with fail
    go_loop [5] (fun i => i = .int .i64 0) (fun i => 0)
    case atStart => rfl
    case round =>
      subst hrel
      go_wp2_with fail
      go_ret
      exact ⟨rfl, Below.refl _ _⟩
  · rcases hB.2 with h0 | ⟨b', off', rfl, _, _⟩
    · subst h0
      go_enter Try.func43, Try.ntmps43
      go_wp2_with fail
      go_loop [5] (fun i => i = .int .i64 0) (fun i => 0)
      case atStart => rfl
      case round =>
        subst hrel
        go_wp2_with fail
        go_ret
        exact ⟨rfl, Below.refl _ _⟩
    · have HC : Hid (∀ j, j < n → w.cell? ⟨b, off + j, none⟩ = some (.int .i64 (xs.getD j 0))) := fun j hj => hA.int hj
      have HD : Hid (∀ j, j < n → w.cell? ⟨b', off' + j, none⟩ = some (.int .i64 (xs.getD j 0))) := fun j hj => hB.int hj
      clear hA hB
      go_enter Try.func43, Try.ntmps43
      go_wp2_with fail
      go_loopw [5] (fun i wr => ∃ k m : Nat, k ≤ n ∧ i = .int .i64 k ∧ wr = w.drewN m) (fun i _ => n - (intOf i).toNat)
      case atStart => exact ⟨0, 0, by omega, rfl, rfl⟩
      case round =>
        obtain ⟨k, m, hk, rfl, rfl⟩ := hrel
        by_cases hlt : k < n
        · have hc := HC.out k hlt
          have hd := HD.out k hlt
          generalize xs.getD k 0 = x at hc hd
          go_wp2_with fail
          go_quiet (fail)
          go_wp2_with fail
          go_roundw
          case rel => exact ⟨k + 1, _, by omega, by go_num, by first | rfl | (simp; rfl)⟩
          case measure => simp [intOf]; omega
        · go_wp2_with fail
          go_ret
          exact ⟨rfl, Below_drewN (Below.refl _ _) _⟩
end Go.Proofs.Try
