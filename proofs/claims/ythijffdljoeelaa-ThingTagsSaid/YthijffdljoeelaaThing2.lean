/- Contracts of thing: tags as arrays. -/
import Derived.Test.YthijffdljoeelaaThing
namespace Go.Proofs.Try
open Go.RowKit
set_option linter.unusedVariables false

/-- A tag: nine bytes. -/
def mkT (f : Nat → Int) : Value := .agg #[.int .u8 (f 0), .int .u8 (f 1), .int .u8 (f 2), .int .u8 (f 3), .int .u8 (f 4), .int .u8 (f 5), .int .u8 (f 6), .int .u8 (f 7), .int .u8 (f 8)]
/-- The bytes of a text's tag: the text, zeros, and how many there are. -/
def tf (s : ByteArray) (i : Nat) : Int := if i = 8 then s.size else bt s i
theorem copyS (s : ByteArray) (h : s.size ≤ 8) (b : Nat) (ty : TypeId) (W : World)
    (h0 : (W.cell? ⟨b, 0, none⟩).isSome = true) (h1 : (W.cell? ⟨b, 1, none⟩).isSome = true) (h2 : (W.cell? ⟨b, 2, none⟩).isSome = true) (h3 : (W.cell? ⟨b, 3, none⟩).isSome = true)
    (h4 : (W.cell? ⟨b, 4, none⟩).isSome = true) (h5 : (W.cell? ⟨b, 5, none⟩).isSome = true) (h6 : (W.cell? ⟨b, 6, none⟩).isSome = true) (h7 : (W.cell? ⟨b, 7, none⟩).isSome = true)
    (f0 : W.frozen? ⟨b, 0, none⟩ = false) (f1 : W.frozen? ⟨b, 1, none⟩ = false) (f2 : W.frozen? ⟨b, 2, none⟩ = false) (f3 : W.frozen? ⟨b, 3, none⟩ = false)
    (f4 : W.frozen? ⟨b, 4, none⟩ = false) (f5 : W.frozen? ⟨b, 5, none⟩ = false) (f6 : W.frozen? ⟨b, 6, none⟩ = false) (f7 : W.frozen? ⟨b, 7, none⟩ = false) :
    (Builtin.copy_ #[56, 9] ty #[.slice (some ⟨b, 0, none⟩) 9 9, .string s]).run Try.prog W = .ok (goInt s.size) (W.setCells b 0 (s.data.toList.map fun x => Value.int .u8 (x.toNat : Int))) := by
  refine run_copy_string W 56 9 ty 5 b 0 9 9 s Try.underlying56 (fun w => by kernel_rfl) (by omega) ?_ ?_
  · intro j hj
    rw [Nat.zero_add]
    rcases (by omega : j = 0 ∨ j = 1 ∨ j = 2 ∨ j = 3 ∨ j = 4 ∨ j = 5 ∨ j = 6 ∨ j = 7) with rfl | rfl | rfl | rfl | rfl | rfl | rfl | rfl <;> assumption
  · intro j hj
    rw [Nat.zero_add]
    rcases (by omega : j = 0 ∨ j = 1 ∨ j = 2 ∨ j = 3 ∨ j = 4 ∨ j = 5 ∨ j = 6 ∨ j = 7) with rfl | rfl | rfl | rfl | rfl | rfl | rfl | rfl <;> assumption

theorem of_long (s : ByteArray) (h : 8 < s.size) (hs : s.size ≤ 4611686018427387904) (w : World) :
    Calls Try.prog 38 #[.string s] w fun r w' => r = .returned (mkT fun _ => 0) ∧ Below w.heap.size w w' := by
  have d : decide ((s.size : Int) ≤ 8) = false := by simp; omega
  unfold mkT
  go_enter Try.func38, Try.ntmps38
  go_wp2_with fail
  refine bodyPost_ret (by simp [results, Try.results38, go_sem]; try rfl) rfl ?_
  exact ⟨rfl, by (repeat' (first | (with_reducible exact Below.refl _ _) | (with_reducible assumption) | (with_reducible refine Below.alloc ?_ ?_ _) | (with_reducible refine Below.drew ?_) | (with_reducible refine Below_drewN ?_ _) | (with_reducible refine Below.setCell ?_ ?_ _) | (refine Below.step (B' := ?_) (b := ?_) ?_ ?_ ?_; rotate_left 2; (with_reducible assumption)) | go_size))⟩
set_option maxHeartbeats 2000000 in
theorem of_short (s : ByteArray) (h : s.size ≤ 8) (w : World) :
    Calls Try.prog 38 #[.string s] w fun r w' => r = .returned (mkT (tf s)) ∧ Below w.heap.size w w' := by
  have hcp := copyS s h (w.heap.size + 1)
  unfold mkT
  rcases s with ⟨⟨l⟩⟩
  rcases l with _ | ⟨x0, _ | ⟨x1, _ | ⟨x2, _ | ⟨x3, _ | ⟨x4, _ | ⟨x5, _ | ⟨x6, _ | ⟨x7, _ | ⟨x8, l⟩⟩⟩⟩⟩⟩⟩⟩⟩
  case cons.cons.cons.cons.cons.cons.cons.cons.cons => exact absurd h (by simp [ByteArray.size])
  all_goals
    simp only [World.setCells, List.map] at hcp
    go_enter Try.func38, Try.ntmps38
    go_wp2_with fail
    refine bodyPost_ret (by simp [results, Try.results38, go_sem]; try rfl) rfl ?_
    exact ⟨rfl, by (repeat' (first | (with_reducible exact Below.refl _ _) | (with_reducible assumption) | (with_reducible refine Below.alloc ?_ ?_ _) | (with_reducible refine Below.drew ?_) | (with_reducible refine Below_drewN ?_ _) | (with_reducible refine Below.setCell ?_ ?_ _) | (refine Below.step (B' := ?_) (b := ?_) ?_ ?_ ?_; rotate_left 2; (with_reducible assumption)) | go_size))⟩
end Go.Proofs.Try
