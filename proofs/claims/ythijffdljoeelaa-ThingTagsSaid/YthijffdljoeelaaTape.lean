/- Contracts of the package tape: Left, Draw. -/
import Derived.Test.YthijffdljoeelaaBase
import Derived.Lib.LazyBuf
import Derived.RegionTactic
import Derived.Laws.BitsAllLaws
namespace Go.Proofs.Try
open Go.RowKit
set_option linter.unusedVariables false

/-- A tape. -/
def tp (s : ByteArray) (at_ : Int) : Value := .agg #[.string s, .int .i64 at_]
/-- A byte of a text, as a number. -/
def bt (s : ByteArray) (i : Nat) : Int := ((s.data.toList.getD i 0).toNat : Int)
/-- How many draws a text has. -/
def many (s : ByteArray) : Int := (s.size : Int) / 4
def leftN (s : ByteArray) (i : Int) : Int := max 0 (many s - max 0 i)
def inside (s : ByteArray) (i : Int) : Prop := 0 ≤ i ∧ i < many s
instance (s : ByteArray) (i : Int) : Decidable (inside s i) := by unfold inside; infer_instance
def drawN (s : ByteArray) (i : Int) : Int := if inside s i then bt s (4 * i.toNat) + 256 * bt s (4 * i.toNat + 1) + 65536 * bt s (4 * i.toNat + 2) + 16777216 * bt s (4 * i.toNat + 3) else 0
def nextN (s : ByteArray) (i : Int) : Int := if inside s i then i + 1 else i

theorem left_c (s : ByteArray) (i : Int) (hs : s.size ≤ 4611686018427387904) (h0 : -9223372036854775808 ≤ i) (h1 : i ≤ 9223372036854775807) (w : World) :
    Calls Try.prog 22 #[tp s i] w fun r w' => r = .returned (.int .i64 (leftN s i)) ∧ Below w.heap.size w w' := by
  unfold tp
  go_enter Try.func22, Try.ntmps22
  go_wp2_with fail
  all_goals
    go_ret
    exact ⟨ret_i (by unfold leftN many; omega), by (repeat' (first | (with_reducible exact Below.refl _ _) | (with_reducible assumption) | (with_reducible refine Below.alloc ?_ ?_ _) | (with_reducible refine Below.drew ?_) | (with_reducible refine Below_drewN ?_ _) | (with_reducible refine Below.setCell ?_ ?_ _) | (refine Below.step (B' := ?_) (b := ?_) ?_ ?_ ?_; rotate_left 2; (with_reducible assumption)) | go_size))⟩
theorem rleft_c (s : ByteArray) (i : Int) (hs : s.size ≤ 4611686018427387904) (h0 : -9223372036854775808 ≤ i) (h1 : i ≤ 9223372036854775807) (w : World) :
    Calls Try.prog 23 #[tp s i] w fun r w' => r = .returned (.int .i64 (leftN s i)) ∧ Below w.heap.size w w' := by
  unfold tp
  have c := Lib.hid (show True from trivial)
  rcases (by omega : i < 0 ∨ 0 ≤ i ∧ i ≤ (s.size : Int) / 4 ∨ (s.size : Int) / 4 < i) with h | ⟨h, g⟩ | h
  · go_enter Try.func23, Try.ntmps23
    go_wp2_with fail
    go_ret
    exact ⟨ret_i (by unfold leftN many; omega), by (repeat' (first | (with_reducible exact Below.refl _ _) | (with_reducible assumption) | (with_reducible refine Below.alloc ?_ ?_ _) | (with_reducible refine Below.drew ?_) | (with_reducible refine Below_drewN ?_ _) | (with_reducible refine Below.setCell ?_ ?_ _) | (refine Below.step (B' := ?_) (b := ?_) ?_ ?_ ?_; rotate_left 2; (with_reducible assumption)) | go_size))⟩
  · have e : IntKind.i64.wrap ((s.size : Int) / 4 - i) = (s.size : Int) / 4 - i := by rw [IntKind.wrap_i64] <;> omega
    go_enter Try.func23, Try.ntmps23
    go_wp2_with fail
    go_ret
    exact ⟨ret_i (by unfold leftN many; omega), by (repeat' (first | (with_reducible exact Below.refl _ _) | (with_reducible assumption) | (with_reducible refine Below.alloc ?_ ?_ _) | (with_reducible refine Below.drew ?_) | (with_reducible refine Below_drewN ?_ _) | (with_reducible refine Below.setCell ?_ ?_ _) | (refine Below.step (B' := ?_) (b := ?_) ?_ ?_ ?_; rotate_left 2; (with_reducible assumption)) | go_size))⟩
  · have hi : 0 ≤ i := by omega
    go_enter Try.func23, Try.ntmps23
    go_wp2_with fail
    go_ret
    exact ⟨ret_i (by unfold leftN many; omega), by (repeat' (first | (with_reducible exact Below.refl _ _) | (with_reducible assumption) | (with_reducible refine Below.alloc ?_ ?_ _) | (with_reducible refine Below.drew ?_) | (with_reducible refine Below_drewN ?_ _) | (with_reducible refine Below.setCell ?_ ?_ _) | (refine Below.step (B' := ?_) (b := ?_) ?_ ?_ ?_; rotate_left 2; (with_reducible assumption)) | go_size))⟩
theorem draw_no (s : ByteArray) (i : Int) (h : ¬ inside s i) (hs : s.size ≤ 4611686018427387904) (h0 : -9223372036854775808 ≤ i) (h1 : i ≤ 9223372036854775807) (w : World) :
    Calls Try.prog 15 #[tp s i] w fun r w' => r = .returned (.tuple #[.int .u32 0, tp s i]) ∧ Below w.heap.size w w' := by
  unfold tp
  by_cases hi : i < 0
  · clear h
    go_enter Try.func15, Try.ntmps15
    go_wp2_with fail
    go_region
    all_goals
      go_wp2_with fail
      (try simp only [Exit.inBlock, Exit.then]); refine bodyPost_ret (v := .tuple #[.int .u32 0, .agg #[.string s, .int .i64 i]]) (by simp [results, Try.results15, go_sem]) rfl ?_
      exact ⟨rfl, by (repeat' (first | (with_reducible exact Below.refl _ _) | (with_reducible assumption) | (with_reducible refine Below.alloc ?_ ?_ _) | (with_reducible refine Below.drew ?_) | (with_reducible refine Below_drewN ?_ _) | (with_reducible refine Below.setCell ?_ ?_ _) | (refine Below.step (B' := ?_) (b := ?_) ?_ ?_ ?_; rotate_left 2; (with_reducible assumption)) | go_size))⟩
  · have hm : (s.size : Int) / 4 ≤ i := by unfold inside many at h; omega
    have hd : decide (i < 0) = false := by simpa using hi
    have hi2 : 0 ≤ i := by omega
    clear h
    go_enter Try.func15, Try.ntmps15
    go_wp2_with fail
    go_region
    all_goals
      go_wp2_with fail
      (try simp only [Exit.inBlock, Exit.then]); refine bodyPost_ret (v := .tuple #[.int .u32 0, .agg #[.string s, .int .i64 i]]) (by simp [results, Try.results15, go_sem]) rfl ?_
      exact ⟨rfl, by (repeat' (first | (with_reducible exact Below.refl _ _) | (with_reducible assumption) | (with_reducible refine Below.alloc ?_ ?_ _) | (with_reducible refine Below.drew ?_) | (with_reducible refine Below_drewN ?_ _) | (with_reducible refine Below.setCell ?_ ?_ _) | (refine Below.step (B' := ?_) (b := ?_) ?_ ?_ ?_; rotate_left 2; (with_reducible assumption)) | go_size))⟩
theorem rdraw_no (s : ByteArray) (i : Int) (h : ¬ inside s i) (hs : s.size ≤ 4611686018427387904) (h0 : -9223372036854775808 ≤ i) (h1 : i ≤ 9223372036854775807) (w : World) :
    Calls Try.prog 16 #[tp s i] w fun r w' => r = .returned (.tuple #[.int .u32 0, tp s i]) ∧ Below w.heap.size w w' := by
  unfold tp
  by_cases hi : i < 0
  · clear h
    go_enter Try.func16, Try.ntmps16
    go_wp2_with fail
    go_region
    all_goals
      go_wp2_with fail
      (try simp only [Exit.inBlock, Exit.then]); refine bodyPost_ret (v := .tuple #[.int .u32 0, .agg #[.string s, .int .i64 i]]) (by simp [results, Try.results16, go_sem]) rfl ?_
      exact ⟨rfl, by (repeat' (first | (with_reducible exact Below.refl _ _) | (with_reducible assumption) | (with_reducible refine Below.alloc ?_ ?_ _) | (with_reducible refine Below.drew ?_) | (with_reducible refine Below_drewN ?_ _) | (with_reducible refine Below.setCell ?_ ?_ _) | (refine Below.step (B' := ?_) (b := ?_) ?_ ?_ ?_; rotate_left 2; (with_reducible assumption)) | go_size))⟩
  · have hm : (s.size : Int) / 4 ≤ i := by unfold inside many at h; omega
    have hd : decide (i < 0) = false := by simpa using hi
    have hi2 : 0 ≤ i := by omega
    clear h
    go_enter Try.func16, Try.ntmps16
    go_wp2_with fail
    go_region
    all_goals
      go_wp2_with fail
      (try simp only [Exit.inBlock, Exit.then]); refine bodyPost_ret (v := .tuple #[.int .u32 0, .agg #[.string s, .int .i64 i]]) (by simp [results, Try.results16, go_sem]) rfl ?_
      exact ⟨rfl, by (repeat' (first | (with_reducible exact Below.refl _ _) | (with_reducible assumption) | (with_reducible refine Below.alloc ?_ ?_ _) | (with_reducible refine Below.drew ?_) | (with_reducible refine Below_drewN ?_ _) | (with_reducible refine Below.setCell ?_ ?_ _) | (refine Below.step (B' := ?_) (b := ?_) ?_ ?_ ?_; rotate_left 2; (with_reducible assumption)) | go_size))⟩
end Go.Proofs.Try
