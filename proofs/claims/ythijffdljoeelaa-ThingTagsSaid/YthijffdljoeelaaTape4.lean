/- Contracts of tape.Some (whatever it is asked), and of a tape of one draw. -/
import Derived.Test.YthijffdljoeelaaTape3
namespace Go.Proofs.Try
open Go.RowKit
set_option linter.unusedVariables false

def sOk (n many : Int) : Prop := 1 ≤ n ∧ n ≤ 1000 ∧ 1 ≤ many
instance (n many : Int) : Decidable (sOk n many) := by unfold sOk; infer_instance
def someLL (s : ByteArray) (i n many : Int) : List Int := if sOk n many then someL s (min many n).toNat i ((List.range n.toNat).map Int.ofNat) else []
def someAA (s : ByteArray) (i n many : Int) : Int := if sOk n many then someA s (min many n).toNat i n.toNat else i
/-- A list of numbers is handed back, and a tape. -/
def Picks (s : ByteArray) (xs : List Int) (j : Int) (w : World) (r : Ending) (w' : World) : Prop :=
  ∃ A n c, r = .returned (.tuple #[.slice A n c, tp s j]) ∧ xs.length = n ∧ CapOk A n c ∧ Sees w' 1 A n (xs.map (Value.int .i64)) ∧ Below w.heap.size w w'

theorem some_no (s : ByteArray) (i n many : Int) (h : ¬ sOk n many) (hs : s.size ≤ 4611686018427387904) (w : World) :
    Calls Try.prog 19 #[tp s i, .int .i64 n, .int .i64 many] w fun r w' => r = .returned (.tuple #[.slice none 0 0, tp s i]) ∧ Below w.heap.size w w' := by
  unfold tp
  rcases (by unfold sOk at h; omega : n < 1 ∨ 1 ≤ n ∧ 1000 < n ∨ 1 ≤ n ∧ n ≤ 1000 ∧ many < 1) with h | ⟨g, h⟩ | ⟨g, g', h⟩
  · go_enter Try.func19, Try.ntmps19
    go_wp2_with fail
    go_region
    all_goals
      go_wp2_with fail
      refine bodyPost_ret (by simp [results, Try.results19, go_sem]; try rfl) rfl ?_
      exact ⟨rfl, by (repeat' (first | (with_reducible exact Below.refl _ _) | (with_reducible assumption) | (with_reducible refine Below.alloc ?_ ?_ _) | (with_reducible refine Below.drew ?_) | (with_reducible refine Below_drewN ?_ _) | (with_reducible refine Below.setCell ?_ ?_ _) | (refine Below.step (B' := ?_) (b := ?_) ?_ ?_ ?_; rotate_left 2; (with_reducible assumption)) | go_size))⟩
  · have e3 : decide (n < 1) = false := by simp; omega
    go_enter Try.func19, Try.ntmps19
    go_wp2_with fail
    go_region
    all_goals
      go_wp2_with fail
      refine bodyPost_ret (by simp [results, Try.results19, go_sem]; try rfl) rfl ?_
      exact ⟨rfl, by (repeat' (first | (with_reducible exact Below.refl _ _) | (with_reducible assumption) | (with_reducible refine Below.alloc ?_ ?_ _) | (with_reducible refine Below.drew ?_) | (with_reducible refine Below_drewN ?_ _) | (with_reducible refine Below.setCell ?_ ?_ _) | (refine Below.step (B' := ?_) (b := ?_) ?_ ?_ ?_; rotate_left 2; (with_reducible assumption)) | go_size))⟩
  · have e3 : decide (n < 1) = false := by simp; omega
    have e4 : decide (1000 < n) = false := by simp; omega
    go_enter Try.func19, Try.ntmps19
    go_wp2_with fail
    go_region
    all_goals
      go_wp2_with fail
      refine bodyPost_ret (by simp [results, Try.results19, go_sem]; try rfl) rfl ?_
      exact ⟨rfl, by (repeat' (first | (with_reducible exact Below.refl _ _) | (with_reducible assumption) | (with_reducible refine Below.alloc ?_ ?_ _) | (with_reducible refine Below.drew ?_) | (with_reducible refine Below_drewN ?_ _) | (with_reducible refine Below.setCell ?_ ?_ _) | (refine Below.step (B' := ?_) (b := ?_) ?_ ?_ ?_; rotate_left 2; (with_reducible assumption)) | go_size))⟩
theorem some_c (s : ByteArray) (i n many : Int) (hs : s.size ≤ 4611686018427387904) (h0 : -9223372036854775808 ≤ i) (h1 : i ≤ 9223372036854775807) (w : World) :
    Calls Try.prog 19 #[tp s i, .int .i64 n, .int .i64 many] w (Picks s (someLL s i n many) (someAA s i n many) w) := by
  by_cases h : sOk n many
  · obtain ⟨g0, g1, g2⟩ := h
    obtain ⟨N, rfl⟩ := Int.eq_ofNat_of_zero_le (show 0 ≤ n by omega)
    refine (some_ok s i N many hs h0 h1 (by omega) (by omega) g2 w).mono ?_
    rintro e w' ⟨b, rfl, hb, hr, hB⟩
    have hl := someL_len s (min many (N : Int)).toNat i ((List.range N).map Int.ofNat)
    have hse := hr.sees hb
    rw [hl] at hse
    unfold someLL someAA
    rw [if_pos ⟨g0, g1, g2⟩, if_pos ⟨g0, g1, g2⟩, Int.toNat_natCast]
    exact ⟨_, _, _, rfl, hl, cap_some (Nat.le_refl _), hse, hB⟩
  · refine (some_no s i n many h hs w).mono ?_
    rintro e w' ⟨rfl, hB⟩
    unfold someLL someAA
    rw [if_neg h, if_neg h]
    exact ⟨_, _, _, rfl, rfl, cap_none, Sees.empty _ _ _, hB⟩

/-- The four bytes of a number, the lowest first. -/
def four (n : Int) : ByteArray := ⟨#[UInt8.ofNat (n % 256).toNat, UInt8.ofNat (n / 256 % 256).toNat, UInt8.ofNat (n / 65536 % 256).toNat, UInt8.ofNat (n / 16777216).toNat]⟩
theorem conv4 (a b c d : Int) (g : Nat) (W : World) (h0 : W.cell? ⟨g, 0, none⟩ = some (.int .u8 a)) (h1 : W.cell? ⟨g, 1, none⟩ = some (.int .u8 b)) (h2 : W.cell? ⟨g, 2, none⟩ = some (.int .u8 c)) (h3 : W.cell? ⟨g, 3, none⟩ = some (.int .u8 d)) :
    (convert 56 9 (.slice (some ⟨g, 0, none⟩) 4 4)).run Try.prog W = .ok (.string ⟨#[UInt8.ofNat a.toNat, UInt8.ofNat b.toNat, UInt8.ofNat c.toNat, UInt8.ofNat d.toNat]⟩) W := by
  rw [run_convert_bytes_string W 56 9 5 _ _ _ Try.underlying56 (by kernel_rfl) Try.underlying9]
  have hl : (loadCells ⟨g, 0, none⟩ 4).run Try.prog W = .ok ([a, b, c, d].map (Value.int .u8)).toArray W := by
    go_simp
  rw [run_bytesToString W ⟨g, 0, none⟩ 4 4 [a, b, c, d] hl]
  rfl
theorem of1_c (n : Int) (h0 : 0 ≤ n) (h1 : n < 4294967296) (w : World) :
    Calls Try.prog 24 #[.int .u32 n] w fun r w' => r = .returned (tp (four n) 0) ∧ Below w.heap.size w w' := by
  have hcv := fun W => conv4 (n % 256) (n / 256 % 256) (n / 65536 % 256) (n / 16777216) (w.heap.size + 1) W
  unfold tp four
  go_enter Try.func24, Try.ntmps24
  go_wp2_with fail
  refine bodyPost_ret (by simp [results, Try.results24, go_sem]; try rfl) rfl ?_
  exact ⟨rfl, by (repeat' (first | (with_reducible exact Below.refl _ _) | (with_reducible assumption) | (with_reducible refine Below.alloc ?_ ?_ _) | (with_reducible refine Below.drew ?_) | (with_reducible refine Below_drewN ?_ _) | (with_reducible refine Below.setCell ?_ ?_ _) | (refine Below.step (B' := ?_) (b := ?_) ?_ ?_ ?_; rotate_left 2; (with_reducible assumption)) | go_size))⟩
theorem ofNat_in (n : Int) (h0 : 0 ≤ n) (h1 : n < 256) : ((UInt8.ofNat n.toNat).toNat : Int) = n := by
  have : (UInt8.ofNat n.toNat).toNat = n.toNat % 256 := by simp
  rw [this]; omega
theorem four_size (n : Int) : (four n).size = 4 := rfl
theorem four_draw (n : Int) (h0 : 0 ≤ n) (h1 : n < 4294967296) : bt (four n) 0 + 256 * bt (four n) 1 + 65536 * bt (four n) 2 + 16777216 * bt (four n) 3 = n := by
  have e0 : bt (four n) 0 = n % 256 := ofNat_in _ (by omega) (by omega)
  have e1 : bt (four n) 1 = n / 256 % 256 := ofNat_in _ (by omega) (by omega)
  have e2 : bt (four n) 2 = n / 65536 % 256 := ofNat_in _ (by omega) (by omega)
  have e3 : bt (four n) 3 = n / 16777216 := ofNat_in _ (by omega) (by omega)
  rw [e0, e1, e2, e3]
  omega
end Go.Proofs.Try
