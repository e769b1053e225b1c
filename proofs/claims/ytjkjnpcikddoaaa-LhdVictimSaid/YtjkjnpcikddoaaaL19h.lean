/- LhdVictim, whole. -/
import Derived.Test.YtjkjnpcikddoaaaL19g
namespace Go.Proofs.Try
open Go.RowKit
set_option linter.unusedVariables false
set_option linter.unusedSimpArgs false
set_option maxRecDepth 100000 in
set_option maxHeartbeats 4000000 in
theorem vic_big (l : List Nat) (A1 A2 A3 : Option Addr) (n1 n2 n3 c1 c2 c3 : Nat) (h : ¬(n1 ≤ 100 ∧ n2 ≤ 100 ∧ n3 ≤ 100)) (w : World) :
    Calls Try.prog 12 #[.agg (u64V l), .slice A1 n1 c1, .slice A2 n2 c2, .slice A3 n3 c3] w fun e w' => e = .returned (.bool true) ∧ Below w.heap.size w w' := by
  have hlit := lit16
  by_cases h1 : n1 ≤ 100
  · have q1 : decide (100 < (n1 : Int)) = false := by simp; omega
    have q1' : ¬(100 < n1) := by omega
    by_cases h2 : n2 ≤ 100
    · have q2 : decide (100 < (n2 : Int)) = false := by simp; omega
      have q2' : ¬(100 < n2) := by omega
      have q3 : decide (100 < (n3 : Int)) = true := by simp; omega
      have q3' : 100 < n3 := by omega
      clear h h1 h2
      go_enter Try.func12, Try.ntmps12
      have HBW := Lib.hid ((Below.refl w.heap.size w).alloc (Nat.le_refl _) (.cells (u64V l) 49))
      go_wp2_with fail
      with_reducible refine (awake19 _).mono ?_
      rintro e w1 ⟨rfl, hb1⟩
      dsimp only
      replace HBW := Lib.hid (chain HBW.out hb1)
      clear hb1
      go_wp2_with fail
      go_ret
      exact ⟨rfl, HBW.out⟩
    · have q2 : decide (100 < (n2 : Int)) = true := by simp; omega
      have q2' : 100 < n2 := by omega
      clear h h1 h2
      go_enter Try.func12, Try.ntmps12
      have HBW := Lib.hid ((Below.refl w.heap.size w).alloc (Nat.le_refl _) (.cells (u64V l) 49))
      go_wp2_with fail
      with_reducible refine (awake19 _).mono ?_
      rintro e w1 ⟨rfl, hb1⟩
      dsimp only
      replace HBW := Lib.hid (chain HBW.out hb1)
      clear hb1
      go_wp2_with fail
      go_ret
      exact ⟨rfl, HBW.out⟩
  · have q1 : decide (100 < (n1 : Int)) = true := by simp; omega
    have q1' : 100 < n1 := by omega
    clear h h1
    go_enter Try.func12, Try.ntmps12
    have HBW := Lib.hid ((Below.refl w.heap.size w).alloc (Nat.le_refl _) (.cells (u64V l) 49))
    go_wp2_with fail
    with_reducible refine (awake19 _).mono ?_
    rintro e w1 ⟨rfl, hb1⟩
    dsimp only
    replace HBW := Lib.hid (chain HBW.out hb1)
    clear hb1
    go_wp2_with fail
    go_ret
    exact ⟨rfl, HBW.out⟩
theorem walk_LhdVictim (l : List Nat) (v1 v2 v3 : Value) (hl : Rk l) (w : World) (o1 : ∃ xs, Row w .i64 v1 xs) (o2 : ∃ xs, Row w .u64 v2 xs) (o3 : ∃ xs, Row w .i64 v3 xs) :
    Calls Try.prog 12 #[.agg (u64V l), v1, v2, v3] w fun e w' => e = .returned (.bool true) ∧ Below w.heap.size w w' := by
  obtain ⟨xs, A1, n1, c1, rfl, _, _, hs1, _⟩ := o1
  obtain ⟨ys, hy⟩ := o2
  obtain ⟨A2, n2, c2, sizes, rfl, hs2, hsz⟩ := row_nats hy
  obtain ⟨zs, A3, n3, c3, rfl, _, _, hs3, _⟩ := o3
  by_cases h : n1 ≤ 100 ∧ n2 ≤ 100 ∧ n3 ≤ 100
  · obtain ⟨h1, h2, h3⟩ := h
    obtain ⟨p, hp⟩ : ∃ p, lstS (vsI (vrL l xs sizes zs)) n3 = p := ⟨_, rfl⟩
    obtain ⟨a, f⟩ := p
    cases f with
    | false => exact vic_false l hl A1 A2 A3 n1 n2 n3 c1 c2 c3 xs sizes zs h1 h2 h3 hsz a hp w hs1 hs2 hs3
    | true => exact vic_true l hl A1 A2 A3 n1 n2 n3 c1 c2 c3 xs sizes zs h1 h2 h3 hsz a hp w hs1 hs2 hs3
  · exact vic_big l A1 A2 A3 n1 n2 n3 c1 c2 c3 h w
end Go.Proofs.Try
