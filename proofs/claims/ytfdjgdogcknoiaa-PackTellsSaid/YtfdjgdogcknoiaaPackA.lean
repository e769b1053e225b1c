/- pack.Text, linhayref07.Text, pack.TakeText, linhayref07.TakeText. -/
import Derived.Test.YtfdjgdogcknoiaaPack7
import Derived.Test.YtfdjgdogcknoiaaPack8
namespace Go.Proofs.Try
open Go.RowKit
set_option linter.unusedVariables false
set_option linter.unusedSimpArgs false

theorem putB_one (n : Nat) : putB [(n : Int)] = oneB n := by simp [putB]
set_option maxRecDepth 100000 in
set_option maxHeartbeats 1000000 in
theorem ptext_c (bs ts : List UInt8) (hb : bs.length ≤ 400000) (ht : ts.length ≤ 400000) (w : World) :
    Calls Try.prog 20 #[.string (S bs), .string (S ts)] w fun r w' => r = .returned (.string (S (bs ++ textB ts))) ∧ Below w.heap.size w w' := by
  have hsz := S_size ts
  have h10 := sizeB_10 ts.length (by omega)
  unfold sizeB at h10
  have hadd := fun W => add_S (bs ++ oneB ts.length) ts (by rw [List.length_append]; unfold maxLen; omega) W
  have HR : (bs ++ oneB ts.length) ++ ts = bs ++ textB ts := by unfold textB; rw [List.append_assoc]
  rw [HR] at hadd
  have HP := fun (w : World) => pput_c (some ⟨w.heap.size, 0, none⟩) 1 1 bs [(ts.length : Int)] _ (Sees.one w (.int .u64 (ts.length : Int)) 24) (by intro x hx; rw [List.mem_singleton] at hx; subst hx; omega) (by omega) (by omega)
  rw [putB_one] at HP
  clear HR h10
  go_enter Try.func20, Try.ntmps20
  go_wp2_with fail
  with_reducible refine (HP _).mono ?_
  rintro e w1 ⟨rfl, hb1⟩
  go_wp2_with fail
  go_ret
  exact ⟨rfl, ((Below.refl _ _).alloc (Nat.le_refl _) _).trans (hb1.mono (by simp))⟩
set_option maxRecDepth 100000 in
set_option maxHeartbeats 1000000 in
theorem rtext_c (bs ts : List UInt8) (hb : bs.length ≤ 400000) (ht : ts.length ≤ 400000) (w : World) :
    Calls Try.prog 21 #[.string (S bs), .string (S ts)] w fun r w' => r = .returned (.string (S (bs ++ textB ts))) ∧ Below w.heap.size w w' := by
  have hsz := S_size ts
  have h10 := sizeB_10 ts.length (by omega)
  unfold sizeB at h10
  have hadd1 := fun W => add_S bs (oneB ts.length) (by unfold maxLen; omega) W
  have hadd := fun W => add_S (bs ++ oneB ts.length) ts (by rw [List.length_append]; unfold maxLen; omega) W
  have HR : (bs ++ oneB ts.length) ++ ts = bs ++ textB ts := by unfold textB; rw [List.append_assoc]
  rw [HR] at hadd
  have HP := one_c ts.length (by omega)
  clear HR h10
  go_enter Try.func21, Try.ntmps21
  go_wp2_with fail
  with_reducible refine (HP _).mono ?_
  rintro e w1 ⟨rfl, hb1⟩
  go_wp2_with fail
  go_ret
  exact ⟨rfl, hb1⟩
/-- What is told of a text that is taken. -/
def ttR : Option (List UInt8 × List UInt8) → Value
  | none => .tuple #[.string ⟨#[]⟩, .string ⟨#[]⟩, .int .i64 70]
  | some p => .tuple #[.string (S p.1), .string (S p.2), .int .i64 0]
theorem none2_c (w : World) : Calls Try.prog 28 #[] w fun r w' => r = .returned (ttR none) ∧ w = w' := by
  go_enter Try.func28, Try.ntmps28
  go_wp2_with fail
  refine bodyPost_ret (by simp [results, Try.results28, go_sem]; try rfl) rfl ?_
  exact ⟨rfl, rfl⟩
theorem tt_none1 (bs : List UInt8) (h : takeL bs = none) : takeTextL bs = none := by unfold takeTextL; rw [h]
theorem tt_none2 (bs : List UInt8) (n : Nat) (r : List UInt8) (h : takeL bs = some (n, r)) (hn : r.length < n) : takeTextL bs = none := by
  unfold takeTextL; rw [h]; simp only; rw [if_neg (by omega)]
theorem tt_some (bs : List UInt8) (n : Nat) (r : List UInt8) (h : takeL bs = some (n, r)) (hn : n ≤ r.length) : takeTextL bs = some (r.take n, r.drop n) := by
  unfold takeTextL; rw [h]; simp only; rw [if_pos hn]
set_option maxRecDepth 100000 in
set_option maxHeartbeats 2000000 in
theorem taketext_c (bs : List UInt8) (hs : bs.length ≤ 1000000) (w : World) :
    Calls Try.prog 13 #[.string (S bs)] w fun r w' => r = .returned (ttR (takeTextL bs)) ∧ Below w.heap.size w w' := by
  have hmf : ∀ (fn : Fn) (first cap : Array Value) (w : World), (Instr.makeFunc fn first cap).run Try.prog w = .ok (.func fn first cap) w := fun _ _ _ _ => rfl
  have hn1 := none2_c
  unfold ttR at hn1
  simp only at hn1
  have HT := take_c bs hs
  cases hc : takeL bs with
  | none =>
    have HR := Lib.hid (tt_none1 bs hc)
    rw [hc] at HT
    unfold tkR at HT
    simp only at HT
    clear hc
    go_enter Try.func13, Try.ntmps13
    go_wp2_with fail
    with_reducible refine (HT _).mono ?_
    rintro e w1 ⟨rfl, hb1⟩
    go_wp2_with fail
    with_reducible refine (hn1 _).mono ?_
    rintro e w' ⟨rfl, rfl⟩
    go_wp2_with fail
    refine bodyPost_ret (by simp [results, Try.results13, go_sem]; try rfl) rfl ?_
    exact ⟨by rw [HR.out]; rfl, hb1⟩
  | some p =>
    obtain ⟨n, r⟩ := p
    obtain ⟨ho, hn64⟩ := takeL_own bs n r hc
    have hrl := takeL_short bs n r hc
    rw [hc] at HT
    unfold tkR at HT
    simp only at HT
    have hsz := S_size r
    by_cases hn : n ≤ r.length
    · have HR := Lib.hid (tt_some bs n r hc hn)
      have e0 : decide ((r.length : Int) < (n : Int)) = false := by simp; omega
      have hst := S_take r n
      have hdr := S_drop' r n r.length rfl
      clear hc ho
      go_enter Try.func13, Try.ntmps13
      go_wp2_with fail
      with_reducible refine (HT _).mono ?_
      rintro e w1 ⟨rfl, hb1⟩
      go_wp2_with fail
      go_quiet (fail)
      go_wp2_with fail
      refine bodyPost_ret (by simp [results, Try.results13, go_sem]; try rfl) rfl ?_
      exact ⟨by rw [HR.out]; rfl, Below_drewN hb1 _⟩
    · have HR := Lib.hid (tt_none2 bs n r hc (by omega))
      have e0 : (r.length : Int) < (n : Int) := by omega
      clear hc ho
      go_enter Try.func13, Try.ntmps13
      go_wp2_with fail
      with_reducible refine (HT _).mono ?_
      rintro e w1 ⟨rfl, hb1⟩
      go_wp2_with fail
      with_reducible refine (hn1 _).mono ?_
      rintro e w' ⟨rfl, rfl⟩
      go_wp2_with fail
      refine bodyPost_ret (by simp [results, Try.results13, go_sem]; try rfl) rfl ?_
      exact ⟨by rw [HR.out]; rfl, hb1⟩
set_option maxRecDepth 100000 in
set_option maxHeartbeats 2000000 in
theorem rtaketext_c (bs : List UInt8) (hs : bs.length ≤ 1000000) (w : World) :
    Calls Try.prog 14 #[.string (S bs)] w fun r w' => r = .returned (ttR (takeTextL bs)) ∧ Below w.heap.size w w' := by
  have HT := rtake_c bs hs
  cases hc : takeL bs with
  | none =>
    have HR := Lib.hid (tt_none1 bs hc)
    rw [hc] at HT
    unfold tkR at HT
    simp only at HT
    clear hc
    go_enter Try.func14, Try.ntmps14
    go_wp2_with fail
    with_reducible refine (HT _).mono ?_
    rintro e w1 ⟨rfl, hb1⟩
    go_wp2_with fail
    refine bodyPost_ret (by simp [results, Try.results14, go_sem]; try rfl) rfl ?_
    exact ⟨by rw [HR.out]; rfl, hb1⟩
  | some p =>
    obtain ⟨n, r⟩ := p
    obtain ⟨ho, hn64⟩ := takeL_own bs n r hc
    have hrl := takeL_short bs n r hc
    rw [hc] at HT
    unfold tkR at HT
    simp only at HT
    have hsz := S_size r
    by_cases hn : n ≤ r.length
    · have HR := Lib.hid (tt_some bs n r hc hn)
      have e0 : decide ((r.length : Int) < (n : Int)) = false := by simp; omega
      have hst := S_take r n
      have hdr := S_drop' r n r.length rfl
      have hwr : IntKind.i64.wrap (n : Int) = (n : Int) := by rw [IntKind.wrap_i64]; omega
      clear hc ho
      go_enter Try.func14, Try.ntmps14
      go_wp2_with fail
      with_reducible refine (HT _).mono ?_
      rintro e w1 ⟨rfl, hb1⟩
      go_wp2_with fail
      go_quiet (fail)
      go_wp2_with fail
      refine bodyPost_ret (by simp [results, Try.results14, go_sem]; try rfl) rfl ?_
      exact ⟨by rw [HR.out]; rfl, Below_drewN hb1 _⟩
    · have HR := Lib.hid (tt_none2 bs n r hc (by omega))
      have e0 : (r.length : Int) < (n : Int) := by omega
      clear hc ho
      go_enter Try.func14, Try.ntmps14
      go_wp2_with fail
      with_reducible refine (HT _).mono ?_
      rintro e w1 ⟨rfl, hb1⟩
      go_wp2_with fail
      refine bodyPost_ret (by simp [results, Try.results14, go_sem]; try rfl) rfl ?_
      exact ⟨by rw [HR.out]; rfl, hb1⟩
end Go.Proofs.Try
