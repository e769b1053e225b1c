/- linhayref15: May, Told (stage 15). -/
import Derived.Test.YtgkiijpheigpjaaLw
import Derived.Test.YtgkiijpheigpjaaQT
import Derived.LoopN
import Derived.WalkMore
namespace Go.Proofs.Try
open Go.RowKit
set_option linter.unusedVariables false
set_option linter.unusedSimpArgs false
theorem not_mem_take {l : List Int} {k : Nat} (hk : k < l.length) (h : ∀ i, i < k → atZ l i ≠ atZ l k) : atZ l k ∉ l.take k := by
  intro hm
  obtain ⟨i, hi, he⟩ := List.getElem_of_mem hm
  rw [List.length_take] at hi
  refine h i (by omega) ?_
  rw [List.getElem_take] at he
  rw [← he]
  unfold atZ
  rw [List.getD_eq_getElem?_getD, List.getElem?_eq_getElem (by omega)]
  rfl
theorem mem_take {l : List Int} {i k : Nat} (hk : k < l.length) (hi : i < k) : atZ l i ∈ l.take k := by
  have : (l.take k)[i]'(by rw [List.length_take]; omega) = atZ l i := by
    rw [List.getElem_take]
    unfold atZ
    rw [List.getD_eq_getElem?_getD, List.getElem?_eq_getElem (by omega)]
    rfl
  rw [← this]
  exact List.getElem_mem _
set_option maxRecDepth 100000 in
set_option maxHeartbeats 8000000 in
theorem may_c (v : Value) (n : Nat) (l : List Int) (w : World) (h : Rows encZ 1 w v n l) :
    Calls Try.prog 55 #[v] w fun e w' => e = .returned (.bool (decide (isL l))) ∧ Below w.heap.size w w' := by
  obtain ⟨A, c, rfl, hc, hn, hl, hs⟩ := h
  have HL := Lib.hid hl
  by_cases h0 : n = 0
  · subst h0
    obtain rfl : l = [] := List.eq_nil_of_length_eq_zero hl
    have HD := Lib.hid (show decide (isL []) = true from decide_eq_true isL_nil)
    clear hs hc hl
    go_enter Try.func55, Try.ntmps55
    go_wp2_with fail
    go_loop [3] (fun i => i = .int .i64 0) (fun i => 0)
    case atStart => rfl
    case round =>
      subst hrel
      go_wp2_with fail
      go_ret
      exact ⟨ret_b HD.out.symm, Below.refl _ _⟩
  obtain ⟨b, off, rfl, hbl⟩ := Rows.some hs h0
  have HC : Hid (∀ j, j < n → w.cell? ⟨b, off + j, none⟩ = some (.int .i64 (atZ l j))) := Lib.hid (fun j hj => hs.elZ (by omega))
  clear hs hc hl
  go_enter Try.func55, Try.ntmps55
  go_wp2_with fail
  go_loopw [3] (fun i wr => ∃ k m : Nat, k ≤ n ∧ i = .int .i64 k ∧ Hid (isL (l.take k)) ∧ wr = w.drewN m) (fun i _ => n - (intOf i).toNat)
  case atStart => exact ⟨0, 0, by omega, rfl, Lib.hid (by rw [List.take_zero]; exact isL_nil), rfl⟩
  case round =>
    obtain ⟨k, m, hk, rfl, HK, rfl⟩ := hrel
    by_cases hlt : k < n
    · have hlt' : (k : Int) < (n : Int) := by omega
      have hkl : k < l.length := by rw [HL.out]; exact hlt
      have HKL := Lib.hid hkl
      have ck := HC.out k hlt
      obtain ⟨x, hx⟩ : ∃ x, atZ l k = x := ⟨_, rfl⟩
      rw [hx] at ck
      have HX := Lib.hid hx
      clear hkl hx
      by_cases hr : x < 0 ∨ 63 < x
      · have HD := Lib.hid (show decide (isL l) = false from decide_eq_false (isL_not HKL.out (by rw [HX.out]; intro h; omega)))
        rcases hr with hr | hr
        · go_wp2_with fail
          go_ret
          exact ⟨ret_b HD.out.symm, Below_drewN (Below.refl _ _) _⟩
        · have hr0 : ¬x < 0 := by omega
          go_wp2_with fail
          go_ret
          exact ⟨ret_b HD.out.symm, Below_drewN (Below.refl _ _) _⟩
      · have hr0 : ¬x < 0 := by omega
        have hr1 : ¬63 < x := by omega
        clear hr
        go_wp2_with fail
        go_loopw [4] (fun i wr => ∃ j m : Nat, j ≤ k ∧ i = .int .i64 j ∧ Hid (∀ i, i < j → atZ l i ≠ x) ∧ wr = w.drewN m) (fun i _ => k - (intOf i).toNat)
        case atStart => exact ⟨0, m, by omega, rfl, Lib.hid (fun i hi => by omega), rfl⟩
        case round =>
          obtain ⟨j, m2, hj, rfl, HJ, rfl⟩ := hrel
          by_cases hjk : j < k
          · have hjk' : (j : Int) < (k : Int) := by omega
            have hjn : (j : Int) < (n : Int) := by omega
            have cj := HC.out j (by omega)
            obtain ⟨y, hy⟩ : ∃ y, atZ l j = y := ⟨_, rfl⟩
            rw [hy] at cj
            have HY := Lib.hid hy
            clear hy
            by_cases he : y = x
            · have HD := Lib.hid (show decide (isL l) = false from decide_eq_false (isL_not HKL.out (by rw [HX.out]; intro h; exact h.1 (by have := mem_take HKL.out hjk; rw [HY.out, he] at this; exact this))))
              have he' : (y == x) = true := by rw [he]; simp
              clear he
              go_wp2_with fail
              go_quiet (fail)
              go_wp2_with fail
              go_ret
              exact ⟨ret_b HD.out.symm, by repeat (first | exact Below_drewN (Below.refl _ _) _ | refine Below_drewN ?_ _)⟩
            · have he' : (y == x) = false := by rw [beq_eq_false_iff_ne]; exact he
              have HJN := Lib.hid (show ∀ i, i < j + 1 → atZ l i ≠ x from fun i hi => by
                by_cases hij : i = j
                · rw [hij, HY.out]; exact he
                · exact HJ.out i (by omega))
              clear he
              go_wp2_with fail
              go_quiet (fail)
              go_wp2_with fail
              go_roundw
              case rel => exact ⟨j + 1, _, by omega, by go_num, HJN, by first | rfl | (simp; rfl)⟩
              case measure => simp [intOf]; omega
          · obtain rfl : j = k := by omega
            have HKN := Lib.hid ((isL_step HKL.out).2 ⟨HK.out, not_mem_take HKL.out (by rw [HX.out]; exact HJ.out), by rw [HX.out]; omega, by rw [HX.out]; omega⟩)
            go_wp2_with fail
            go_roundw
            case rel => exact ⟨j + 1, _, by omega, by go_num, HKN, by first | rfl | (simp; rfl)⟩
            case measure => simp [intOf]; omega
    · have hke : k = n := by omega
      subst hke
      have HD := Lib.hid (show decide (isL l) = true from decide_eq_true (by have := HK.out; rwa [← HL.out, List.take_length] at this))
      go_wp2_with fail
      go_ret
      exact ⟨ret_b HD.out.symm, Below_drewN (Below.refl _ _) _⟩
end Go.Proofs.Try
