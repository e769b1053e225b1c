/- linhayref05.power. -/
import Derived.Test.YtjcclobnpbgmcaaDoorExpo2
import Derived.Laws.Tables
import Derived.Great.Walk
import Derived.Laws.CopyOwn
namespace Go.Proofs.Tryd
open Go.RowKit
set_option linter.unusedVariables false
@[irreducible] def powV : Array Value := (pw.map fun (n : Nat) => Value.int .u64 (n : Int)).toArray
@[irreducible] def zerV : Array Value := (List.replicate 37 (Value.int .u64 0)).toArray
theorem powV_size : powV.size = 37 := by kernel_rfl
theorem zerV_size : zerV.size = powV.size := by kernel_rfl
theorem powV_one : powV.all (·.oneCell') = true := by kernel_rfl
theorem powV_info : (Tryd.prog.info? 82).map (·.size) = some powV.size := by kernel_rfl
theorem powV_at (k : Nat) (hk : k < 37) : powV[k]? = some (.int .u64 ((pk k : Nat) : Int)) := by
  unfold powV pk
  rw [List.getElem?_toArray, List.getElem?_map, List.getD_eq_getElem?_getD, List.getElem?_eq_getElem (show k < pw.length from hk)]
  rfl
set_option maxRecDepth 100000 in
set_option maxHeartbeats 2000000 in
theorem power_c (k : Nat) (hk : k < 37) (w : World) :
    Calls Tryd.prog 68 #[.int .i64 (k : Int)] w fun r w' => r = .returned (.int .u64 ((pk k : Nat) : Int)) ∧ Below w.heap.size w w' := by
  have hcell : ((w.alloc (.cells zerV 82)).setRow w.heap.size powV).cell? ⟨w.heap.size, k, none⟩ = some (.int .u64 ((pk k : Nat) : Int)) :=
    (cell_setRow_same _ _ k zerV powV 82 (0, 0) (heap_alloc_new w _)).trans (powV_at k hk)
  have hbel : Below w.heap.size w ((w.alloc (.cells zerV 82)).setRow w.heap.size powV) := by
    exact below_setRow ((Below.refl _ _).alloc (Nat.le_refl _) _) (Nat.le_refl _) _
  have hk' : (k : Int) < 37 := by omega
  go_enter Tryd.func68, Tryd.ntmps68
  go_wp2_with (first
    | (refine Go.Great.wpList_readTo rfl (some 4) rfl (.agg powV) (by as_aux_lemma => kernel_rfl) ?_)
    | (refine Go.Great.wpList_allocTo rfl (some 3) rfl (.pointer (some ⟨w.heap.size, 0, none⟩)) (.cells zerV 82) (by as_aux_lemma => kernel_rfl) ?_)
    | (refine wpList_store_row rfl 82 _ _ rfl w.heap.size powV (by rfl) (by rfl) 82 zerV (heap_alloc_new w _) powV_info zerV_size powV_one ?_))

  go_ret
  exact ⟨rfl, hbel⟩
theorem bit_val (x n : Nat) : ((x / 2 ^ n % 2 : Nat) : Int) = if x.testBit n then 1 else 0 := by
  rw [Nat.testBit_eq_decide_div_mod_eq]
  rcases Nat.mod_two_eq_zero_or_one (x / 2 ^ n) with h1 | h1 <;> simp [h1]
set_option maxRecDepth 100000 in
set_option maxHeartbeats 2000000 in
theorem bit_c (x n : Nat) (hx : x < 18446744073709551616) (hn : n < 64) (w : World) :
    Calls Tryd.prog 65 #[.int .u64 (x : Int), .int .i64 (n : Int)] w fun r w' => r = .returned (.int .u64 (if x.testBit n then 1 else 0)) ∧ w = w' := by
  have hv := bit_val x n
  generalize hR : (if x.testBit n then (1 : Int) else 0) = R at *
  go_enter Tryd.func65, Tryd.ntmps65
  go_wp2_with fail
  go_loopw [0, 5] (fun v i wr => ∃ k : Nat, k ≤ n ∧ i = .int .i64 k ∧ v = .int .u64 ((x / 2 ^ k : Nat) : Int) ∧ w = wr) (fun _ i _ => n - (intOf i).toNat)
  case atStart => exact ⟨0, by omega, rfl, by simp, rfl⟩
  case round =>
    obtain ⟨k, hk, rfl, rfl, rfl⟩ := hrel
    by_cases hlt : k < n
    · have hlt' : (k : Int) < (n : Int) := by omega
      have hd : ((x / 2 ^ k : Nat) : Int) / 2 = ((x / 2 ^ (k + 1) : Nat) : Int) := by
        rw [Nat.pow_succ, ← Nat.div_div_eq_div_mul]; omega
      have hle : x / 2 ^ k ≤ x := Nat.div_le_self _ _
      have hd2 : x / 2 ^ (k + 1) ≤ x := Nat.div_le_self _ _
      have HD := Lib.hid hd
      clear hd
      clear hv hR hd2
      generalize x / 2 ^ k = X1 at *
      go_wp2_with fail
      go_roundw
      case rel => exact ⟨k + 1, by omega, by go_num, by rw [← HD.out], trivial⟩
      case measure => simp [intOf]; omega
    · have hke : k = n := by omega
      subst hke
      have aux : ∀ Y : Nat, ((Y % 2 : Nat) : Int) = R → ((Y : Int)).tmod 2 = R := by
        intro Y h
        rw [Int.tmod_eq_emod_of_nonneg (by omega)]
        omega
      have hvt : ((x : Int) / 2 ^ k).tmod 2 = R := by
        rw [show ((x : Int) / 2 ^ k) = ((x / 2 ^ k : Nat) : Int) by simp]
        exact aux _ hv
      clear aux
      go_wp2_with fail
      go_ret
      exact ⟨by first | rfl | (rw [hvt]), by first | rfl | trivial⟩
end Go.Proofs.Tryd
