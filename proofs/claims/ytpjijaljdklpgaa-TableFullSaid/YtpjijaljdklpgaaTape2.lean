/- Contracts of the package tape: Draw. -/
import Derived.Test.YtpjijaljdklpgaaTape
import Derived.Laws.DeepStrings4
namespace Go.Proofs.Try
open Go.RowKit
set_option linter.unusedVariables false

theorem bt_in (s : ByteArray) (i : Nat) : 0 ≤ bt s i ∧ bt s i < 256 := by
  unfold bt
  have := (s.data.toList.getD i 0).toNat_lt
  omega
/-- The first four bytes of what is behind the place 4k. -/
theorem take4 (s : ByteArray) (k : Nat) (h : 4 * k + 4 ≤ s.size) : List.take 4 (List.drop (4 * k) (s.data.toList.map fun x : UInt8 => Value.int .u8 (x.toNat : Int))) = [.int .u8 (bt s (4 * k)), .int .u8 (bt s (4 * k + 1)), .int .u8 (bt s (4 * k + 2)), .int .u8 (bt s (4 * k + 3))] := by
  have hz : s.data.toList.length = s.size := by rw [← Lib.size_eq]
  apply List.ext_getElem?
  intro j
  rw [List.getElem?_take]
  by_cases hj : j < 4
  · rw [if_pos hj, List.getElem?_drop, List.getElem?_map]
    have e : ∀ i, i < s.size → s.data.toList[i]? = some (s.data.toList.getD i 0) := fun i hi => by
      rw [List.getD_eq_getElem?_getD, List.getElem?_eq_getElem (by omega)]; rfl
    rcases (by omega : j = 0 ∨ j = 1 ∨ j = 2 ∨ j = 3) with rfl | rfl | rfl | rfl
    all_goals
      rw [e _ (by omega)]
      rfl
  · rw [if_neg hj]
    symm
    apply List.getElem?_eq_none
    simp; omega
theorem copy4 (s : ByteArray) (k : Nat) (h : 4 * k + 4 ≤ s.size) (b : Nat) (ty : TypeId) (W : World)
    (h0 : (W.cell? ⟨b, 0, none⟩).isSome = true) (h1 : (W.cell? ⟨b, 1, none⟩).isSome = true) (h2 : (W.cell? ⟨b, 2, none⟩).isSome = true) (h3 : (W.cell? ⟨b, 3, none⟩).isSome = true)
    (f0 : W.frozen? ⟨b, 0, none⟩ = false) (f1 : W.frozen? ⟨b, 1, none⟩ = false) (f2 : W.frozen? ⟨b, 2, none⟩ = false) (f3 : W.frozen? ⟨b, 3, none⟩ = false) :
    (Builtin.copy_ #[42, 9] ty #[.slice (some ⟨b, 0, none⟩) 4 4, .string (s.extract (4 * k) s.size)]).run Try.prog W =
      .ok (goInt 4) ((((W.setCell ⟨b, 0, none⟩ (.int .u8 (bt s (4 * k)))).setCell ⟨b, 1, none⟩ (.int .u8 (bt s (4 * k + 1)))).setCell ⟨b, 2, none⟩ (.int .u8 (bt s (4 * k + 2)))).setCell ⟨b, 3, none⟩ (.int .u8 (bt s (4 * k + 3)))) := by
  have hu : Try.prog.underlying 42 = some (.slice 5) := Try.underlying42
  have hz : ∀ w, (Go.sizeOf 5).run Try.prog w = .ok 1 w := fun w => by kernel_rfl
  have hsz : (s.extract (4 * k) s.size).size = s.size - 4 * k := by simp
  have hmin : Nat.min (s.extract (4 * k) s.size).size 4 = 4 := by rw [hsz]; exact Nat.min_eq_right (by omega)
  have hst := run_storeCells_cells (P := Try.prog) b 0 [.int .u8 (bt s (4 * k)), .int .u8 (bt s (4 * k + 1)), .int .u8 (bt s (4 * k + 2)), .int .u8 (bt s (4 * k + 3))] 0 W (by
    intro j hj
    simp at hj
    rcases (by omega : j = 0 ∨ j = 1 ∨ j = 2 ∨ j = 3) with rfl | rfl | rfl | rfl <;> assumption) (by
    intro j hj
    simp at hj
    rcases (by omega : j = 0 ∨ j = 1 ∨ j = 2 ∨ j = 3) with rfl | rfl | rfl | rfl <;> assumption) (by
    intro v hv
    simp at hv
    rcases hv with rfl | rfl | rfl | rfl <;> rfl)
  rw [hsz] at hmin
  simp [Builtin.copy_, run_underlying hu, Builtin.lenOf, Builtin.firstCells, hz, hmin]
  rw [show min (4 * k + 4) s.size - 4 * k = 4 by omega, take4 s k h, hst]
  rfl
/-- The four bytes of a draw, joined. -/
theorem or_add (x y : Int) (i : Nat) (h0 : 0 ≤ x) (h1 : x < 2 ^ i) (h1' : x < 4294967296) (h2 : 0 ≤ y) (h3 : y * 2 ^ i < 4294967296) : bits .or .u32 x (y * 2 ^ i) = x + y * 2 ^ i := by
  obtain ⟨X, rfl⟩ := Int.eq_ofNat_of_zero_le h0
  obtain ⟨Y, rfl⟩ := Int.eq_ofNat_of_zero_le h2
  have e : ((Y : Int) * 2 ^ i) = ((Y * 2 ^ i : Nat) : Int) := by simp
  have g1 : X < 2 ^ i := by
    have : ((X : Nat) : Int) < ((2 ^ i : Nat) : Int) := by simpa using h1
    omega
  rw [e] at h3 ⊢
  have g3 : Y * 2 ^ i < 4294967296 := by omega
  rw [u32_or_nat X (Y * 2 ^ i) (by omega) (by omega), Nat.or_comm, nat_join i _ _ (Nat.mul_mod_left _ _) g1]
  omega

theorem join4 (a b c d : Int) (ha : 0 ≤ a ∧ a < 256) (hb : 0 ≤ b ∧ b < 256) (hc : 0 ≤ c ∧ c < 256) (hd : 0 ≤ d ∧ d < 256) :
    bits .or .u32 (bits .or .u32 (bits .or .u32 (bits .or .u32 0 (a % 4294967296)) (b % 4294967296 * 256 % 4294967296)) (c % 4294967296 * 65536 % 4294967296)) (d % 4294967296 * 16777216 % 4294967296) = a + 256 * b + 65536 * c + 16777216 * d := by
  have e1 : a % 4294967296 = a * 2 ^ 0 := by omega
  have e2 : b % 4294967296 * 256 % 4294967296 = b * 2 ^ 8 := by omega
  have e3 : c % 4294967296 * 65536 % 4294967296 = c * 2 ^ 16 := by omega
  have e4 : d % 4294967296 * 16777216 % 4294967296 = d * 2 ^ 24 := by omega
  rw [e1, e2, e3, e4, or_add 0 a 0 (by omega) (by omega) (by omega) (by omega) (by omega), or_add _ b 8 (by omega) (by omega) (by omega) (by omega) (by omega), or_add _ c 16 (by omega) (by omega) (by omega) (by omega) (by omega), or_add _ d 24 (by omega) (by omega) (by omega) (by omega) (by omega)]
  omega

theorem ret_iv {k : IntKind} {a b : Int} {v : Value} (h : a = b) : Ending.returned (.tuple #[.int k a, v]) = .returned (.tuple #[.int k b, v]) := by rw [h]
theorem bt_get (s : ByteArray) (i : Nat) (h : i < s.size) : ((s[i]'h).toNat : Int) = bt s i := by
  have hz : s.data.toList.length = s.size := by rw [← Lib.size_eq]
  unfold bt
  rw [List.getD_eq_getElem?_getD, List.getElem?_eq_getElem (by omega)]
  rfl
theorem bt_cut (s : ByteArray) (a b j : Nat) (h : a + j < b) : bt (s.extract a b) j = bt s (a + j) := by
  unfold bt
  rw [Lib.extract_data, List.getD_eq_getElem?_getD, List.getD_eq_getElem?_getD, List.getElem?_take, if_pos (by omega), List.getElem?_drop]
theorem index_t (s : ByteArray) (i : Nat) (h : i < s.size) (K : IntKind) (W : World) : (Instr.index 9 (.string s) (.int K (i : Int))).run Try.prog W = .ok (.int .u8 (bt s i)) W := by
  rw [run_index_string (h := Try.underlying9), dif_pos ⟨by omega, by omega⟩]
  have e : ((i : Int)).toNat = i := by omega
  simp only [e, bt_get]
theorem drawN_in (s : ByteArray) (i : Int) : 0 ≤ drawN s i ∧ drawN s i < 4294967296 := by
  unfold drawN
  split
  · have := bt_in s (4 * i.toNat)
    have := bt_in s (4 * i.toNat + 1)
    have := bt_in s (4 * i.toNat + 2)
    have := bt_in s (4 * i.toNat + 3)
    omega
  · omega
theorem nextN_in (s : ByteArray) (i : Int) (hs : s.size ≤ 4611686018427387904) (h0 : -9223372036854775808 ≤ i) (h1 : i ≤ 9223372036854775807) : -9223372036854775808 ≤ nextN s i ∧ nextN s i ≤ 9223372036854775807 := by
  unfold nextN
  split
  · rename_i h
    obtain ⟨h2, h3⟩ := h
    unfold many at h3
    omega
  · omega

/-- The number that is picked, and the tape's place behind. -/
def pickOk (n : Int) : Prop := 1 ≤ n ∧ n ≤ 2147483647
instance (n : Int) : Decidable (pickOk n) := by unfold pickOk; infer_instance
def pickN (s : ByteArray) (i n : Int) : Int := if pickOk n then drawN s i * n / 4294967296 else 0
def pickA (s : ByteArray) (i n : Int) : Int := if pickOk n then nextN s i else i
theorem prod_lt (d n : Int) (h0 : 0 ≤ d) (h1 : d < 4294967296) (h2 : 1 ≤ n) (h3 : n ≤ 2147483647) : 0 ≤ d * n ∧ d * n ≤ 4294967295 * n := ⟨Int.mul_nonneg h0 (by omega), Int.mul_le_mul_of_nonneg_right (by omega) (by omega)⟩
end Go.Proofs.Try
