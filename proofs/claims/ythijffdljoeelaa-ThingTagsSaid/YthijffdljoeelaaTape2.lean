/- Contracts of the package tape: Draw. -/
import Derived.Test.YthijffdljoeelaaTape
import Derived.Laws.DeepStrings4
namespace Go.Proofs.Try
open Go.RowKit
set_option linter.unusedVariables false

theorem bt_in (s : ByteArray) (i : Nat) : 0 ≤ bt s i ∧ bt s i < 256 := by
  unfold bt
  have := (s.data.toList.getD i 0).toNat_lt
  omega
/-- The first four bytes of what is behind the place 4k. -/
theorem take4 (s : ByteArray) (k : Nat) (h : 4 * k + 4 ≤ s.size) : List.take 4 (List.drop (4 * k) (s.data.toList.map fun x : UInt8 => Value.int .u8 (x.toNat : Int))) = [.int .u8 (bt s (4 * k)), .int .u8 (bt s (4 * k + 1)), .int .u8 (bt s (4 * k + 2)), .int .u8 (bt s (4 * k + 3))] := by
  have hz : s.data.toList.length = s.size := by rw [← Lib.size_eq]
  apply List.ext_getElem?
  intro j
  rw [List.getElem?_take]
  by_cases hj : j < 4
  · rw [if_pos hj, List.getElem?_drop, List.getElem?_map]
    have e : ∀ i, i < s.size → s.data.toList[i]? = some (s.data.toList.getD i 0) := fun i hi => by
      rw [List.getD_eq_getElem?_getD, List.getElem?_eq_getElem (by omega)]; rfl
    rcases (by omega : j = 0 ∨ j = 1 ∨ j = 2 ∨ j = 3) with rfl | rfl | rfl | rfl
    all_goals
      rw [e _ (by omega)]
      rfl
  · rw [if_neg hj]
    symm
    apply List.getElem?_eq_none
    simp; omega
theorem copy4 (s : ByteArray) (k : Nat) (h : 4 * k + 4 ≤ s.size) (b : Nat) (ty : TypeId) (W : World)
    (h0 : (W.cell? ⟨b, 0, none⟩).isSome = true) (h1 : (W.cell? ⟨b, 1, none⟩).isSome = true) (h2 : (W.cell? ⟨b, 2, none⟩).isSome = true) (h3 : (W.cell? ⟨b, 3, none⟩).isSome = true)
    (f0 : W.frozen? ⟨b, 0, none⟩ = false) (f1 : W.frozen? ⟨b, 1, none⟩ = false) (f2 : W.frozen? ⟨b, 2, none⟩ = false) (f3 : W.frozen? ⟨b, 3, none⟩ = false) :
    (Builtin.copy_ #[56, 9] ty #[.slice (some ⟨b, 0, none⟩) 4 4, .string (s.extract (4 * k) s.size)]).run Try.prog W =
      .ok (goInt 4) ((((W.setCell ⟨b, 0, none⟩ (.int .u8 (bt s (4 * k)))).setCell ⟨b, 1, none⟩ (.int .u8 (bt s (4 * k + 1)))).setCell ⟨b, 2, none⟩ (.int .u8 (bt s (4 * k + 2)))).setCell ⟨b, 3, none⟩ (.int .u8 (bt s (4 * k + 3)))) := by
  have hu : Try.prog.underlying 56 = some (.slice 5) := Try.underlying56
  have hz : ∀ w, (Go.sizeOf 5).run Try.prog w = .ok 1 w := fun w => by kernel_rfl
  have hsz : (s.extract (4 * k) s.size).size = s.size - 4 * k := by simp
  have hmin : Nat.min (s.extract (4 * k) s.size).size 4 = 4 := by rw [hsz]; exact Nat.min_eq_right (by omega)
  have hst := run_storeCells_cells (P := Try.prog) b 0 [.int .u8 (bt s (4 * k)), .int .u8 (bt s (4 * k + 1)), .int .u8 (bt s (4 * k + 2)), .int .u8 (bt s (4 * k + 3))] 0 W (by
    intro j hj
    simp at hj
    rcases (by omega : j = 0 ∨ j = 1 ∨ j = 2 ∨ j = 3) with rfl | rfl | rfl | rfl <;> assumption) (by
    intro j hj
    simp at hj
    rcases (by omega : j = 0 ∨ j = 1 ∨ j = 2 ∨ j = 3) with rfl | rfl | rfl | rfl <;> assumption) (by
    intro v hv
    simp at hv
    rcases hv with rfl | rfl | rfl | rfl <;> rfl)
  rw [hsz] at hmin
  simp [Builtin.copy_, run_underlying hu, Builtin.lenOf, Builtin.firstCells, hz, hmin]
  rw [show min (4 * k + 4) s.size - 4 * k = 4 by omega, take4 s k h, hst]
  rfl
/-- The four bytes of a draw, joined. -/
theorem or_add (x y : Int) (i : Nat) (h0 : 0 ≤ x) (h1 : x < 2 ^ i) (h1' : x < 4294967296) (h2 : 0 ≤ y) (h3 : y * 2 ^ i < 4294967296) : bits .or .u32 x (y * 2 ^ i) = x + y * 2 ^ i := by
  obtain ⟨X, rfl⟩ := Int.eq_ofNat_of_zero_le h0
  obtain ⟨Y, rfl⟩ := Int.eq_ofNat_of_zero_le h2
  have e : ((Y : Int) * 2 ^ i) = ((Y * 2 ^ i : Nat) : Int) := by simp
  have g1 : X < 2 ^ i := by
    have : ((X : Nat) : Int) < ((2 ^ i : Nat) : Int) := by simpa using h1
    omega
  rw [e] at h3 ⊢
  have g3 : Y * 2 ^ i < 4294967296 := by omega
  rw [u32_or_nat X (Y * 2 ^ i) (by omega) (by omega), Nat.or_comm, nat_join i _ _ (Nat.mul_mod_left _ _) g1]
  omega

theorem join4 (a b c d : Int) (ha : 0 ≤ a ∧ a < 256) (hb : 0 ≤ b ∧ b < 256) (hc : 0 ≤ c ∧ c < 256) (hd : 0 ≤ d ∧ d < 256) :
    bits .or .u32 (bits .or .u32 (bits .or .u32 (bits .or .u32 0 (a % 4294967296)) (b % 4294967296 * 256 % 4294967296)) (c % 4294967296 * 65536 % 4294967296)) (d % 4294967296 * 16777216 % 4294967296) = a + 256 * b + 65536 * c + 16777216 * d := by
  have e1 : a % 4294967296 = a * 2 ^ 0 := by omega
  have e2 : b % 4294967296 * 256 % 4294967296 = b * 2 ^ 8 := by omega
  have e3 : c % 4294967296 * 65536 % 4294967296 = c * 2 ^ 16 := by omega
  have e4 : d % 4294967296 * 16777216 % 4294967296 = d * 2 ^ 24 := by omega
  rw [e1, e2, e3, e4, or_add 0 a 0 (by omega) (by omega) (by omega) (by omega) (by omega), or_add _ b 8 (by omega) (by omega) (by omega) (by omega) (by omega), or_add _ c 16 (by omega) (by omega) (by omega) (by omega) (by omega), or_add _ d 24 (by omega) (by omega) (by omega) (by omega) (by omega)]
  omega

set_option maxHeartbeats 1000000 in
theorem draw_in (s : ByteArray) (k : Nat) (h : 4 * k + 4 ≤ s.size) (hs : s.size ≤ 4611686018427387904) (w : World) :
    Calls Try.prog 15 #[tp s k] w fun r w' => r = .returned (.tuple #[.int .u32 (bt s (4 * k) + 256 * bt s (4 * k + 1) + 65536 * bt s (4 * k + 2) + 16777216 * bt s (4 * k + 3)), tp s ((k : Int) + 1)]) ∧ Below w.heap.size w w' := by
  unfold tp
  have hd : decide ((k : Int) < 0) = false := by simp
  have hd2 : ¬ ((s.size : Int) / 4 ≤ (k : Int)) := by omega
  have hd3 : decide ((s.size : Int) / 4 ≤ (k : Int)) = false := by simpa using hd2
  have hc := copy4 s k h
  have e1 : (4 * (k : Int)).toNat = 4 * k := by omega
  have g1 : 4 * (k : Int) ≤ s.size := by omega
  have g2 : 0 ≤ 4 * (k : Int) := by omega
  have HJ := Lib.hid (join4 _ _ _ _ (bt_in s (4 * k)) (bt_in s (4 * k + 1)) (bt_in s (4 * k + 2)) (bt_in s (4 * k + 3)))
  go_enter Try.func15, Try.ntmps15
  go_wp2_with fail
  go_region
  go_wp2_with fail
  refine wp_loop_rounds 5 ?_
  rw [rounds_succ]
  go_wp2_with fail
  rw [rounds_succ]
  go_wp2_with fail
  rw [rounds_succ]
  go_wp2_with fail
  rw [rounds_succ]
  go_wp2_with fail
  rw [rounds_succ]
  go_wp2_with fail
  go_region
  go_wp2_with fail
  refine bodyPost_ret (by simp [results, Try.results15, go_sem]; try rfl) rfl ?_
  exact ⟨by rw [HJ.out], by (repeat' (first | (with_reducible exact Below.refl _ _) | (with_reducible assumption) | (with_reducible refine Below.alloc ?_ ?_ _) | (with_reducible refine Below.drew ?_) | (with_reducible refine Below_drewN ?_ _) | (with_reducible refine Below.setCell ?_ ?_ _) | (refine Below.step (B' := ?_) (b := ?_) ?_ ?_ ?_; rotate_left 2; (with_reducible assumption)) | go_size))⟩
theorem ret_iv {k : IntKind} {a b : Int} {v : Value} (h : a = b) : Ending.returned (.tuple #[.int k a, v]) = .returned (.tuple #[.int k b, v]) := by rw [h]
theorem bt_get (s : ByteArray) (i : Nat) (h : i < s.size) : ((s[i]'h).toNat : Int) = bt s i := by
  have hz : s.data.toList.length = s.size := by rw [← Lib.size_eq]
  unfold bt
  rw [List.getD_eq_getElem?_getD, List.getElem?_eq_getElem (by omega)]
  rfl
theorem bt_cut (s : ByteArray) (a b j : Nat) (h : a + j < b) : bt (s.extract a b) j = bt s (a + j) := by
  unfold bt
  rw [Lib.extract_data, List.getD_eq_getElem?_getD, List.getD_eq_getElem?_getD, List.getElem?_take, if_pos (by omega), List.getElem?_drop]
theorem index_t (s : ByteArray) (i : Nat) (h : i < s.size) (K : IntKind) (W : World) : (Instr.index 9 (.string s) (.int K (i : Int))).run Try.prog W = .ok (.int .u8 (bt s i)) W := by
  rw [run_index_string (h := Try.underlying9), dif_pos ⟨by omega, by omega⟩]
  have e : ((i : Int)).toNat = i := by omega
  simp only [e, bt_get]
set_option maxHeartbeats 1000000 in
theorem rdraw_in (s : ByteArray) (k : Nat) (h : 4 * k + 4 ≤ s.size) (hs : s.size ≤ 4611686018427387904) (w : World) :
    Calls Try.prog 16 #[tp s k] w fun r w' => r = .returned (.tuple #[.int .u32 (bt s (4 * k) + 256 * bt s (4 * k + 1) + 65536 * bt s (4 * k + 2) + 16777216 * bt s (4 * k + 3)), tp s ((k : Int) + 1)]) ∧ Below w.heap.size w w' := by
  unfold tp
  have hd : decide ((k : Int) < 0) = false := by simp
  have hd2 : ¬ ((s.size : Int) / 4 ≤ (k : Int)) := by omega
  have hd3 : decide ((s.size : Int) / 4 ≤ (k : Int)) = false := by simpa using hd2
  have e1 : (4 * (k : Int)).toNat = 4 * k := by omega
  have e2 : (4 * (k : Int) + 4).toNat = 4 * k + 4 := by omega
  have g1 : 4 * (k : Int) ≤ s.size := by omega
  have g2 : 0 ≤ 4 * (k : Int) := by omega
  have g3 : 4 * (k : Int) + 4 ≤ s.size := by omega
  have hz : (s.extract (4 * k) (4 * k + 4)).size = 4 := by simp; omega
  have HB0 := Lib.hid (bt_in s (4 * k))
  have HB1 := Lib.hid (bt_in s (4 * k + 1))
  have HB2 := Lib.hid (bt_in s (4 * k + 2))
  have HB3 := Lib.hid (bt_in s (4 * k + 3))
  have hsl : ∀ W, (Instr.slice 9 (.string s) (some (.int .i64 (4 * (k : Int)))) (some (.int .i64 (4 * (k : Int) + 4))) none).run Try.prog W = .ok (.string (s.extract (4 * k) (4 * k + 4))) W := fun W => by
    rw [run_slice_string_if (h := Try.underlying9), if_pos ⟨by omega, by omega⟩, if_pos ⟨by omega, by omega⟩, e1, e2]
  have x0 : ∀ W, (Instr.index 9 (.string (s.extract (4 * k) (4 * k + 4))) (.int .i64 0)).run Try.prog W = .ok (.int .u8 (bt s (4 * k))) W := fun W => by have := index_t (s.extract (4 * k) (4 * k + 4)) 0 (by omega) .i64 W; rwa [bt_cut _ _ _ _ (by omega)] at this
  have x1 : ∀ W, (Instr.index 9 (.string (s.extract (4 * k) (4 * k + 4))) (.int .i64 1)).run Try.prog W = .ok (.int .u8 (bt s (4 * k + 1))) W := fun W => by have := index_t (s.extract (4 * k) (4 * k + 4)) 1 (by omega) .i64 W; rwa [bt_cut _ _ _ _ (by omega)] at this
  have x2 : ∀ W, (Instr.index 9 (.string (s.extract (4 * k) (4 * k + 4))) (.int .i64 2)).run Try.prog W = .ok (.int .u8 (bt s (4 * k + 2))) W := fun W => by have := index_t (s.extract (4 * k) (4 * k + 4)) 2 (by omega) .i64 W; rwa [bt_cut _ _ _ _ (by omega)] at this
  have x3 : ∀ W, (Instr.index 9 (.string (s.extract (4 * k) (4 * k + 4))) (.int .i64 3)).run Try.prog W = .ok (.int .u8 (bt s (4 * k + 3))) W := fun W => by have := index_t (s.extract (4 * k) (4 * k + 4)) 3 (by omega) .i64 W; rwa [bt_cut _ _ _ _ (by omega)] at this
  go_enter Try.func16, Try.ntmps16
  go_wp2_with fail
  go_quiet (fail)
  go_wp2_with fail
  go_region
  go_wp2_with fail
  obtain ⟨y0, y0'⟩ := HB0.out
  obtain ⟨y1, y1'⟩ := HB1.out
  obtain ⟨y2, y2'⟩ := HB2.out
  obtain ⟨y3, y3'⟩ := HB3.out
  refine bodyPost_ret (by simp [results, Try.results16, go_sem]; try rfl) rfl ?_
  exact ⟨ret_iv (by omega), by (repeat' (first | (with_reducible exact Below.refl _ _) | (with_reducible assumption) | (with_reducible refine Below.alloc ?_ ?_ _) | (with_reducible refine Below.drew ?_) | (with_reducible refine Below_drewN ?_ _) | (with_reducible refine Below.setCell ?_ ?_ _) | (refine Below.step (B' := ?_) (b := ?_) ?_ ?_ ?_; rotate_left 2; (with_reducible assumption)) | go_size))⟩

theorem draw_c (s : ByteArray) (i : Int) (hs : s.size ≤ 4611686018427387904) (h0 : -9223372036854775808 ≤ i) (h1 : i ≤ 9223372036854775807) (w : World) :
    Calls Try.prog 15 #[tp s i] w fun r w' => r = .returned (.tuple #[.int .u32 (drawN s i), tp s (nextN s i)]) ∧ Below w.heap.size w w' := by
  by_cases h : inside s i
  · obtain ⟨g0, g1⟩ := h
    obtain ⟨k, rfl⟩ := Int.eq_ofNat_of_zero_le g0
    have := draw_in s k (by unfold many at g1; omega) hs w
    unfold drawN nextN
    rw [if_pos ⟨g0, g1⟩, if_pos ⟨g0, g1⟩]
    exact this
  · have := draw_no s i h hs h0 h1 w
    unfold drawN nextN
    rw [if_neg h, if_neg h]
    exact this
theorem rdraw_c (s : ByteArray) (i : Int) (hs : s.size ≤ 4611686018427387904) (h0 : -9223372036854775808 ≤ i) (h1 : i ≤ 9223372036854775807) (w : World) :
    Calls Try.prog 16 #[tp s i] w fun r w' => r = .returned (.tuple #[.int .u32 (drawN s i), tp s (nextN s i)]) ∧ Below w.heap.size w w' := by
  by_cases h : inside s i
  · obtain ⟨g0, g1⟩ := h
    obtain ⟨k, rfl⟩ := Int.eq_ofNat_of_zero_le g0
    have := rdraw_in s k (by unfold many at g1; omega) hs w
    unfold drawN nextN
    rw [if_pos ⟨g0, g1⟩, if_pos ⟨g0, g1⟩]
    exact this
  · have := rdraw_no s i h hs h0 h1 w
    unfold drawN nextN
    rw [if_neg h, if_neg h]
    exact this
theorem drawN_in (s : ByteArray) (i : Int) : 0 ≤ drawN s i ∧ drawN s i < 4294967296 := by
  unfold drawN
  split
  · have := bt_in s (4 * i.toNat)
    have := bt_in s (4 * i.toNat + 1)
    have := bt_in s (4 * i.toNat + 2)
    have := bt_in s (4 * i.toNat + 3)
    omega
  · omega
theorem nextN_in (s : ByteArray) (i : Int) (hs : s.size ≤ 4611686018427387904) (h0 : -9223372036854775808 ≤ i) (h1 : i ≤ 9223372036854775807) : -9223372036854775808 ≤ nextN s i ∧ nextN s i ≤ 9223372036854775807 := by
  unfold nextN
  split
  · rename_i h
    obtain ⟨h2, h3⟩ := h
    unfold many at h3
    omega
  · omega

/-- The number that is picked, and the tape's place behind. -/
def pickOk (n : Int) : Prop := 1 ≤ n ∧ n ≤ 2147483647
instance (n : Int) : Decidable (pickOk n) := by unfold pickOk; infer_instance
def pickN (s : ByteArray) (i n : Int) : Int := if pickOk n then drawN s i * n / 4294967296 else 0
def pickA (s : ByteArray) (i n : Int) : Int := if pickOk n then nextN s i else i
theorem prod_lt (d n : Int) (h0 : 0 ≤ d) (h1 : d < 4294967296) (h2 : 1 ≤ n) (h3 : n ≤ 2147483647) : 0 ≤ d * n ∧ d * n ≤ 4294967295 * n := ⟨Int.mul_nonneg h0 (by omega), Int.mul_le_mul_of_nonneg_right (by omega) (by omega)⟩
set_option maxHeartbeats 1000000 in
theorem pick_c (s : ByteArray) (i n : Int) (hs : s.size ≤ 4611686018427387904) (h0 : -9223372036854775808 ≤ i) (h1 : i ≤ 9223372036854775807) (w : World) :
    Calls Try.prog 17 #[tp s i, .int .i64 n] w fun r w' => r = .returned (.tuple #[.int .i64 (pickN s i n), tp s (pickA s i n)]) ∧ Below w.heap.size w w' := by
  by_cases h : pickOk n
  · obtain ⟨g0, g1⟩ := h
    have q1 : pickN s i n = drawN s i * n / 4294967296 := by unfold pickN; rw [if_pos ⟨g0, g1⟩]
    have q2 : pickA s i n = nextN s i := by unfold pickA; rw [if_pos ⟨g0, g1⟩]
    rw [q1, q2]
    clear q1 q2
    obtain ⟨d0, d1⟩ := drawN_in s i
    obtain ⟨p0, p1⟩ := prod_lt _ n d0 d1 g0 g1
    have e1 : ¬ n < 1 := by omega
    have e2 : ¬ n > 2147483647 := by omega
    have e3 : decide (n < 1) = false := by simpa using e1
    have e4 : decide (2147483647 < n) = false := by simpa using e2
    have HD := draw_c s i hs h0 h1
    generalize drawN s i = d at *
    generalize nextN s i = j at *
    unfold tp at *
    go_enter Try.func17, Try.ntmps17
    go_wp2_with fail
    refine (HD _).mono ?_
    rintro e w1 ⟨rfl, hb1⟩
    obtain ⟨hc_w1, hf_w1, hz_w1⟩ := kept hb1; (try have hzw0_w1 : w.heap.size < w1.heap.size := (by have := hz_w1; first | omega | (simp at this; omega))); (try have hzw1_w1 : w.heap.size + 1 < w1.heap.size := (by have := hz_w1; first | omega | (simp at this; omega)))
    have hz1 := hb1.size
    simp only [World.size_alloc] at hz1
    have c0 : w1.cell? ⟨w.heap.size, 0, none⟩ = some (.string s) := by go_simp
    have c1 : w1.cell? ⟨w.heap.size, 1, none⟩ = some (.int .i64 i) := by go_simp
    have c2 : w1.cell? ⟨w.heap.size + 1, 0, none⟩ = some (.string ⟨#[]⟩) := by go_simp
    have c3 : w1.cell? ⟨w.heap.size + 1, 1, none⟩ = some (.int .i64 0) := by go_simp
    go_wp2_with fail
    go_region
    go_wp2_with fail
    refine bodyPost_ret (by simp [results, Try.results17, go_sem, c2, c3]; try rfl) rfl ?_
    exact ⟨rfl, by (repeat' (first | (with_reducible exact Below.refl _ _) | (with_reducible assumption) | (with_reducible refine Below.alloc ?_ ?_ _) | (with_reducible refine Below.drew ?_) | (with_reducible refine Below_drewN ?_ _) | (with_reducible refine Below.setCell ?_ ?_ _) | (refine Below.step (B' := ?_) (b := ?_) ?_ ?_ ?_; rotate_left 2; (with_reducible assumption)) | go_size))⟩
  · have q1 : pickN s i n = 0 := by unfold pickN; rw [if_neg h]
    have q2 : pickA s i n = i := by unfold pickA; rw [if_neg h]
    rw [q1, q2]
    clear q1 q2
    unfold tp
    rcases (by unfold pickOk at h; omega : n < 1 ∨ 1 ≤ n ∧ 2147483647 < n) with h | ⟨g, h⟩
    · go_enter Try.func17, Try.ntmps17
      go_wp2_with fail
      go_region
      all_goals
        go_wp2_with fail
        refine bodyPost_ret (by simp [results, Try.results17, go_sem]; try rfl) rfl ?_
        exact ⟨rfl, by (repeat' (first | (with_reducible exact Below.refl _ _) | (with_reducible assumption) | (with_reducible refine Below.alloc ?_ ?_ _) | (with_reducible refine Below.drew ?_) | (with_reducible refine Below_drewN ?_ _) | (with_reducible refine Below.setCell ?_ ?_ _) | (refine Below.step (B' := ?_) (b := ?_) ?_ ?_ ?_; rotate_left 2; (with_reducible assumption)) | go_size))⟩
    · have e3 : decide (n < 1) = false := by simp; omega
      go_enter Try.func17, Try.ntmps17
      go_wp2_with fail
      go_region
      all_goals
        go_wp2_with fail
        refine bodyPost_ret (by simp [results, Try.results17, go_sem]; try rfl) rfl ?_
        exact ⟨rfl, by (repeat' (first | (with_reducible exact Below.refl _ _) | (with_reducible assumption) | (with_reducible refine Below.alloc ?_ ?_ _) | (with_reducible refine Below.drew ?_) | (with_reducible refine Below_drewN ?_ _) | (with_reducible refine Below.setCell ?_ ?_ _) | (refine Below.step (B' := ?_) (b := ?_) ?_ ?_ ?_; rotate_left 2; (with_reducible assumption)) | go_size))⟩
set_option maxHeartbeats 1000000 in
theorem rpick_c (s : ByteArray) (i n : Int) (hs : s.size ≤ 4611686018427387904) (h0 : -9223372036854775808 ≤ i) (h1 : i ≤ 9223372036854775807) (w : World) :
    Calls Try.prog 18 #[tp s i, .int .i64 n] w fun r w' => r = .returned (.tuple #[.int .i64 (pickN s i n), tp s (pickA s i n)]) ∧ Below w.heap.size w w' := by
  by_cases h : pickOk n
  · obtain ⟨g0, g1⟩ := h
    have q1 : pickN s i n = drawN s i * n / 4294967296 := by unfold pickN; rw [if_pos ⟨g0, g1⟩]
    have q2 : pickA s i n = nextN s i := by unfold pickA; rw [if_pos ⟨g0, g1⟩]
    rw [q1, q2]
    clear q1 q2
    obtain ⟨d0, d1⟩ := drawN_in s i
    obtain ⟨p0, p1⟩ := prod_lt _ n d0 d1 g0 g1
    have e1 : ¬ n < 1 := by omega
    have e2 : ¬ n > 2147483647 := by omega
    have e3 : decide (n < 1) = false := by simpa using e1
    have e4 : decide (2147483647 < n) = false := by simpa using e2
    have HD := rdraw_c s i hs h0 h1
    generalize drawN s i = d at *
    generalize nextN s i = j at *
    unfold tp at *
    go_enter Try.func18, Try.ntmps18
    go_wp2_with fail
    refine (HD _).mono ?_
    rintro e w1 ⟨rfl, hb1⟩
    obtain ⟨hc_w1, hf_w1, hz_w1⟩ := kept hb1; (try have hzw0_w1 : w.heap.size < w1.heap.size := (by have := hz_w1; first | omega | (simp at this; omega))); (try have hzw1_w1 : w.heap.size + 1 < w1.heap.size := (by have := hz_w1; first | omega | (simp at this; omega)))
    have hz1 := hb1.size
    simp only [World.size_alloc] at hz1
    have c0 : w1.cell? ⟨w.heap.size, 0, none⟩ = some (.string s) := by go_simp
    have c1 : w1.cell? ⟨w.heap.size, 1, none⟩ = some (.int .i64 i) := by go_simp
    have c2 : w1.cell? ⟨w.heap.size + 1, 0, none⟩ = some (.string ⟨#[]⟩) := by go_simp
    have c3 : w1.cell? ⟨w.heap.size + 1, 1, none⟩ = some (.int .i64 0) := by go_simp
    go_wp2_with fail
    go_region
    go_wp2_with fail
    have hp : ∀ o, ((((w1.setCell ⟨w.heap.size + 1, 0, none⟩ (.string s)).setCell ⟨w.heap.size + 1, 1, none⟩ (.int .i64 j))).alloc (.cells #[.string s, .int .i64 j] 23)).cell? ⟨w.heap.size + 1, o, none⟩ = (((w1.setCell ⟨w.heap.size + 1, 0, none⟩ (.string s)).setCell ⟨w.heap.size + 1, 1, none⟩ (.int .i64 j))).cell? ⟨w.heap.size + 1, o, none⟩ := fun o => World.cell?_alloc_past _ _ _ (by simp; omega)
    refine bodyPost_ret (by simp [results, Try.results18, go_sem, hp, c2, c3]; try rfl) rfl ?_
    exact ⟨rfl, by (repeat' (first | (with_reducible exact Below.refl _ _) | (with_reducible assumption) | (with_reducible refine Below.alloc ?_ ?_ _) | (with_reducible refine Below.drew ?_) | (with_reducible refine Below_drewN ?_ _) | (with_reducible refine Below.setCell ?_ ?_ _) | (refine Below.step (B' := ?_) (b := ?_) ?_ ?_ ?_; rotate_left 2; (with_reducible assumption)) | go_size))⟩
  · have q1 : pickN s i n = 0 := by unfold pickN; rw [if_neg h]
    have q2 : pickA s i n = i := by unfold pickA; rw [if_neg h]
    rw [q1, q2]
    clear q1 q2
    unfold tp
    rcases (by unfold pickOk at h; omega : n < 1 ∨ 1 ≤ n ∧ 2147483647 < n) with h | ⟨g, h⟩
    · go_enter Try.func18, Try.ntmps18
      go_wp2_with fail
      go_region
      all_goals
        go_wp2_with fail
        refine bodyPost_ret (by simp [results, Try.results18, go_sem]; try rfl) rfl ?_
        exact ⟨rfl, by (repeat' (first | (with_reducible exact Below.refl _ _) | (with_reducible assumption) | (with_reducible refine Below.alloc ?_ ?_ _) | (with_reducible refine Below.drew ?_) | (with_reducible refine Below_drewN ?_ _) | (with_reducible refine Below.setCell ?_ ?_ _) | (refine Below.step (B' := ?_) (b := ?_) ?_ ?_ ?_; rotate_left 2; (with_reducible assumption)) | go_size))⟩
    · have e3 : decide (n < 1) = false := by simp; omega
      go_enter Try.func18, Try.ntmps18
      go_wp2_with fail
      go_region
      all_goals
        go_wp2_with fail
        refine bodyPost_ret (by simp [results, Try.results18, go_sem]; try rfl) rfl ?_
        exact ⟨rfl, by (repeat' (first | (with_reducible exact Below.refl _ _) | (with_reducible assumption) | (with_reducible refine Below.alloc ?_ ?_ _) | (with_reducible refine Below.drew ?_) | (with_reducible refine Below_drewN ?_ _) | (with_reducible refine Below.setCell ?_ ?_ _) | (refine Below.step (B' := ?_) (b := ?_) ?_ ?_ ?_; rotate_left 2; (with_reducible assumption)) | go_size))⟩
end Go.Proofs.Try
