/- Contracts of thing: a tag's text; tags compared. -/
import Derived.Test.YthijffdljoeelaaThing2
import Derived.Test.YthijffdljoeelaaOwn
import Derived.Laws.BytesString
import Derived.Laws.Cells
namespace Go.Proofs.Try
open Go.RowKit
set_option linter.unusedVariables false

theorem foldl_push : ∀ (l : List UInt8) (acc : ByteArray), (l.map fun x : UInt8 => (x.toNat : Int)).foldl (fun r n => r.push (UInt8.ofNat n.toNat)) acc = ⟨⟨acc.data.toList ++ l⟩⟩
  | [], acc => by simp
  | x :: l, acc => by
    rw [List.map_cons, List.foldl_cons, foldl_push l]
    have e : (acc.push (UInt8.ofNat ((x.toNat : Int)).toNat)).data.toList = acc.data.toList ++ [x] := by
      simp [ByteArray.push]
    rw [e]; simp
theorem conv_bytes (s : ByteArray) (b cap : Nat) (W : World) (h : ∀ j, j < s.size → W.cell? ⟨b, j, none⟩ = some (.int .u8 (bt s j))) :
    (convert 56 9 (.slice (some ⟨b, 0, none⟩) s.size cap)).run Try.prog W = .ok (.string s) W := by
  rw [run_convert_bytes_string W 56 9 5 _ _ _ Try.underlying56 (by kernel_rfl) Try.underlying9]
  have hz : s.data.toList.length = s.size := by rw [← Lib.size_eq]
  have hl : (loadCells ⟨b, 0, none⟩ s.size).run Try.prog W = .ok ((s.data.toList.map fun x : UInt8 => (x.toNat : Int)).map (Value.int .u8)).toArray W := by
    have := run_loadCells_list (P := Try.prog) (w := W) ⟨b, 0, none⟩ ((s.data.toList.map fun x : UInt8 => (x.toNat : Int)).map (Value.int .u8)) (fun j v hv => by
      have hj : j < s.size := by have := (List.getElem?_eq_some_iff.1 hv).1; simp only [List.length_map] at this; omega
      rw [add_plain, Nat.zero_add, h j hj, ← hv, List.getElem?_map, List.getElem?_map, List.getElem?_eq_getElem (by omega)]
      unfold bt
      rw [List.getD_eq_getElem?_getD, List.getElem?_eq_getElem (by omega)]; rfl)
    rw [List.length_map, List.length_map, hz] at this
    exact this
  rw [run_bytesToString W ⟨b, 0, none⟩ s.size cap _ hl, foldl_push]
  simp
theorem forIn_all (f g : Nat → Int) (W : World) (body : Nat → Option Bool × Unit → Sem (ForInStep (Option Bool × Unit))) : ∀ (js : List Nat), (∀ j ∈ js, (body j (none, ())).run Try.prog W = .ok (if (f j == g j) = true then .yield (none, ()) else .done (some false, ())) W) →
    (forIn js (none, ()) body).run Try.prog W = .ok (if (js.all fun j => f j == g j) = true then (none, ()) else (some false, ())) W
  | [], _ => by simp [Sem.run_pure]
  | j :: js, h => by
    have h0 := h j (by simp)
    have ih := forIn_all f g W body js (fun k hk => h k (by simp [hk]))
    rw [List.forIn_cons, Sem.run_bind, h0, Result.andThen_ok, List.all_cons]
    cases e : (f j == g j)
    · rfl
    · rw [if_pos rfl, Bool.true_and]
      exact ih
theorem eqT_in (d : Nat) (f g : Nat → Int) (W : World) : (Op.equalIn (d + 1 + 1) 64 (mkT f) (mkT g)).run Try.prog W = .ok (f 0 == g 0 && (f 1 == g 1 && (f 2 == g 2 && (f 3 == g 3 && (f 4 == g 4 && (f 5 == g 5 && (f 6 == g 6 && (f 7 == g 7 && f 8 == g 8)))))))) W := by
  have hu := Try.underlying64
  have h5 := Try.underlying5
  have hs : ∀ w, (Go.sizeOf 5).run Try.prog w = .ok 1 w := fun w => by kernel_rfl
  have he : ∀ (x y : Int) (w : World), (Op.equalIn (d + 1) 5 (.int .u8 x) (.int .u8 y)).run Try.prog w = .ok (x == y) w := fun x y w => by
    simp [Op.equalIn, run_underlying h5]
  rw [Op.equalIn]
  unfold mkT
  have p0 : ∀ (h : Nat → Int) (w : World), (part 5 #[.int .u8 (h 0), .int .u8 (h 1), .int .u8 (h 2), .int .u8 (h 3), .int .u8 (h 4), .int .u8 (h 5), .int .u8 (h 6), .int .u8 (h 7), .int .u8 (h 8)] 0).run Try.prog w = .ok (.int .u8 (h 0)) w := fun h w => by kernel_rfl
  have p1 : ∀ (h : Nat → Int) (w : World), (part 5 #[.int .u8 (h 0), .int .u8 (h 1), .int .u8 (h 2), .int .u8 (h 3), .int .u8 (h 4), .int .u8 (h 5), .int .u8 (h 6), .int .u8 (h 7), .int .u8 (h 8)] 1).run Try.prog w = .ok (.int .u8 (h 1)) w := fun h w => by kernel_rfl
  have p2 : ∀ (h : Nat → Int) (w : World), (part 5 #[.int .u8 (h 0), .int .u8 (h 1), .int .u8 (h 2), .int .u8 (h 3), .int .u8 (h 4), .int .u8 (h 5), .int .u8 (h 6), .int .u8 (h 7), .int .u8 (h 8)] 2).run Try.prog w = .ok (.int .u8 (h 2)) w := fun h w => by kernel_rfl
  have p3 : ∀ (h : Nat → Int) (w : World), (part 5 #[.int .u8 (h 0), .int .u8 (h 1), .int .u8 (h 2), .int .u8 (h 3), .int .u8 (h 4), .int .u8 (h 5), .int .u8 (h 6), .int .u8 (h 7), .int .u8 (h 8)] 3).run Try.prog w = .ok (.int .u8 (h 3)) w := fun h w => by kernel_rfl
  have p4 : ∀ (h : Nat → Int) (w : World), (part 5 #[.int .u8 (h 0), .int .u8 (h 1), .int .u8 (h 2), .int .u8 (h 3), .int .u8 (h 4), .int .u8 (h 5), .int .u8 (h 6), .int .u8 (h 7), .int .u8 (h 8)] 4).run Try.prog w = .ok (.int .u8 (h 4)) w := fun h w => by kernel_rfl
  have p5 : ∀ (h : Nat → Int) (w : World), (part 5 #[.int .u8 (h 0), .int .u8 (h 1), .int .u8 (h 2), .int .u8 (h 3), .int .u8 (h 4), .int .u8 (h 5), .int .u8 (h 6), .int .u8 (h 7), .int .u8 (h 8)] 5).run Try.prog w = .ok (.int .u8 (h 5)) w := fun h w => by kernel_rfl
  have p6 : ∀ (h : Nat → Int) (w : World), (part 5 #[.int .u8 (h 0), .int .u8 (h 1), .int .u8 (h 2), .int .u8 (h 3), .int .u8 (h 4), .int .u8 (h 5), .int .u8 (h 6), .int .u8 (h 7), .int .u8 (h 8)] 6).run Try.prog w = .ok (.int .u8 (h 6)) w := fun h w => by kernel_rfl
  have p7 : ∀ (h : Nat → Int) (w : World), (part 5 #[.int .u8 (h 0), .int .u8 (h 1), .int .u8 (h 2), .int .u8 (h 3), .int .u8 (h 4), .int .u8 (h 5), .int .u8 (h 6), .int .u8 (h 7), .int .u8 (h 8)] 7).run Try.prog w = .ok (.int .u8 (h 7)) w := fun h w => by kernel_rfl
  have p8 : ∀ (h : Nat → Int) (w : World), (part 5 #[.int .u8 (h 0), .int .u8 (h 1), .int .u8 (h 2), .int .u8 (h 3), .int .u8 (h 4), .int .u8 (h 5), .int .u8 (h 6), .int .u8 (h 7), .int .u8 (h 8)] 8).run Try.prog w = .ok (.int .u8 (h 8)) w := fun h w => by kernel_rfl
  simp only [Sem.run_bind, run_underlying hu, Result.andThen_ok, hs]
  rw [Std.Legacy.Range.forIn_eq_forIn_range', show List.range' ([:9] : Std.Legacy.Range).start ([:9] : Std.Legacy.Range).size ([:9] : Std.Legacy.Range).step = [0, 1, 2, 3, 4, 5, 6, 7, 8] from rfl]
  rw [forIn_all f g W _ _ ?_, Result.andThen_ok]
  · have e : ([0, 1, 2, 3, 4, 5, 6, 7, 8].all fun j => f j == g j) = (f 0 == g 0 && (f 1 == g 1 && (f 2 == g 2 && (f 3 == g 3 && (f 4 == g 4 && (f 5 == g 5 && (f 6 == g 6 && (f 7 == g 7 && f 8 == g 8)))))))) := by
      simp only [List.all_cons, List.all_nil, Bool.and_true]
    rw [← e]
    cases ([0, 1, 2, 3, 4, 5, 6, 7, 8].all fun j => f j == g j) <;> rfl
  · intro j hj
    have hc : j = 0 ∨ j = 1 ∨ j = 2 ∨ j = 3 ∨ j = 4 ∨ j = 5 ∨ j = 6 ∨ j = 7 ∨ j = 8 := by simpa using hj
    rcases hc with rfl | rfl | rfl | rfl | rfl | rfl | rfl | rfl | rfl
    all_goals
      simp only [Nat.mul_one, Sem.run_bind, p0, p1, p2, p3, p4, p5, p6, p7, p8, Result.andThen_ok, he]
    · cases f 0 == g 0 <;> rfl
    · cases f 1 == g 1 <;> rfl
    · cases f 2 == g 2 <;> rfl
    · cases f 3 == g 3 <;> rfl
    · cases f 4 == g 4 <;> rfl
    · cases f 5 == g 5 <;> rfl
    · cases f 6 == g 6 <;> rfl
    · cases f 7 == g 7 <;> rfl
    · cases f 8 == g 8 <;> rfl
theorem eqT (f g : Nat → Int) (W : World) : (binOp .eql 64 (mkT f) (mkT g)).run Try.prog W = .ok (.bool (f 0 == g 0 && (f 1 == g 1 && (f 2 == g 2 && (f 3 == g 3 && (f 4 == g 4 && (f 5 == g 5 && (f 6 == g 6 && (f 7 == g 7 && f 8 == g 8))))))))) W := by
  have h := eqT_in 9998 f g W
  have e : binOp .eql 64 (mkT f) (mkT g) = (do let b ← Op.equalIn (9998 + 1 + 1) 64 (mkT f) (mkT g); pure (.bool b)) := by
    simp [mkT, binOp, Op.equal, Op.maxDepth]
  rw [e, Sem.run_bind, h]
  rfl
theorem text_c (s : ByteArray) (h1 : 1 ≤ s.size) (h2 : s.size ≤ 8) (w : World) :
    Calls Try.prog 39 #[mkT (tf s)] w fun r w' => r = .returned (.string s) ∧ Below w.heap.size w w' := by
  have hcv := conv_bytes s w.heap.size 9 (w.alloc (.cells #[.int .u8 (tf s 0), .int .u8 (tf s 1), .int .u8 (tf s 2), .int .u8 (tf s 3), .int .u8 (tf s 4), .int .u8 (tf s 5), .int .u8 (tf s 6), .int .u8 (tf s 7), .int .u8 (s.size : Int)] 64)) (fun j hj => by
    rcases (by omega : j = 0 ∨ j = 1 ∨ j = 2 ∨ j = 3 ∨ j = 4 ∨ j = 5 ∨ j = 6 ∨ j = 7) with rfl | rfl | rfl | rfl | rfl | rfl | rfl | rfl <;> first | (go_simp; done) | (go_simp; simp [tf]; done) | (simp [tf]; done))
  have e8 : tf s 8 = (s.size : Int) := rfl
  have h9 : Try.prog.arrayLen 64 = 9 := by kernel_rfl
  have hk : ∀ W, (sizeOf (Try.prog.elem 64)).run Try.prog W = .ok 1 W := fun W => by kernel_rfl
  have hsl : ∀ W, (Instr.sliceAt 64 (.pointer (some ⟨w.heap.size, 0, none⟩)) none (some (.int .u8 (s.size : Int))) none).run Try.prog W = .ok (.slice (some ⟨w.heap.size, 0, none⟩) s.size 9) W := fun W => by
    have := run_sliceAt_array_h (P := Try.prog) (w := W) 64 ⟨w.heap.size, 0, none⟩ Try.underlying64 .u8 (s.size : Int) (by omega) (by rw [h9]; omega)
    rw [hk, h9] at this
    simpa [Result.andThen, slicedAt, Addr.add] using this
  unfold mkT
  go_enter Try.func39, Try.ntmps39
  go_wp2_with fail
  go_ret
  exact ⟨rfl, by (repeat' (first | (with_reducible exact Below.refl _ _) | (with_reducible assumption) | (with_reducible refine Below.alloc ?_ ?_ _) | (with_reducible refine Below.drew ?_) | (with_reducible refine Below_drewN ?_ _) | (with_reducible refine Below.setCell ?_ ?_ _) | (refine Below.step (B' := ?_) (b := ?_) ?_ ?_ ?_; rotate_left 2; (with_reducible assumption)) | go_size))⟩
end Go.Proofs.Try
