/- The walk of SumMixed. -/
import Derived.Test.YtfdjgdogcknoiaaDoorL6a
import Derived.Deep.RegionHeldLaw
import Derived.Deep.AppendLies
import Derived.Deep.RegionHeld3
import Derived.Lib.UnsafeStr
namespace Go.Proofs.Tryd
open Go.RowKit Go.Deep
set_option linter.unusedVariables false
set_option linter.unusedSimpArgs false

theorem u8_info6d : (Tryd.prog.info? 5).map (fun i => (i.zero, i.size, i.bytes)) = some (some (.int .u8 0), 1, 1) := by kernel_rfl
theorem of1g (x : List UInt8) (hx : x.length ≤ 100000) (g : Nat) (w : World) (hT : Steps w) (hg : g < w.heap.size) (hc : w.cell? ⟨g, 0, none⟩ = some (.string (S x))) :
    Calls Tryd.prog 12 #[.slice (some ⟨g, 0, none⟩) 1 1] w fun r w' => r = .returned (.int .u32 ((crc 0#32 x).toNat : Int)) ∧ w = w' := by
  have := of_c (some ⟨g, 0, none⟩) 1 1 [x] w hT ⟨rfl, .inr ⟨g, 0, rfl, hg, fun j hj => by
    have : j = 0 := by simpa using hj
    subst this
    exact hc⟩⟩ (by omega) (by intro p hp; simp at hp; subst hp; omega)
  rwa [show [x].flatten = x by simp] at this
theorem mixL_len (a b : List UInt8) (j : Nat) (ha : j ≤ a.length) (hb : j ≤ b.length) : (mixL (a.take j) (b.take j)).length = j := by
  unfold mixL; simp; omega
theorem mixL_snoc (a b : List UInt8) (j : Nat) (ha : j < a.length) (hb : j < b.length) : mixL (a.take (j + 1)) (b.take (j + 1)) = mixL (a.take j) (b.take j) ++ [a.getD j 0 ^^^ b.getD j 0] := by
  rw [take_more a j 0 ha, take_more b j 0 hb]
  unfold mixL
  rw [List.zipWith_append (by simp; omega)]
  rfl
theorem crc_mixn (a b : List UInt8) (n : Nat) (ha : n ≤ a.length) (hb : n ≤ b.length) : crc 0#32 (mixL (a.take n) (b.take n)) = crc 0#32 (a.take n) ^^^ crc 0#32 (b.take n) := by
  have := crc_mix (a.take n) (b.take n) 0#32 0#32 (by simp; omega)
  rwa [BitVec.xor_self] at this
theorem conv_own6 {base n : Nat} {v : Value} {L : List UInt8} {W : World} (h : W.ownsRow base 5 1 v n (Lib.byteCells L)) : (convert 34 9 v).run Tryd.prog W = .ok (.string (S L)) W ∨ L = [] := by
  have hn : L.length = n := by have := h.1; rw [Lib.byteCells_length] at this; omega
  rcases h.2 with ⟨rfl, h0⟩ | ⟨g, cap, cur, rfl, hr⟩
  · right
    exact List.eq_nil_of_length_eq_zero (by omega)
  · left
    have hc := h.cells (g := g) rfl
    have := conv_str (S L) g cap W (fun j hj => by
      rw [S_size] at hj
      have e := hc j (.int .u8 (byteAt (S L) j)) (by
        unfold Lib.byteCells byteAt
        rw [S_list, List.getElem?_map, List.getElem?_eq_getElem hj, List.getD_eq_getElem?_getD, List.getElem?_eq_getElem hj]
        rfl)
      rw [add_plain, Nat.zero_add] at e
      exact e)
    rw [S_size, hn] at this
    exact this
theorem conv_nil6 (W : World) : (convert 34 9 (.slice none 0 0)).run Tryd.prog W = .ok (.string (S [])) W := by
  first
  | rfl
  | (simp [convert, go_sem]; done)
  | (go_simp; done)
  | (trace_state; sorry)
theorem conv_ownB {base n : Nat} {v : Value} {L : List UInt8} {W : World} (h : W.ownsRow base 5 1 v n (Lib.byteCells L)) (hz : base ≤ W.heap.size) (W' : World) (hb : Below W.heap.size W W') : (convert 34 9 v).run Tryd.prog W' = .ok (.string (S L)) W' := by
  have hn : L.length = n := by have := h.1; rw [Lib.byteCells_length] at this; omega
  rcases h.2 with ⟨rfl, h0⟩ | ⟨g, cap, cur, rfl, hr⟩
  · have : L = [] := List.eq_nil_of_length_eq_zero (by omega)
    subst this
    subst h0
    exact conv_nil6 W'
  · have hc := h.cells (g := g) rfl
    have hg := (h.lt g rfl).2
    have := conv_str (S L) g cap W' (fun j hj => by
      rw [S_size] at hj
      have e := hc j (.int .u8 (byteAt (S L) j)) (by
        unfold Lib.byteCells byteAt
        rw [S_list, List.getElem?_map, List.getElem?_eq_getElem hj, List.getD_eq_getElem?_getD, List.getElem?_eq_getElem hj]
        rfl)
      rw [add_plain, Nat.zero_add] at e
      exact (hb.cell (p := ⟨g, j, none⟩) hg).trans e)
    rw [S_size, hn] at this
    exact this
set_option maxRecDepth 100000 in
set_option maxHeartbeats 4000000 in
theorem mixed_a (a b : List UInt8) (hcmp : ¬ b.length < a.length) (w0' : a.length ≤ 9223372036854775807) (w1' : b.length ≤ 9223372036854775807) (w : World) (hT : Steps w) :
    Calls Tryd.prog 7 #[.string (S a), .string (S b)] w fun e w' => e = .returned (.bool true) ∧ Below w.heap.size w w' := by
  have hsa := S_size a
  have hsb := S_size b
  obtain ⟨i0, hy, hy0, hy1, hy2⟩ := info_parts u8_info6d
  have HT := Lib.hid hT
  clear hT
  have hna : a.length ≤ a.length := by omega
  have hnb : a.length ≤ b.length := by omega
  by_cases c0 : a.length ≤ 300
  · have d0 : decide (300 < (a.length : Int)) = false := by simp; omega
    go_enter Tryd.func7, Tryd.ntmps7
    go_wp2_with fail
    with_reducible refine (awake6 _ HT.out).mono ?_
    rintro e w1 ⟨rfl, hb1⟩
    have HB1 := Lib.hid hb1
    clear hb1
    go_wp2_with fail
    go_loopw [7, 8] (fun v i wr => ∃ j : Nat, j ≤ a.length ∧ i = .int .i64 j ∧ wr.ownsRow w.heap.size 5 1 v j (Lib.byteCells (mixL (a.take j) (b.take j))) ∧ Below w.heap.size w wr) (fun _ i _ => a.length - (intOf i).toNat)
    case atStart => exact ⟨0, by omega, rfl, World.ownsRow_nil _ _ _ _, HB1.out⟩
    case round =>
      obtain ⟨j, hj, rfl, hown, hbw⟩ := hrel
      have hzz := hbw.size
      have HO := Lib.hid hown
      have HB := Lib.hid hbw
      clear hown hbw
      by_cases hlt : j < a.length
      · have hlt' : (j : Int) < (a.length : Int) := by omega
        have hja : (j : Int) < (a.length : Int) := by omega
        have hjb : (j : Int) < (b.length : Int) := by omega
        have hxa := index_s a j (by omega) .i64
        have hxb := index_s b j (by omega) .i64
        have hsn := mixL_snoc a b j (by omega) (by omega)
        obtain ⟨x, hx⟩ : ∃ x, a.getD j 0 = x := ⟨_, rfl⟩
        obtain ⟨y, hy'⟩ : ∃ y, b.getD j 0 = y := ⟨_, rfl⟩
        rw [hx] at hxa hsn
        rw [hy'] at hxb hsn
        have hxor := bits_xor_u8_nat x.toNat y.toNat (UInt8.toNat_lt x) (UInt8.toNat_lt y)
        rw [← UInt8.toNat_xor] at hxor
        have HSN := Lib.hid (show Lib.byteCells (mixL (a.take j) (b.take j)) ++ [.int .u8 ((x ^^^ y).toNat : Int)] = Lib.byteCells (mixL (a.take (j + 1)) (b.take (j + 1))) by rw [hsn, Lib.byteCells_append]; rfl)
        clear hx hy' hsn
        generalize (x ^^^ y).toNat = Z at *
        have hb_size := HB.out.size
        have hown_ge : ∀ k, u7.ownBlock = some k → w.heap.size ≤ k := fun k hk => (HO.out.lt k hk).1
        go_wp2_with fail
        go_region_held_law (fun w' => True) (trivial)
          ((refine step_append_lies _ (by rfl) _ _ _ (by rfl) w.heap.size 5 i0 _ 1 1 Tryd.underlying34 hy hy0 hy1 hy2 rfl (by omega) u7 j (Lib.byteCells (mixL (a.take j) (b.take j))) (by rfl) ((HO.out.alloc _).drew)
              ⟨wr.heap.size, 0, none⟩ 1 1 [.int .u8 (Z : Int)] (by rfl) (by rfl) (World.news_of_block (cs := #[.int .u8 (Z : Int)]) (t := 5) (fr := (0, 0)) (heap_alloc_new wr _)) (by simp [Value.oneCell'])
              (by omega) (by unfold maxLen; omega) (by omega) (by simp; omega) (wr.heap.size + 1) (by simp) ?_; intro gg cap w5 hown5 hgrow hat hltg))
        all_goals
         have HO := Lib.hid (show w5.ownsRow w.heap.size 5 1 (.slice (some ⟨gg, 0, none⟩) (j + 1) cap) (j + 1) (Lib.byteCells (mixL (a.take (j + 1)) (b.take (j + 1)))) from HSN.out ▸ hown5)
         have HB := Lib.hid (((HB.out.alloc hzz (.cells #[.int .u8 (Z : Int)] 5)).drew).grown hgrow (by have := hb_size; simp; omega) (fun k hk => hown_ge k hk))
         clear hown5 hgrow hat
         go_wp2_with fail
         go_roundw
         case rel => exact ⟨j + 1, by omega, by go_num, HO.out, HB.out⟩
         case measure => simp [intOf]; omega
      · have hke : j = a.length := by omega
        subst hke
        have HCV := conv_ownB HO.out hzz
        have hml := mixL_len a b a.length (by omega) (by omega)
        have hcr := crc_mixn a b a.length (by omega) (by omega)
        obtain ⟨A1, hA1⟩ : ∃ A1, a.take a.length = A1 := ⟨_, rfl⟩
        obtain ⟨B1, hB1⟩ : ∃ B1, b.take a.length = B1 := ⟨_, rfl⟩
        have hla : A1.length ≤ 300 := by rw [← hA1, List.length_take]; omega
        have hlb : B1.length ≤ 300 := by rw [← hB1, List.length_take]; omega
        have hta := S_take a a.length
        have htb := S_take b a.length
        rw [hA1] at hta
        rw [hB1] at htb
        rw [hA1, hB1] at HCV hml hcr
        rw [hA1, hB1] at HO
        obtain ⟨M, hM⟩ : ∃ M, mixL A1 B1 = M := ⟨_, rfl⟩
        rw [hM] at HCV hml hcr
        rw [hM] at HO
        have hlm : M.length ≤ 300 := by omega
        have hxr := bits_xor_u32_nat (crc 0#32 A1).toNat (crc 0#32 B1).toNat (crc 0#32 A1).isLt (crc 0#32 B1).isLt
        rw [← BitVec.toNat_xor, ← hcr] at hxr
        have HH : Hid (∀ W, Below wr.heap.size wr W → ((convert 34 9 u7).run Tryd.prog W = .ok (.string (S M)) W ∧ Below wr.heap.size wr W)) := Lib.hid fun W h => ⟨HCV W h, h⟩
        have HA : Hid (∀ (W : World) (o : Obj), ((convert 34 9 u7).run Tryd.prog W = .ok (.string (S M)) W ∧ Below wr.heap.size wr W) → ((convert 34 9 u7).run Tryd.prog (W.alloc o) = .ok (.string (S M)) (W.alloc o) ∧ Below wr.heap.size wr (W.alloc o))) := Lib.hid fun W o h => HH.out _ (h.2.alloc h.2.size _)
        have HD : Hid (∀ (W : World), ((convert 34 9 u7).run Tryd.prog W = .ok (.string (S M)) W ∧ Below wr.heap.size wr W) → ((convert 34 9 u7).run Tryd.prog W.drew = .ok (.string (S M)) W.drew ∧ Below wr.heap.size wr W.drew)) := Lib.hid fun W h => HH.out _ h.2.drew
        have HT2 := HT.out.below HB.out
        have OA : ∀ g W, ((convert 34 9 u7).run Tryd.prog W = .ok (.string (S M)) W ∧ Below wr.heap.size wr W) → g < W.heap.size → W.cell? ⟨g, 0, none⟩ = some (.string (S A1)) → Calls Tryd.prog 12 #[.slice (some ⟨g, 0, none⟩) 1 1] W fun r w' => r = .returned (.int .u32 ((crc 0#32 A1).toNat : Int)) ∧ W = w' := fun g W hS hg hc => of1g A1 (by omega) g W (HT2.below hS.2) hg hc
        have OB : ∀ g W, ((convert 34 9 u7).run Tryd.prog W = .ok (.string (S M)) W ∧ Below wr.heap.size wr W) → g < W.heap.size → W.cell? ⟨g, 0, none⟩ = some (.string (S B1)) → Calls Tryd.prog 12 #[.slice (some ⟨g, 0, none⟩) 1 1] W fun r w' => r = .returned (.int .u32 ((crc 0#32 B1).toNat : Int)) ∧ W = w' := fun g W hS hg hc => of1g B1 (by omega) g W (HT2.below hS.2) hg hc
        have OM : ∀ g W, ((convert 34 9 u7).run Tryd.prog W = .ok (.string (S M)) W ∧ Below wr.heap.size wr W) → g < W.heap.size → W.cell? ⟨g, 0, none⟩ = some (.string (S M)) → Calls Tryd.prog 12 #[.slice (some ⟨g, 0, none⟩) 1 1] W fun r w' => r = .returned (.int .u32 ((crc 0#32 M).toNat : Int)) ∧ W = w' := fun g W hS hg hc => of1g M (by omega) g W (HT2.below hS.2) hg hc
        have hS0 := HH.out wr (Below.refl _ _)
        have hbw := HB.out
        clear HCV HH hml hcr hM hA1 hB1
        generalize (crc 0#32 M).toNat = KM at *
        generalize (crc 0#32 A1).toNat = KA at *
        generalize (crc 0#32 B1).toNat = KB at *
        have OA := Lib.hid OA
        have OB := Lib.hid OB
        have OM := Lib.hid OM
        clear HO
        go_wp2_with fail
        go_region_held3 (fun W => ((convert 34 9 u7).run Tryd.prog W = .ok (.string (S M)) W ∧ Below wr.heap.size wr W)) (((try dsimp only); (repeat (first | (with_reducible assumption) | (with_reducible refine HD.out _ ?_) | (with_reducible refine HA.out _ _ ?_)))))
          (first
            | (go_at_call 12; with_reducible refine (OM.out _ _ ?_ ?_ ?_).mono ?_; (focus (with_reducible assumption)); (focus (simp; try omega)); (focus (go_simp; done)); rintro e w7 ⟨rfl, rfl⟩)
            | (go_at_call 12; with_reducible refine (OA.out _ _ ?_ ?_ ?_).mono ?_; (focus (with_reducible assumption)); (focus (simp; try omega)); (focus (go_simp; done)); rintro e w7 ⟨rfl, rfl⟩)
            | (go_at_call 12; with_reducible refine (OB.out _ _ ?_ ?_ ?_).mono ?_; (focus (with_reducible assumption)); (focus (simp; try omega)); (focus (go_simp; done)); rintro e w7 ⟨rfl, rfl⟩))
        all_goals
          go_wp2_with fail
          go_ret
          exact ⟨by first | rfl | (simp; done), by (repeat' (first | (with_reducible exact Below.refl _ _) | (with_reducible assumption) | (with_reducible refine Below.alloc ?_ ?_ _) | (with_reducible refine Below.drew ?_) | (with_reducible refine Below_drewN ?_ _) | (with_reducible refine Below.setCell ?_ ?_ _) | (refine Below.step (B' := ?_) (b := ?_) ?_ ?_ ?_; rotate_left 2; (with_reducible assumption)) | go_size))⟩
  · have d0 : 300 < (a.length : Int) := by omega
    go_enter Tryd.func7, Tryd.ntmps7
    go_wp2_with fail
    with_reducible refine (awake6 _ HT.out).mono ?_
    rintro e w1 ⟨rfl, hb1⟩
    go_wp2_with fail
    go_ret
    exact ⟨rfl, hb1⟩
set_option maxRecDepth 100000 in
set_option maxHeartbeats 4000000 in
theorem mixed_b (a b : List UInt8) (hcmp : b.length < a.length) (w0' : a.length ≤ 9223372036854775807) (w1' : b.length ≤ 9223372036854775807) (w : World) (hT : Steps w) :
    Calls Tryd.prog 7 #[.string (S a), .string (S b)] w fun e w' => e = .returned (.bool true) ∧ Below w.heap.size w w' := by
  have hsa := S_size a
  have hsb := S_size b
  obtain ⟨i0, hy, hy0, hy1, hy2⟩ := info_parts u8_info6d
  have HT := Lib.hid hT
  clear hT
  have hna : b.length ≤ a.length := by omega
  have hnb : b.length ≤ b.length := by omega
  by_cases c0 : b.length ≤ 300
  · have d0 : decide (300 < (b.length : Int)) = false := by simp; omega
    go_enter Tryd.func7, Tryd.ntmps7
    go_wp2_with fail
    with_reducible refine (awake6 _ HT.out).mono ?_
    rintro e w1 ⟨rfl, hb1⟩
    have HB1 := Lib.hid hb1
    clear hb1
    go_wp2_with fail
    go_loopw [7, 8] (fun v i wr => ∃ j : Nat, j ≤ b.length ∧ i = .int .i64 j ∧ wr.ownsRow w.heap.size 5 1 v j (Lib.byteCells (mixL (a.take j) (b.take j))) ∧ Below w.heap.size w wr) (fun _ i _ => b.length - (intOf i).toNat)
    case atStart => exact ⟨0, by omega, rfl, World.ownsRow_nil _ _ _ _, HB1.out⟩
    case round =>
      obtain ⟨j, hj, rfl, hown, hbw⟩ := hrel
      have hzz := hbw.size
      have HO := Lib.hid hown
      have HB := Lib.hid hbw
      clear hown hbw
      by_cases hlt : j < b.length
      · have hlt' : (j : Int) < (b.length : Int) := by omega
        have hja : (j : Int) < (a.length : Int) := by omega
        have hjb : (j : Int) < (b.length : Int) := by omega
        have hxa := index_s a j (by omega) .i64
        have hxb := index_s b j (by omega) .i64
        have hsn := mixL_snoc a b j (by omega) (by omega)
        obtain ⟨x, hx⟩ : ∃ x, a.getD j 0 = x := ⟨_, rfl⟩
        obtain ⟨y, hy'⟩ : ∃ y, b.getD j 0 = y := ⟨_, rfl⟩
        rw [hx] at hxa hsn
        rw [hy'] at hxb hsn
        have hxor := bits_xor_u8_nat x.toNat y.toNat (UInt8.toNat_lt x) (UInt8.toNat_lt y)
        rw [← UInt8.toNat_xor] at hxor
        have HSN := Lib.hid (show Lib.byteCells (mixL (a.take j) (b.take j)) ++ [.int .u8 ((x ^^^ y).toNat : Int)] = Lib.byteCells (mixL (a.take (j + 1)) (b.take (j + 1))) by rw [hsn, Lib.byteCells_append]; rfl)
        clear hx hy' hsn
        generalize (x ^^^ y).toNat = Z at *
        have hb_size := HB.out.size
        have hown_ge : ∀ k, u7.ownBlock = some k → w.heap.size ≤ k := fun k hk => (HO.out.lt k hk).1
        go_wp2_with fail
        go_region_held_law (fun w' => True) (trivial)
          ((refine step_append_lies _ (by rfl) _ _ _ (by rfl) w.heap.size 5 i0 _ 1 1 Tryd.underlying34 hy hy0 hy1 hy2 rfl (by omega) u7 j (Lib.byteCells (mixL (a.take j) (b.take j))) (by rfl) ((HO.out.alloc _).drew)
              ⟨wr.heap.size, 0, none⟩ 1 1 [.int .u8 (Z : Int)] (by rfl) (by rfl) (World.news_of_block (cs := #[.int .u8 (Z : Int)]) (t := 5) (fr := (0, 0)) (heap_alloc_new wr _)) (by simp [Value.oneCell'])
              (by omega) (by unfold maxLen; omega) (by omega) (by simp; omega) (wr.heap.size + 1) (by simp) ?_; intro gg cap w5 hown5 hgrow hat hltg))
        all_goals
         have HO := Lib.hid (show w5.ownsRow w.heap.size 5 1 (.slice (some ⟨gg, 0, none⟩) (j + 1) cap) (j + 1) (Lib.byteCells (mixL (a.take (j + 1)) (b.take (j + 1)))) from HSN.out ▸ hown5)
         have HB := Lib.hid (((HB.out.alloc hzz (.cells #[.int .u8 (Z : Int)] 5)).drew).grown hgrow (by have := hb_size; simp; omega) (fun k hk => hown_ge k hk))
         clear hown5 hgrow hat
         go_wp2_with fail
         go_roundw
         case rel => exact ⟨j + 1, by omega, by go_num, HO.out, HB.out⟩
         case measure => simp [intOf]; omega
      · have hke : j = b.length := by omega
        subst hke
        have HCV := conv_ownB HO.out hzz
        have hml := mixL_len a b b.length (by omega) (by omega)
        have hcr := crc_mixn a b b.length (by omega) (by omega)
        obtain ⟨A1, hA1⟩ : ∃ A1, a.take b.length = A1 := ⟨_, rfl⟩
        obtain ⟨B1, hB1⟩ : ∃ B1, b.take b.length = B1 := ⟨_, rfl⟩
        have hla : A1.length ≤ 300 := by rw [← hA1, List.length_take]; omega
        have hlb : B1.length ≤ 300 := by rw [← hB1, List.length_take]; omega
        have hta := S_take a b.length
        have htb := S_take b b.length
        rw [hA1] at hta
        rw [hB1] at htb
        rw [hA1, hB1] at HCV hml hcr
        rw [hA1, hB1] at HO
        obtain ⟨M, hM⟩ : ∃ M, mixL A1 B1 = M := ⟨_, rfl⟩
        rw [hM] at HCV hml hcr
        rw [hM] at HO
        have hlm : M.length ≤ 300 := by omega
        have hxr := bits_xor_u32_nat (crc 0#32 A1).toNat (crc 0#32 B1).toNat (crc 0#32 A1).isLt (crc 0#32 B1).isLt
        rw [← BitVec.toNat_xor, ← hcr] at hxr
        have HH : Hid (∀ W, Below wr.heap.size wr W → ((convert 34 9 u7).run Tryd.prog W = .ok (.string (S M)) W ∧ Below wr.heap.size wr W)) := Lib.hid fun W h => ⟨HCV W h, h⟩
        have HA : Hid (∀ (W : World) (o : Obj), ((convert 34 9 u7).run Tryd.prog W = .ok (.string (S M)) W ∧ Below wr.heap.size wr W) → ((convert 34 9 u7).run Tryd.prog (W.alloc o) = .ok (.string (S M)) (W.alloc o) ∧ Below wr.heap.size wr (W.alloc o))) := Lib.hid fun W o h => HH.out _ (h.2.alloc h.2.size _)
        have HD : Hid (∀ (W : World), ((convert 34 9 u7).run Tryd.prog W = .ok (.string (S M)) W ∧ Below wr.heap.size wr W) → ((convert 34 9 u7).run Tryd.prog W.drew = .ok (.string (S M)) W.drew ∧ Below wr.heap.size wr W.drew)) := Lib.hid fun W h => HH.out _ h.2.drew
        have HT2 := HT.out.below HB.out
        have OA : ∀ g W, ((convert 34 9 u7).run Tryd.prog W = .ok (.string (S M)) W ∧ Below wr.heap.size wr W) → g < W.heap.size → W.cell? ⟨g, 0, none⟩ = some (.string (S A1)) → Calls Tryd.prog 12 #[.slice (some ⟨g, 0, none⟩) 1 1] W fun r w' => r = .returned (.int .u32 ((crc 0#32 A1).toNat : Int)) ∧ W = w' := fun g W hS hg hc => of1g A1 (by omega) g W (HT2.below hS.2) hg hc
        have OB : ∀ g W, ((convert 34 9 u7).run Tryd.prog W = .ok (.string (S M)) W ∧ Below wr.heap.size wr W) → g < W.heap.size → W.cell? ⟨g, 0, none⟩ = some (.string (S B1)) → Calls Tryd.prog 12 #[.slice (some ⟨g, 0, none⟩) 1 1] W fun r w' => r = .returned (.int .u32 ((crc 0#32 B1).toNat : Int)) ∧ W = w' := fun g W hS hg hc => of1g B1 (by omega) g W (HT2.below hS.2) hg hc
        have OM : ∀ g W, ((convert 34 9 u7).run Tryd.prog W = .ok (.string (S M)) W ∧ Below wr.heap.size wr W) → g < W.heap.size → W.cell? ⟨g, 0, none⟩ = some (.string (S M)) → Calls Tryd.prog 12 #[.slice (some ⟨g, 0, none⟩) 1 1] W fun r w' => r = .returned (.int .u32 ((crc 0#32 M).toNat : Int)) ∧ W = w' := fun g W hS hg hc => of1g M (by omega) g W (HT2.below hS.2) hg hc
        have hS0 := HH.out wr (Below.refl _ _)
        have hbw := HB.out
        clear HCV HH hml hcr hM hA1 hB1
        generalize (crc 0#32 M).toNat = KM at *
        generalize (crc 0#32 A1).toNat = KA at *
        generalize (crc 0#32 B1).toNat = KB at *
        have OA := Lib.hid OA
        have OB := Lib.hid OB
        have OM := Lib.hid OM
        clear HO
        go_wp2_with fail
        go_region_held3 (fun W => ((convert 34 9 u7).run Tryd.prog W = .ok (.string (S M)) W ∧ Below wr.heap.size wr W)) (((try dsimp only); (repeat (first | (with_reducible assumption) | (with_reducible refine HD.out _ ?_) | (with_reducible refine HA.out _ _ ?_)))))
          (first
            | (go_at_call 12; with_reducible refine (OM.out _ _ ?_ ?_ ?_).mono ?_; (focus (with_reducible assumption)); (focus (simp; try omega)); (focus (go_simp; done)); rintro e w7 ⟨rfl, rfl⟩)
            | (go_at_call 12; with_reducible refine (OA.out _ _ ?_ ?_ ?_).mono ?_; (focus (with_reducible assumption)); (focus (simp; try omega)); (focus (go_simp; done)); rintro e w7 ⟨rfl, rfl⟩)
            | (go_at_call 12; with_reducible refine (OB.out _ _ ?_ ?_ ?_).mono ?_; (focus (with_reducible assumption)); (focus (simp; try omega)); (focus (go_simp; done)); rintro e w7 ⟨rfl, rfl⟩))
        all_goals
          go_wp2_with fail
          go_ret
          exact ⟨by first | rfl | (simp; done), by (repeat' (first | (with_reducible exact Below.refl _ _) | (with_reducible assumption) | (with_reducible refine Below.alloc ?_ ?_ _) | (with_reducible refine Below.drew ?_) | (with_reducible refine Below_drewN ?_ _) | (with_reducible refine Below.setCell ?_ ?_ _) | (refine Below.step (B' := ?_) (b := ?_) ?_ ?_ ?_; rotate_left 2; (with_reducible assumption)) | go_size))⟩
  · have d0 : 300 < (b.length : Int) := by omega
    go_enter Tryd.func7, Tryd.ntmps7
    go_wp2_with fail
    with_reducible refine (awake6 _ HT.out).mono ?_
    rintro e w1 ⟨rfl, hb1⟩
    go_wp2_with fail
    go_ret
    exact ⟨rfl, hb1⟩
theorem walk_SumMixed (a0 a1 : ByteArray) (w0 : a0.size ≤ maxLen) (w1 : a1.size ≤ maxLen) (w : World) (hT : Steps w) :
    Calls Tryd.prog 7 #[.string a0, .string a1] w fun e w' => e = .returned (.bool true) ∧ Below w.heap.size w w' := by
  obtain ⟨a, rfl⟩ : ∃ s, a0 = S s := ⟨a0.data.toList, (S_of a0).symm⟩
  obtain ⟨b, rfl⟩ : ∃ s, a1 = S s := ⟨a1.data.toList, (S_of a1).symm⟩
  have hsa := S_size a
  have hsb := S_size b
  rw [hsa] at w0
  rw [hsb] at w1
  have w0' : a.length ≤ 9223372036854775807 := by unfold maxLen at w0; omega
  have w1' : b.length ≤ 9223372036854775807 := by unfold maxLen at w1; omega
  by_cases hcmp : b.length < a.length
  · exact mixed_b a b hcmp w0' w1' w hT
  · exact mixed_a a b hcmp w0' w1' w hT
end Go.Proofs.Tryd
