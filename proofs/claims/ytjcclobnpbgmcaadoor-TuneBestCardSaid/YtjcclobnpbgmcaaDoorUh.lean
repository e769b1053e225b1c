/- slices.Insert at []api.Seen, one member (stage 21). -/
import Derived.Test.YtjcclobnpbgmcaaDoorUg
import Derived.Test.YtjcclobnpbgmcaaDoorOwn2
import Derived.Test.YtjcclobnpbgmcaaDoorTail
import Derived.Laws.CopyRow
import Derived.Laws.MakeOwn
import Derived.Lib.AppendZerosOnto
namespace Go
theorem run_copy_k {P : Program} (w : World) (dT sT ty elem : TypeId) (k g o dLen dCap : Nat) (a : Addr) (sLen sCap : Nat) (cur : Array Value) (t : TypeId) (cs : List Value)
    (hu : P.underlying dT = some (.slice elem)) (hs : (P.info? elem).map (·.size) = some k)
    (hg : w.heap[g]? = some (.cells cur t (0, 0))) (hn : cs.length = Nat.min sLen dLen * k)
    (hsrc : ∀ j v, cs[j]? = some v → w.cell? (a.add j) = some v) (hfit : o + cs.length ≤ cur.size) (h1 : ∀ v ∈ cs, v.oneCell' = true) :
    (Builtin.copy_ #[dT, sT] ty #[.slice (some ⟨g, o, none⟩) dLen dCap, .slice (some a) sLen sCap]).run P w =
      .ok (goInt (Nat.min sLen dLen)) (w.setRow g (cur.toList.take o ++ cs ++ cur.toList.drop (o + cs.length)).toArray) := by
  have hl := run_loadCells_list (P := P) w a cs hsrc
  have hst := run_storeCells_at P g o t cs 0 cur w hg (by simpa using hfit) h1
  cases hq : P.info? elem with
  | none => simp [hq] at hs
  | some i =>
    have hi : i.size = k := by simpa [hq] using hs
    simp [Builtin.copy_, run_underlying hu, Builtin.lenOf, Builtin.firstCells, sizeOf, typeInfo, hq, hi, ← hn, hl, hst]
namespace Proofs.Tryd
open Go.RowKit Go.Lib
set_option linter.unusedVariables false
set_option linter.unusedSimpArgs false
theorem seenInfo : (Tryd.prog.info? 25).map (fun i => (i.zero, i.size, i.bytes)) = some (some (.agg #[.string ⟨#[]⟩, .int .i64 0, .int .i64 0]), 3, 32) := by kernel_rfl
theorem seen_size : (Tryd.prog.info? 25).map (·.size) = some 3 := by kernel_rfl
theorem own_seesN {w : World} {base : Nat} {e : TypeId} {k g n c : Nat} {xs : List Value} (h : w.ownsRow base e k (.slice (some ⟨g, 0, none⟩) n c) n xs) : Sees w k (some ⟨g, 0, none⟩) n xs ∧ n ≤ c := by
  obtain ⟨A, c', he, hc, hs⟩ := Sees.of_own h
  injection he with e1 _ e3
  subst e1 e3
  exact ⟨hs, hc.2⟩
theorem sees_add {w : World} {k n : Nat} {a : Addr} {xs : List Value} (h : Sees w k (some a) n xs) (hn : n ≠ 0) {j : Nat} {v : Value} (hj : xs[j]? = some v) : w.cell? (a.add j) = some v := by
  rcases h.2 with h0 | ⟨b, off, hA, _, hc⟩
  · exact absurd h0 hn
  · injection hA with hA
    subst hA
    rw [add_plain, hc j (List.getElem?_eq_some_iff.1 hj).1, hj]
set_option maxRecDepth 100000 in
set_option maxHeartbeats 8000000 in
theorem insert_end (g n : Nat) (l : List Sn) (x : Sn) (vb vo vc base : Nat) (hn : n ≤ 2000) (hvc : 1 ≤ vc) (w : World) (ho : w.ownsRow base 25 3 (.slice (some ⟨g, 0, none⟩) n n) n (flat encN l)) (hx : Sees w 3 (some ⟨vb, vo, none⟩) 1 (encN x)) (hb : base ≤ w.heap.size) :
    Calls Tryd.prog 33 #[.slice (some ⟨g, 0, none⟩) n n, .int .i64 (n : Int), .slice (some ⟨vb, vo, none⟩) 1 vc] w fun e w' => ∃ v', e = .returned v' ∧ w'.ownsRow base 25 3 v' (n + 1) (flat encN (l ++ [x])) ∧ Below base w w' := by
  obtain ⟨i0, hy, hy0, hy1, hy2⟩ := infoU_parts seenInfo
  have HO := Lib.hid ho
  have HX := Lib.hid hx
  clear ho hx
  go_enter Tryd.func33, Tryd.ntmps33
  go_wp2_with (at_builtin
               refine wpList_app rfl (.tmp 23) (.tmp 24) _ rfl base 25 i0 _ 3 32 Tryd.underlying22 hy hy0 hy1 hy2 rfl (by omega) _ n _ rfl HO.out (some ⟨vb, vo, none⟩) 1 vc (encN x) rfl (cap_some hvc) HX.out (encN_one x) (by unfold maxLen; omega) (by omega) hb ?_
               intro v4 w4 hown4 hb4)
  go_ret
  exact ⟨_, rfl, by rw [flat_app]; simpa [flat] using hown4, hb4⟩
set_option maxRecDepth 100000 in
set_option maxHeartbeats 8000000 in
theorem insert_mid (g n i : Nat) (l : List Sn) (x : Sn) (vb vo vc base : Nat) (hn : n ≤ 2000) (hi : i < n) (hvc : 1 ≤ vc) (w : World) (ho : w.ownsRow base 25 3 (.slice (some ⟨g, 0, none⟩) n n) n (flat encN l)) (hx : Sees w 3 (some ⟨vb, vo, none⟩) 1 (encN x)) (hb : base ≤ w.heap.size) :
    Calls Tryd.prog 33 #[.slice (some ⟨g, 0, none⟩) n n, .int .i64 (i : Int), .slice (some ⟨vb, vo, none⟩) 1 vc] w fun e w' => ∃ v', e = .returned v' ∧ w'.ownsRow base 25 3 v' (n + 1) (flat encN (l.take i ++ [x] ++ l.drop i)) ∧ Below base w w' := by
  obtain ⟨i0, hy, hy0, hy1, hy2⟩ := infoU_parts seenInfo
  have HS := Lib.hid (own_seesN ho).1
  have hl : l.length = n := HS.out.elen encN_len (by omega)
  have hold : (Builtin.firstCells i0.size i (.slice (some ⟨g, 0, none⟩) i n)).run Tryd.prog w.drew = .ok (flat encN (l.take i)).toArray w.drew := by
    rw [hy1]
    exact run_firstCells_some w.drew 3 i ⟨g, 0, none⟩ i n (flat encN (l.take i)) (by rw [flat_len encN_len, List.length_take]; omega) (fun j v hj => by
      rw [← flat_take encN_len, List.getElem?_take] at hj
      split at hj
      · exact sees_add HS.out (by omega) hj
      · cases hj)
  have hkk : (n : Int) + 1 - (i : Int) = ((n + 1 - i : Nat) : Int) := by omega
  have hik : i + (n + 1 - i) = n + 1 := by omega
  obtain ⟨ROW, G, hG, hGm, hRs, hRt, hrz⟩ : ∃ (ROW : Array Value) (G : Nat), n + 1 ≤ G ∧ G ≤ maxLen ∧ ROW.size = G * 3 ∧ ROW.toList.take (i * 3) = flat encN (l.take i) ∧ ∀ ty, (Builtin.append_ #[22, 3] ty #[.slice (some ⟨g, 0, none⟩) i n, .int .i64 ((n : Int) + 1 - (i : Int))]).run Tryd.prog w = .ok (.slice (some ⟨w.heap.size, 0, none⟩) (n + 1) G) (w.drew.alloc (.cells ROW 25)) := by
    refine ⟨(flat encN (l.take i)).toArray ++ Builtin.zeroCells (Value.agg #[.string ⟨#[]⟩, .int .i64 0, .int .i64 0]).cells (n + 1 - i) ++ Builtin.zeroCells (Value.agg #[.string ⟨#[]⟩, .int .i64 0, .int .i64 0]).cells (grownCap w (n + 1) n 25 - (n + 1)), grownCap w (n + 1) n 25, grownCap_ge w _ _ _, grownCap_le_maxLen w _ _ _ (by unfold maxLen; omega), ?_, ?_, fun ty => ?_⟩
    rotate_left 2
    · have h := Lib.run_append_grow_zeros w 22 3 ty 25 i0 _ .i64 .i64 Tryd.underlying22 Tryd.underlying3 hy hy0 (some ⟨g, 0, none⟩) i n (flat encN (l.take i)) hold (n + 1 - i) (by omega) (by omega) (by omega) (by omega) (by rw [hy2]; omega) (by rw [hy2, hik]; exact growslice_fits (by omega) (by omega))
      rw [hik] at h
      rw [hkk]
      exact h
    · have := grownCap_ge w (n + 1) n 25
      simp [Builtin.zeroCells, Value.cells, flat_len encN_len, List.length_take]
      omega
    · rw [Array.toList_append, Array.toList_append, List.append_assoc]
      exact List.take_left' (by simp [flat_len encN_len, List.length_take]; omega)
  have HO := Lib.hid ho
  have HX := Lib.hid hx
  have HL := Lib.hid hl
  have HRT := Lib.hid hRt
  clear ho hx hold hl hRt hkk
  have hz2 : ¬ ((i : Int) = (n : Int)) := by omega
  have hz3 : ((i : Int) == (n : Int)) = false := by simp; omega
  have hz4 : (i == n) = false := by simp; omega
  have hz5 : (n : Int) < (n : Int) + 1 := by omega
  have hGi : ¬(G = i) := by omega
  have hGi' : (G == i) = false := by simp; omega
  have hGj : ¬(G = i + 1) := by omega
  have hGj' : (G == i + 1) = false := by simp; omega
  have hin : i ≤ n := by omega
  have hin1 : (i : Int) ≤ (n : Int) := by omega
  have hin2 : (i : Int) + 1 ≤ (n : Int) + 1 := by omega
  have hni : ¬(n = i) := by omega
  have hni' : (n == i) = false := by simp; omega
  have htn : ((i : Int) + 1).toNat = i + 1 := by omega
  have hH1 : (w.alloc (.cells ROW 25)).drew.heap[w.heap.size]? = some (.cells ROW 25 (0, 0)) := heap_alloc_new w _
  have hBA := ((Below.refl w.heap.size w).alloc (Nat.le_refl _) (.cells ROW 25)).drew
  have hcp1 := run_copy_k (P := Tryd.prog) (w.alloc (.cells ROW 25)).drew 22 22 3 25 3 w.heap.size (i * 3) (n + 1 - i) (G - i) ⟨vb, vo, none⟩ 1 vc ROW 25 (encN x) Tryd.underlying22 seen_size hH1 (by rw [show Nat.min 1 (n + 1 - i) = 1 from Nat.min_eq_left (by omega)]; rfl) (fun j v hj => sees_add (HX.out.below hBA) (by omega) hj) (by rw [hRs]; show i * 3 + 3 ≤ G * 3; omega) (encN_one x)
  rw [show Nat.min 1 (n + 1 - i) = 1 from Nat.min_eq_left (by omega)] at hcp1
  obtain ⟨R1, hR1⟩ : ∃ R1, R1 = (ROW.toList.take (i * 3) ++ encN x ++ ROW.toList.drop (i * 3 + (encN x).length)).toArray := ⟨_, rfl⟩
  rw [← hR1] at hcp1
  have HR1 := Lib.hid hR1
  obtain ⟨W2, hW2⟩ : ∃ W2, W2 = (w.alloc (.cells ROW 25)).drew.setRow w.heap.size R1 := ⟨_, rfl⟩
  rw [← hW2] at hcp1
  have HW2 := Lib.hid hW2
  clear hR1 hH1 hW2
  go_enter Tryd.func33, Tryd.ntmps33
  go_wp2_with (at_builtin; refine Lib.wpList_append_run _ rfl _ _ _ _ rfl _ _ rfl rfl _ _ (hrz _) ?_)
  have hx3 : (encN x).length = 3 := rfl
  have hft : (flat encN (l.take i)).length = i * 3 := by rw [flat_len encN_len, List.length_take, HL.out, Nat.min_eq_left hin]
  have hfd : (flat encN (l.drop i)).length = (n - i) * 3 := by rw [flat_len encN_len, List.length_drop, HL.out]
  have hR1s : R1.size = G * 3 := by
    rw [HR1.out]
    simp only [List.size_toArray, List.length_append, List.length_take, List.length_drop, Array.length_toList, hRs, hx3]
    omega
  have hR1t : R1.toList.take ((i + 1) * 3) = flat encN (l.take i) ++ encN x := by
    rw [HR1.out, HRT.out]
    simp only [List.toList_toArray]
    exact List.take_left' (by rw [List.length_append, hft, hx3]; omega)
  have hH2 : W2.heap[w.heap.size]? = some (.cells R1 25 (0, 0)) := by
    rw [HW2.out]
    exact setRow_heap _ _ ROW _ _ _ (heap_alloc_new w _)
  have hB2 : Below w.heap.size w W2 := by
    rw [HW2.out]
    exact (hBA.trans (Below.refl _ _)).grown ⟨rfl, rfl, rfl, by simp [World.setRow], fun j hj hne => setRow_other _ _ j _ (fun e => hne (by rw [e]))⟩ hBA.size (fun q hq => by injection hq with hq; omega)
  have hz2w : w.heap.size < W2.heap.size := (Array.getElem?_eq_some_iff.1 hH2).1
  have HX3 := Lib.hid hfd
  clear hcp1 hrz
  (refine region_later_tail 8 (by kernel_rfl) (by kernel_rfl) ?_); (intro hlat); (simp only [List.take_succ_cons, List.take_zero, List.drop_succ_cons, List.drop_zero]); (repeat (go_big_quiet_step ((fail)))); (refine wpQuiet_nil ?_); (intro W3 hb3); (clear hlat)
  have hH3 : W3.heap[w.heap.size]? = some (.cells R1 25 (0, 0)) := (hb3.block _ hz2w).trans hH2
  have hB3 : Below w.heap.size w W3 := chain hB2 hb3
  have hcp2 := run_copy_k (P := Tryd.prog) W3 22 22 3 25 3 w.heap.size ((i + 1) * 3) (n + 1 - (i + 1)) (G - (i + 1)) ⟨g, i * 3, none⟩ (n - i) (n - i) R1 25 (flat encN (l.drop i)) Tryd.underlying22 seen_size hH3 (by rw [hfd, show Nat.min (n - i) (n + 1 - (i + 1)) = n - i by simp only [Nat.min_def]; split <;> omega]) (fun j v hj => by
    have h1 : (flat encN l)[i * 3 + j]? = some v := by rw [← flat_drop encN_len, List.getElem?_drop] at hj; exact hj
    have h2 := sees_add (HS.out.below hB3) (by omega) h1
    rw [add_plain, Nat.zero_add] at h2
    rw [add_plain]
    exact h2) (by rw [hfd, hR1s]; omega) (flat_one encN_one _)
  rw [show Nat.min (n - i) (n + 1 - (i + 1)) = n - i by simp only [Nat.min_def]; split <;> omega, show n + 1 - (i + 1) = n - i by omega] at hcp2
  obtain ⟨R2, hR2⟩ : ∃ R2, R2 = (R1.toList.take ((i + 1) * 3) ++ flat encN (l.drop i) ++ R1.toList.drop ((i + 1) * 3 + (flat encN (l.drop i)).length)).toArray := ⟨_, rfl⟩
  rw [← hR2] at hcp2
  have hR2s : R2.size = G * 3 := by
    rw [hR2]
    simp only [List.size_toArray, List.length_append, List.length_take, List.length_drop, Array.length_toList, hR1s, hfd]
    omega
  have hR2t : R2.toList.take ((n + 1) * 3) = flat encN (l.take i ++ [x] ++ l.drop i) := by
    rw [hR2, hR1t]
    simp only [List.toList_toArray]
    refine (List.take_left' (by simp only [List.length_append, hft, hfd, hx3]; omega)).trans ?_
    rw [flat_app, flat_app]
    simp [flat]
  have HO4 : Hid ((W3.setRow w.heap.size R2).ownsRow base 25 3 (.slice (some ⟨w.heap.size, 0, none⟩) (n + 1) G) (n + 1) (flat encN (l.take i ++ [x] ++ l.drop i))) := Lib.hid ⟨by rw [← hR2t, List.length_take, Array.length_toList, hR2s]; omega, .inr ⟨w.heap.size, G, R2, rfl, hb, setRow_heap _ _ R1 _ _ _ hH3, hG, hGm, hR2s ▸ (by omega), hR2t⟩⟩
  have HB4 : Hid (Below base w (W3.setRow w.heap.size R2)) := Lib.hid ((hB3.mono hb).grown ⟨rfl, rfl, rfl, by simp [World.setRow], fun j hj hne => setRow_other _ _ j _ (fun e => hne (by rw [e]))⟩ (Nat.le_trans hb hB3.size) (fun q hq => by injection hq with hq; omega))
  clear hR2 hR2t hR2s hR1t hR1s hH3 hH2 hft hfd hB3 hb3 hx3
  go_wp2_with fail
  go_ret
  exact ⟨_, rfl, HO4.out, HB4.out⟩
end Proofs.Tryd
end Go
