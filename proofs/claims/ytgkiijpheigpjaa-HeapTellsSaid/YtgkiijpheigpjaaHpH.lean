/- heap: Sorted. -/
import Derived.Test.YtgkiijpheigpjaaHpG
import Derived.Test.YtgkiijpheigpjaaShelf
import Derived.Sort.Grow
namespace Go.Proofs.Try
open Go.RowKit Go.Shelf Go.Sort
set_option linter.unusedVariables false
set_option linter.unusedSimpArgs false
theorem insI_none (A : Option Addr) (c : Nat) (fv : Value) (w : World) :
    Calls Try.prog 75 #[.slice A 0 c, .int .i64 0, .int .i64 0, fv] w fun e w' => e = .returned (.tuple #[]) ∧ w = w' := by
  go_enter Try.func75, Try.ntmps75
  go_wp2_with fail
  refine wp_loop_rounds 1 ?_
  rw [rounds_succ]
  go_wp2_with fail
  go_end0
  exact ⟨rfl, rfl⟩
theorem pdqI_none (A : Option Addr) (c : Nat) (lim : Int) (fv : Value) (w : World) :
    Calls Try.prog 66 #[.slice A 0 c, .int .i64 0, .int .i64 0, .int .i64 lim, fv] w fun e w' => e = .returned (.tuple #[]) ∧ w = w' := by
  have hi := fun W => insI_none A c fv W
  go_enter Try.func66, Try.ntmps66
  go_wp2_with fail
  refine wp_loop_rounds 1 ?_
  rw [rounds_succ]
  go_wp2_with (go_at_call 75; refine (hi _).mono ?_; rintro e w' ⟨rfl, rfl⟩)
  (try simp only [Exit.inBlock, Exit.then]); refine bodyPost_ret (results_none rfl _ _ _) rfl ?_
  exact ⟨rfl, rfl⟩
theorem sortI_none (A : Option Addr) (c : Nat) (fv : Value) (w : World) :
    Calls Try.prog 52 #[.slice A 0 c, fv] w fun e w' => e = .returned (.tuple #[]) ∧ w = w' := by
  have hp := fun lim W => pdqI_none A c lim fv W
  have hl : ∀ W, Calls Try.prog 67 #[.int .u64 0] W fun e w' => e = .returned (.int .i64 (Lib.bitLen 0 : Nat)) ∧ w' = W := fun W => by
    have h := Try.bits_Len 0 W (by omega) (by omega)
    exact h
  go_enter Try.func52, Try.ntmps52
  go_wp2_with (first | (go_at_call 67; refine (hl _).mono ?_; rintro e w' ⟨rfl, rfl⟩) | (go_at_call 66; refine (hp _ _).mono ?_; rintro e w' ⟨rfl, rfl⟩))
  go_end0
  exact ⟨rfl, rfl⟩
theorem ltO (x y : It) : ltOf cmpI x y = decide (LtI x y) := by
  unfold ltOf
  exact decide_eq_decide.2 (cmpI_lt x y)
theorem swoI : SWO (ltOf cmpI) where
  irrefl x := by rw [ltO]; exact decide_eq_false (LtI.irr x)
  trans x y z h1 h2 := by rw [ltO] at *; exact decide_eq_true ((of_decide_eq_true h1).tr (of_decide_eq_true h2))
  ntrans x y z h1 h2 := by
    rw [ltO] at *
    have a := of_decide_eq_false h1
    have b := of_decide_eq_false h2
    exact decide_eq_false (nlt_tr b a)
theorem own_holds {w : World} {base : Nat} {e : TypeId} {g n c : Nat} {l : List It} (h : w.ownsRow base e 3 (.slice (some ⟨g, 0, none⟩) n c) n (flat encI l)) : HoldsK encI 3 w g 0 l.toArray := by
  have hl := own_len h
  intro t ht
  rw [size_flatK] at ht
  have ht' : t < n * 3 := by simpa [hl] using ht
  rw [get_flatK _ _ _ _ ht]
  obtain ⟨⟨c0, c1, c2⟩, f0, f1, f2, _⟩ := own_item h (j := t / 3) (by omega)
  have hx : l.toArray[t / 3]! = atI l (t / 3) := by
    unfold atI
    rw [getElem!_pos _ _ (by simp; omega), List.getD_eq_getElem?_getD, List.getElem?_eq_getElem (by omega)]
    simp
  rw [hx, Nat.zero_add]
  have h3 : t % 3 = 0 ∨ t % 3 = 1 ∨ t % 3 = 2 := by omega
  rcases h3 with h3 | h3 | h3
  · have e0 : t / 3 * 3 = t := by omega
    rw [e0] at c0 f0
    rw [h3]
    exact ⟨c0, f0⟩
  · have e0 : t / 3 * 3 + 1 = t := by omega
    rw [e0] at c1 f1
    rw [h3]
    exact ⟨c1, f1⟩
  · have e0 : t / 3 * 3 + 2 = t := by omega
    rw [e0] at c2 f2
    rw [h3]
    exact ⟨c2, f2⟩
theorem holds_sees {w : World} {g : Nat} {d : Array It} (hg : g < w.heap.size) (h : HoldsK encI 3 w g 0 d) : Sees w 3 (some ⟨g, 0, none⟩) d.size (flat encI d.toList) := by
  refine ⟨by rw [flat_len encI_len]; simp, .inr ⟨g, 0, rfl, hg, fun j hj => ?_⟩⟩
  rw [flat_len encI_len] at hj
  have hj' : j < d.size * 3 := by simpa using hj
  have h1 := (h j (by rw [size_flatK]; exact hj')).1
  rw [get_flatK _ _ _ _ hj'] at h1
  rw [h1]
  have hx : d.toList[j / 3]? = some d[j / 3]! := by
    rw [getElem!_pos _ _ (by omega), List.getElem?_eq_getElem (by simp; omega)]
    simp
  have h2 := flat_get encI_len hx (i := j % 3) (by omega)
  rw [show j / 3 * 3 + j % 3 = j by omega] at h2
  rw [h2]
  have h3 : j % 3 < (encI d[j / 3]!).length := by rw [encI_len]; omega
  rw [List.getElem?_eq_getElem h3, id, getElem!_pos (encI d[j / 3]!) _ h3]
/-- What Sorted makes. -/
def SortP (l s : List It) : Prop := (¬chkI l ∧ s = []) ∨ (chkI l ∧ s.Perm l ∧ rises s)
theorem sorted_rises {l : List It} (h : (l.map (·.1)).Nodup) {d : Array It} (hp : PermIn 0 l.toArray.size l.toArray d) (hs : SortedIn (ltOf cmpI) 0 l.toArray.size d) : d.toList.Perm l ∧ rises d.toList := by
  obtain ⟨h1, _, h3⟩ := hp
  have hsz : d.size = l.length := by simpa using h1
  have hperm : d.toList.Perm l := by
    have e1 : d.extract 0 l.toArray.size = d := by rw [← h1]; simp
    have e2 : l.toArray.extract 0 l.toArray.size = l.toArray := by simp
    rw [e1, e2] at h3
    simpa using h3
  refine ⟨hperm, ?_⟩
  have hn : (d.toList.map (·.1)).Nodup := (hperm.map _).nodup_iff.2 h
  unfold rises
  rw [List.pairwise_iff_getElem]
  intro i j hi hj hij
  have hj' : j < d.size := by simpa using hj
  have h4 := hs i j (Nat.zero_le _) hij (by simp; omega)
  rw [ltO, getElem!_pos d j hj', getElem!_pos d i (by omega)] at h4
  have h5 := of_decide_eq_false h4
  have hne := List.pairwise_iff_getElem.1 hn i j (by simpa using hi) (by simpa using hj) hij
  simp only [List.getElem_map] at hne
  simp only [Array.getElem_toList] at hne ⊢
  by_cases hlt : LtI d[i] d[j]
  · exact hlt
  · exact absurd (congrArg (·.1) (LtI.tot hlt h5)) hne
set_option maxRecDepth 100000 in
set_option maxHeartbeats 2000000 in
theorem sortI_c (g n c base : Nat) (l : List It) (hc : (l.map (·.1)).Nodup) (hn : n ≤ 100000) (w : World) (h : w.ownsRow base 25 3 (.slice (some ⟨g, 0, none⟩) n c) n (flat encI l)) :
    Calls Try.prog 52 #[.slice (some ⟨g, 0, none⟩) n c, .func (.func 50) #[] #[]] w fun e w' => e = .returned (.tuple #[]) ∧ ∃ s, (s.Perm l ∧ rises s) ∧ Sees w' 3 (some ⟨g, 0, none⟩) n (flat encI s) ∧ w.grownBy w' (some g) := by
  have hl := own_len h
  have hsz : l.toArray.size = n := by simpa using hl
  have eg : ∀ args w, (callFunc 50 args).run Try.prog w = .ok (.enter 50 args) w := enters_of Try.func50 (by kernel_rfl) rfl
  have hcon := AnyQ.slices_SortFunc Try.sortItem 3 Try.isAgg25 Try.sizeOf25 encI encI_len encI_one cmpI swoI 50 #[] g 0 c l.toArray w eg
    (fun m os dk _ x y => (compare_g x.1 x.2.1 x.2.2 y.1 y.2.1 y.2.2 _).mono fun _ _ h => h) (own_holds h) (h.lt g rfl).2 (by rw [hsz]; omega)
  rw [hsz] at hcon
  refine Calls.mono hcon ?_
  rintro e w' ⟨rfl, d', m, os, hp, hs, rfl⟩
  rw [← hsz] at hp hs
  have hR := sorted_rises hc hp hs
  have hds : d'.size = n := by rw [← hsz]; exact hp.1
  refine ⟨rfl, d'.toList, hR, ?_, ?_⟩
  · have hg := (h.lt g rfl).2
    have h1 := holdsK_sortWorldK_c encI 3 w g 0 l.toArray d' m os (own_holds h) hg (by rw [hds, hsz])
    have h2 := holds_sees (w := sortWorldK encI 3 w g 0 m d' os) (by
      unfold sortWorldK grow
      simp only [Array.size_append]
      have : (putRowK encI 3 (Sort.ahead w m) g 0 d').heap.size = w.heap.size := by
        unfold putRowK
        rw [size_putRow]
        rfl
      omega) h1
    rwa [hds] at h2
  · refine ⟨rfl, rfl, rfl, by simp [sortWorldK, putRowK], fun k hk hne => ?_⟩
    unfold sortWorldK
    rw [heap_grow_old _ _ (by simpa [putRowK] using hk)]
    have : g ≠ k := fun e => hne (by rw [e])
    simp [putRowK, putRow, mapBlock, Sort.ahead, Array.getElem?_modify, this]
/-- How Sorted ends. -/
def SortE (R : List It → Prop) (w : World) (e : Ending) (w' : World) : Prop := ∃ v' s, e = .returned v' ∧ R s ∧ Rows encI 3 w' v' s.length s ∧ Below w.heap.size w w'
set_option maxRecDepth 100000 in
set_option maxHeartbeats 2000000 in
theorem sorted_c (v : Value) (n : Nat) (l : List It) (hn : n ≤ 1000) (w : World) (h : Rows encI 3 w v n l) :
    Calls Try.prog 25 #[v] w (SortE (SortP l) w) := by
  have HS := Lib.hid h
  have HL := Lib.hid h.len
  have CL := fun W (h : Rows encI 3 W v n l) => cloneI_c v n l W h
  have CK := fun W (h : Rows encI 3 W v n l) => checkh_c v n l W h
  clear h
  by_cases hc : chkI l
  · rw [decide_eq_true hc] at CK
    have HC := Lib.hid hc
    clear hc
    go_enter Try.func25, Try.ntmps25
    go_wp2_with fail
    refine (CK _ HS.out).mono ?_
    rintro e w1 ⟨rfl, hb1⟩
    replace HS := Lib.hid (HS.out.below hb1)
    have HB := Lib.hid hb1
    have hz1 := hb1.size
    clear hb1 CK
    go_wp2_with fail
    refine (CL _ HS.out).mono ?_
    rintro e w2 ⟨⟨v1, rfl, ho⟩, hb2⟩
    replace HB := Lib.hid (chain HB.out hb2)
    have HO := Lib.hid (own_mono' (base' := w.heap.size) ho hz1)
    clear ho hb2 CL
    by_cases hn0 : n = 0
    · subst hn0
      obtain ⟨A1, c1, rfl, hc1, hs1⟩ := Sees.of_own HO.out
      have SN := fun fv W => sortI_none A1 c1 fv W
      clear hs1
      go_wp2_with fail
      refine (SN _ _).mono ?_
      rintro e w' ⟨rfl, rfl⟩
      go_wp2_with fail
      go_ret
      have hl0 : l = [] := List.eq_nil_of_length_eq_zero HL.out
      exact ⟨_, [], rfl, .inr ⟨HC.out, by rw [hl0], by unfold rises; simp⟩, by have := own_rows HO.out (by omega); rwa [hl0] at this, HB.out⟩
    · obtain ⟨g, c4, rfl, hg4, hc4⟩ := own_some HO.out hn0
      have ST := sortI_c g n c4 w.heap.size l HC.out.2.1 (by omega) w2 HO.out
      go_wp2_with fail
      refine ST.mono ?_
      rintro e w3 ⟨rfl, s, hs, hse, hg3⟩
      have hbz := HB.out.size
      have HB3 := Lib.hid (HB.out.grown hg3 hbz (fun k hk => by injection hk with hk; omega))
      have HSE := Lib.hid hse
      have HSS := Lib.hid hs
      have HLS := Lib.hid (show s.length = n by rw [hs.1.length_eq]; exact HL.out)
      clear hs hse hg3 ST
      go_wp2_with fail
      go_ret
      exact ⟨_, s, rfl, .inr ⟨HC.out, HSS.out⟩, by rw [HLS.out]; exact ⟨_, c4, rfl, cap_some hc4, by omega, HLS.out, HSE.out⟩, HB3.out⟩
  · rw [decide_eq_false hc] at CK
    go_enter Try.func25, Try.ntmps25
    go_wp2_with fail
    refine (CK _ HS.out).mono ?_
    rintro e w1 ⟨rfl, hb1⟩
    go_wp2_with fail
    go_ret
    exact ⟨_, [], rfl, .inl ⟨hc, rfl⟩, Rows.nil _ _ _, hb1⟩
end Go.Proofs.Try
