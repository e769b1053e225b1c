/- Tables whatever slice tells them; put and deleted again; all keys (stage 13). -/
import Derived.Test.YtpjijaljdklpgaaTn
namespace Go.Proofs.Try
open Go.RowKit Go.Maps Go.Sort
set_option linter.unusedVariables false
set_option linter.unusedSimpArgs false
/-- A key that had no place, put, and deleted again: all is as it was. -/
theorem back_same {l : List Pl} (g : OkL l) {k : ByteArray} {v : Int} (he : (putL l k v).2 = 0) (hv : valL l k = none) {z : List Pl} (hd : DelR (putL l k v).1 k z) : z = l := by
  have g' := put_ok g k v
  have hval := put_val g he k
  obtain ⟨h1, h2, h3⟩ := put_ok_eq he
  have hz := key_none h1
  have hp := spot_lt g k
  have hpl : spotL l k < l.length := by rw [g.len]; exact hp
  rw [if_pos rfl] at hval
  have hsame : spotL (putL l k v).1 k = spotL l k := by
    rcases spot_there g' hz with ⟨h4, _⟩ | ⟨_, _, h4, _⟩
    · have ht1 : tabL (putL l k v).1 (spotL (putL l k v).1 k) = some (k, (atP (putL l k v).1 (spotL (putL l k v).1 k)).2) := tabL_some.2 ⟨by rw [h4]; exact hz, Prod.ext h4 rfl⟩
      have ht2 : tabL (putL l k v).1 (spotL l k) = some (k, v) := by
        rw [h2, tab_set hpl k v hz, setT_same]
      exact g'.good.one _ _ (spot_lt g' k) hp k _ _ ht1 ht2
    · rw [hval] at h4; cases h4
  have hat : atP l (spotL l k) = noP := by
    rcases spot_there g hz with ⟨_, h4⟩ | ⟨_, h4, _⟩
    · rw [hv] at h4; cases h4
    · exact h4
  have hset : (putL l k v).1.set (spotL l k) noP = l := by
    rw [h2, List.set_set, ← hat]
    obtain ⟨_, h⟩ := List.getElem?_eq_some_iff.1 (atP_get hpl)
    rw [← h, List.set_getElem_self]
  have := hd.same
  rw [hsame, hset] at this
  exact this g.good
theorem mem_at {l : List Pl} (g : OkL l) {p : Pl} (hp : p ∈ l) : ∃ i, i < 128 ∧ atP l i = p := by
  obtain ⟨i, hi, rfl⟩ := List.getElem_of_mem hp
  have h3 := atP_get hi
  rw [List.getElem?_eq_getElem hi] at h3
  injection h3 with h3
  exact ⟨i, by rw [← g.len]; exact hi, h3.symm⟩
/-- The keys are those that have something, each once. -/
theorem keysT_mem {l : List Pl} (g : OkL l) (k : ByteArray) : k ∈ keysT l ↔ valL l k ≠ none := by
  unfold keysT
  rw [List.mem_map]
  constructor
  · rintro ⟨p, hp, rfl⟩
    rw [List.mem_filter] at hp
    obtain ⟨i, hi, he⟩ := mem_at g hp.1
    have hz : noneS p.1 = false := by simpa using hp.2
    have : valL l p.1 = some p.2 := (val_some g hz p.2).2 ⟨i, hi, tabL_some.2 ⟨by rw [he]; exact hz, he⟩⟩
    rw [this]; simp
  · intro h
    cases hz : noneS k with
    | true => exact absurd (val_empty hz) h
    | false =>
      cases hv : valL l k with
      | none => exact absurd hv h
      | some v =>
        obtain ⟨i, hi, ht⟩ := (val_some g hz v).1 hv
        obtain ⟨_, h2⟩ := tabL_some.1 ht
        have hm := atP_get (l := l) (i := i) (by rw [g.len]; exact hi)
        rw [h2] at hm
        exact ⟨(k, v), List.mem_filter.2 ⟨List.mem_of_getElem? hm, by simp [hz]⟩, rfl⟩
theorem keysT_key {l : List Pl} (g : OkL l) {k : ByteArray} (h : valL l k ≠ none) : isKey k = true := by
  cases hz : noneS k with
  | true => exact absurd (val_empty hz) h
  | false =>
    cases hv : valL l k with
    | none => exact absurd hv h
    | some v =>
      obtain ⟨i, hi, ht⟩ := (val_some g hz v).1 hv
      obtain ⟨_, h2⟩ := tabL_some.1 ht
      rcases g.cells i hi with ⟨h3, _⟩ | h3
      · rw [h2] at h3; rw [hz] at h3; cases h3
      · rw [h2] at h3; exact h3
theorem keysT_nodup {l : List Pl} (g : OkL l) : (keysT l).Nodup := by
  unfold keysT
  rw [List.nodup_iff_pairwise_ne, List.pairwise_map]
  have hp : l.Pairwise (fun a b => noneS a.1 = false → noneS b.1 = false → a.1 ≠ b.1) := by
    rw [List.pairwise_iff_getElem]
    intro i j hi hj hij h1 h2 he
    have a1 := atP_get hi
    have a2 := atP_get hj
    rw [List.getElem?_eq_getElem hi] at a1
    rw [List.getElem?_eq_getElem hj] at a2
    injection a1 with a1
    injection a2 with a2
    rw [a1] at h1 he
    rw [a2] at h2 he
    have := g.good.one i j (by rw [← g.len]; exact hi) (by rw [← g.len]; exact hj) (atP l i).1 (atP l i).2 (atP l j).2 (tabL_some.2 ⟨h1, rfl⟩) (tabL_some.2 ⟨h2, Prod.ext he.symm rfl⟩)
    omega
  exact (List.Pairwise.filter _ hp).imp_of_mem (fun ha hb h => h (by simpa using (List.mem_filter.1 ha).2) (by simpa using (List.mem_filter.1 hb).2))
theorem bytesK_inj {a b : ByteArray} (h : bytesK a = bytesK b) : a = b := ByteArray.ext (Array.ext' h)
/-- Two tables in which the same keys have something: the same keys, rising. -/
theorem keysL_same {l l' : List Pl} (g : OkL l) (g' : OkL l') (h : ∀ k, valL l k = none ↔ valL l' k = none) : keysL l = keysL l' := by
  unfold keysL
  refine mergeSort_of_perm (List.Perm.map _ ?_)
  refine (List.perm_ext_iff_of_nodup (keysT_nodup g) (keysT_nodup g')).2 fun k => ?_
  rw [keysT_mem g, keysT_mem g']
  exact not_congr (h k)
/-- The slice is a table. -/
def Tbl (w : World) (v : Value) (l : List Pl) : Prop := ∃ b off c, v = .slice (some ⟨b, off, none⟩) 128 c ∧ 128 ≤ c ∧ OkL l ∧ Sees w 2 (some ⟨b, off, none⟩) 128 (flat encP l)
theorem Tbl.below {w w' : World} {v : Value} {l : List Pl} (h : Tbl w v l) (hb : Below w.heap.size w w') : Tbl w' v l := by
  obtain ⟨b, off, c, rfl, h1, h2, h3⟩ := h
  exact ⟨b, off, c, rfl, h1, h2, h3.below hb⟩
theorem Tbl.ok {w : World} {v : Value} {l : List Pl} (h : Tbl w v l) : OkL l := by
  obtain ⟨b, off, c, rfl, h1, h2, h3⟩ := h
  exact h2
theorem Tbl.of_own {w : World} {base : Nat} {e : TypeId} {g : Nat} {l : List Pl} (h : w.ownsRow base e 2 (.slice (some ⟨g, 0, none⟩) 128 128) 128 (flat encP l)) (hl : OkL l) : Tbl w (.slice (some ⟨g, 0, none⟩) 128 128) l :=
  ⟨g, 0, 128, rfl, Nat.le_refl _, hl, (own_sees h).1⟩
theorem tnew_t (w : World) : Calls Try.prog 10 #[] w fun e w' => ∃ v, e = .returned v ∧ Tbl w' v (noPl 128) ∧ Below w.heap.size w w' :=
  (tnew_c w).mono (by
    rintro e w' ⟨rfl, ho, hb⟩
    exact ⟨_, rfl, Tbl.of_own ho ok_new, hb⟩)
theorem put_t (v : Value) (l : List Pl) (k : ByteArray) (x : Int) (w : World) (h : Tbl w v l) :
    Calls Try.prog 16 #[v, .string k, .int .i64 x] w fun e w' => ∃ v', e = .returned (.tuple #[v', .int .i64 (putL l k x).2]) ∧ Tbl w' v' (putL l k x).1 ∧ Below w.heap.size w w' := by
  obtain ⟨b, off, c, rfl, h1, h2, h3⟩ := h
  refine (put_c b off c l h2 h1 k x w h3).mono ?_
  rintro e w' ⟨rfl, ho, hb⟩
  exact ⟨_, rfl, Tbl.of_own ho (put_ok h2 k x), hb⟩
/-- What Del tells. -/
def DelP (l : List Pl) (k : ByteArray) (l' : List Pl) (e : Int) : Prop := (valL l k = none ∧ l' = l ∧ e = 120) ∨ (valL l k ≠ none ∧ e = 0 ∧ DelR l k l')
theorem DelP.ok {l : List Pl} (g : OkL l) {k : ByteArray} {l' : List Pl} {e : Int} (h : DelP l k l' e) : OkL l' := by
  rcases h with ⟨_, rfl, _⟩ | ⟨_, _, h⟩
  · exact g
  · exact h.ok
theorem del_t (v : Value) (l : List Pl) (k : ByteArray) (hk : k.size ≤ 100000) (w : World) (h : Tbl w v l) :
    Calls Try.prog 18 #[v, .string k] w fun e w' => ∃ v' l' x, e = .returned (.tuple #[v', .int .i64 x]) ∧ DelP l k l' x ∧ Tbl w' v' l' ∧ Below w.heap.size w w' := by
  obtain ⟨b, off, c, rfl, h1, h2, h3⟩ := h
  cases hz : noneS k with
  | true =>
    obtain rfl := none_string hz
    refine (del_empty b off c l w h3).mono ?_
    rintro e w' ⟨rfl, ho, hb⟩
    exact ⟨_, l, 120, rfl, .inl ⟨val_empty hz, rfl, rfl⟩, Tbl.of_own ho h2, hb⟩
  | false =>
    by_cases hv : valL l k = none
    · refine (del_none b off c l h2 h1 k hk hz hv w h3).mono ?_
      rintro e w' ⟨rfl, ho, hb⟩
      exact ⟨_, l, 120, rfl, .inl ⟨hv, rfl, rfl⟩, Tbl.of_own ho h2, hb⟩
    · refine (del_some b off c l h2 h1 k hk hz hv w h3).mono ?_
      rintro e w' ⟨l', hd, rfl, ho, hb⟩
      exact ⟨_, l', 0, rfl, .inr ⟨hv, rfl, hd⟩, Tbl.of_own ho hd.ok, hb⟩
theorem get_t (v : Value) (l : List Pl) (k : ByteArray) (hk : k.size ≤ 100000) (w : World) (h : Tbl w v l) :
    Calls Try.prog 14 #[v, .string k] w fun e w' => e = .returned (.tuple #[.int .i64 ((valL l k).getD 0), .bool (valL l k).isSome]) ∧ Below w.heap.size w w' := by
  obtain ⟨b, off, c, rfl, h1, h2, h3⟩ := h
  exact get_ok b off c l h2 h1 k hk w h3
theorem check_t (v : Value) (l : List Pl) (w : World) (h : Tbl w v l) :
    Calls Try.prog 15 #[v] w fun e w' => e = .returned (.bool true) ∧ Below w.heap.size w w' := by
  obtain ⟨b, off, c, rfl, h1, h2, h3⟩ := h
  exact check_ok b off c l h2 h1 w h3
theorem keys_t (v : Value) (l : List Pl) (w : World) (h : Tbl w v l) :
    Calls Try.prog 19 #[v] w fun e w' => ∃ A c', e = .returned (.slice A (fullN l) c') ∧ CapOk A (fullN l) c' ∧ Sees w' 1 A (fullN l) ((keysL l).map encStr) ∧ Below w.heap.size w w' := by
  obtain ⟨b, off, c, rfl, h1, h2, h3⟩ := h
  exact keys_c b off c l h2 h1 w h3
set_option maxRecDepth 100000 in
set_option maxHeartbeats 4000000 in
theorem had_c (v : Value) (l : List Pl) (k : ByteArray) (hk : k.size ≤ 100000) (w : World) (h : Tbl w v l) :
    Calls Try.prog 12 #[v, .string k] w fun e w' => e = .returned (.bool (valL l k).isSome) ∧ Below w.heap.size w w' := by
  have G := fun W (h : Tbl W v l) => get_t v l k hk W h
  have HH := Lib.hid h
  clear h
  go_enter Try.func12, Try.ntmps12
  go_wp2_with (go_at_call 14; refine (G _ HH.out).mono ?_; rintro e w1 ⟨rfl, hb1⟩; have HB1 := Lib.hid hb1; clear hb1)
  go_ret
  exact ⟨rfl, HB1.out⟩
/-- A step: is it a deletion, its key, its number. -/
abbrev StT := Bool × ByteArray × Int
def encT (s : StT) : List Value := [.bool s.1, .string s.2.1, .int .i64 s.2.2]
theorem encT_len (s : StT) : (encT s).length = 3 := rfl
/-- What a step leaves. -/
def StepP (l : List Pl) (s : StT) (l' : List Pl) (e : Int) : Prop := (s.1 = true ∧ DelP l s.2.1 l' e) ∨ (s.1 = false ∧ l' = (putL l s.2.1 s.2.2).1 ∧ e = (putL l s.2.1 s.2.2).2)
set_option maxRecDepth 100000 in
set_option maxHeartbeats 4000000 in
theorem do_c (v : Value) (l : List Pl) (d : Bool) (k : ByteArray) (x : Int) (hk : k.size ≤ 100000) (w : World) (h : Tbl w v l) :
    Calls Try.prog 11 #[v, .agg #[.bool d, .string k, .int .i64 x]] w fun e w' => ∃ v' l' y, e = .returned (.tuple #[v', .int .i64 y]) ∧ StepP l (d, k, x) l' y ∧ Tbl w' v' l' ∧ Below w.heap.size w w' := by
  have D := fun W (h : Tbl W v l) => del_t v l k hk W h
  have P := fun W (h : Tbl W v l) => put_t v l k x W h
  have HH := Lib.hid (h.below ((Below.refl w.heap.size w).alloc (Nat.le_refl _) (.cells #[.bool d, .string k, .int .i64 x] 31)))
  clear h
  cases d with
  | true =>
    go_enter Try.func11, Try.ntmps11
    go_wp2_with (go_at_call 18; refine (D _ HH.out).mono ?_; rintro e w1 ⟨v1, l1, x1, rfl, hd, ht, hb1⟩; have HB1 := Lib.hid (chain2 (Below.refl _ _) hb1); have HT := Lib.hid ht; have HD := Lib.hid hd; clear hb1 ht hd)
    go_ret2
    exact ⟨v1, l1, x1, rfl, .inl ⟨rfl, HD.out⟩, HT.out, HB1.out⟩
  | false =>
    go_enter Try.func11, Try.ntmps11
    go_wp2_with (go_at_call 16; refine (P _ HH.out).mono ?_; rintro e w1 ⟨v1, rfl, ht, hb1⟩; have HB1 := Lib.hid (chain2 (Below.refl _ _) hb1); have HT := Lib.hid ht; clear hb1 ht)
    go_ret2
    exact ⟨v1, _, _, rfl, .inr ⟨rfl, rfl, rfl⟩, HT.out, HB1.out⟩
end Go.Proofs.Try
