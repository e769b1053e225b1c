/- A slice of texts that came in; linhayref07.Few, linhaylaw09.has. -/
import Derived.Test.YthijffdljoeelaaLaw
import Derived.Test.YthijffdljoeelaaW9
import Derived.SliceStrings
namespace Go.Proofs.Try
open Go.ChangeShapes Go.WideShapes Go.ChangeAt Go.RowKit Go.Joins Go.Deep
set_option linter.unusedVariables false
/-- The value is a slice of these texts. -/
def Texts (w : World) (v : Value) (ss : List ByteArray) : Prop :=
  ∃ A n c, v = .slice A n c ∧ CapOk A n c ∧ n ≤ maxLen ∧ Sees w 1 A n (ss.map Value.string) ∧ ∀ s ∈ ss, s.size ≤ maxLen
theorem texts_at {w : World} {a : Addr} {zs : List ByteArray} (h : ∀ i, i < zs.length → w.cell? (a.add i) = some (.string (zs.getD i ByteArray.empty))) (hp : 0 < zs.length) :
    ∃ b off, a = ⟨b, off, none⟩ ∧ ∀ j, j < zs.length → w.cell? ⟨b, off + j, none⟩ = some (.string (zs.getD j ByteArray.empty)) := by
  obtain ⟨b, off, spot⟩ := a
  have hspot : spot = none := by simpa [Addr.add] using World.cell?_spot (h 0 hp)
  subst hspot
  exact ⟨b, off, rfl, fun j hj => by rw [← Go.WideShapes.add_plain]; exact h j hj⟩
section
variable {H : Type} {enc : TypeId × Value → H} {P : Program}
theorem open_texts {w : World} {base : Nat} {held : Bool} {r : Reach} {b0 : Nat} {t e : TypeId} {v : Value} {d : DataW H} {p : List MemPlace} (ht : P.underlying t = some (.slice e)) (he : P.underlying e = some .string) (hc : P.cellsOf e = 1)
    (hv : Value.okWide P w r b0 t v) (h : DataW.Trod enc P w base (fun _ => true) held t v d p) : ∃ xs, Texts w v xs := by
  obtain ⟨a0, l0, c0, rfl⟩ := Go.WideShapes.okWide_slice ht hv
  obtain ⟨fuel, hf⟩ := h
  rcases Go.ChangeShapes.open_strings ht he hc hf with ⟨hcs, hx⟩ | ⟨a, len, cap, zs, hcs, _, hle, hmax, hall, hx, hcell, hwf⟩
  · simp [Value.cells] at hcs
    obtain ⟨rfl, rfl, rfl⟩ := hcs
    exact ⟨[], none, 0, 0, rfl, cap_none, Nat.zero_le _, Sees.empty _ _ _, by simp⟩
  · simp [Value.cells] at hcs
    obtain ⟨rfl, rfl, rfl⟩ := hcs
    simp only [if_true] at hall
    by_cases h0 : l0 = 0
    · subst h0
      exact ⟨[], some a, 0, c0, rfl, cap_some (by omega), Nat.zero_le _, Sees.empty _ _ _, by simp⟩
    · obtain ⟨b, off, rfl, hcell2⟩ := texts_at hcell (by omega)
      have hl : (zs.take l0).length = l0 := by rw [List.length_take]; omega
      refine ⟨zs.take l0, some ⟨b, off, none⟩, l0, c0, rfl, cap_some (by omega), by omega, ⟨by rw [List.length_map, hl, Nat.mul_one], .inr ⟨b, off, rfl, ?_, fun j hj => ?_⟩⟩, fun x hx => hwf x (List.mem_of_mem_take hx)⟩
      · exact World.block_lt_of_cell? w _ (hcell2 0 (by omega))
      · have hj' : j < l0 := by rw [List.length_map, hl] at hj; exact hj
        rw [hcell2 j (by omega), List.getElem?_map, List.getElem?_take, if_pos hj', List.getD_eq_getElem?_getD, List.getElem?_eq_getElem (by omega)]
        simp
end
theorem Sees.takeT {w : World} {A : Option Addr} {n k : Nat} {xs : List ByteArray} (h : Sees w 1 A n (xs.map Value.string)) (hk : k ≤ n) : Sees w 1 A k ((xs.take k).map Value.string) := by
  have hl : xs.length = n := by have := h.1; simpa using this
  refine ⟨by rw [List.length_map, List.length_take]; omega, ?_⟩
  rcases h.2 with h0 | ⟨b, off, rfl, hb, hc⟩
  · exact .inl (by omega)
  · refine .inr ⟨b, off, rfl, hb, fun j hj => ?_⟩
    rw [List.length_map, List.length_take] at hj
    rw [hc j (by rw [List.length_map]; omega), List.getElem?_map, List.getElem?_map, List.getElem?_take, if_pos (by omega)]

def few (ss : List ByteArray) (most : Int) : Bool := (ss.all fun s => decide (s.size ≤ 1000)) && decide ((ss.length : Int) ≤ most)
theorem few_iff (ss : List ByteArray) (most : Int) : few ss most = true ↔ (∀ s ∈ ss, s.size ≤ 1000) ∧ (ss.length : Int) ≤ most := by
  unfold few
  rw [Bool.and_eq_true, List.all_eq_true, decide_eq_true_iff]
  exact ⟨fun ⟨h1, h2⟩ => ⟨fun s hs => of_decide_eq_true (h1 s hs), h2⟩, fun ⟨h1, h2⟩ => ⟨fun s hs => decide_eq_true (h1 s hs), h2⟩⟩
set_option maxHeartbeats 400000 in
theorem few_c (A : Option Addr) (n c : Nat) (ss : List ByteArray) (most : Int) (w : World) (h : Sees w 1 A n (ss.map Value.string)) (hn : n ≤ maxLen) :
    Calls Try.prog 26 #[.slice A n c, .int .i64 most] w fun r w' => r = .returned (.bool (few ss most)) ∧ w = w' := by
  have hlen : ss.length = n := by have := h.1; simpa using this
  have HS := Lib.hid h
  clear h
  have hn' : n ≤ 9223372036854775807 := by unfold maxLen at hn; omega
  clear hn
  have HL := Lib.hid hlen
  clear hlen
  go_enter Try.func26, Try.ntmps26
  go_wp2_with fail
  go_loop [5] (fun i => ∃ k : Nat, k ≤ n ∧ i = .int .i64 k ∧ ∀ s ∈ ss.take k, s.size ≤ 1000) (fun i => n - (intOf i).toNat)
  case atStart => exact ⟨0, by omega, rfl, by simp⟩
  case round =>
    obtain ⟨k, hk, rfl, hg⟩ := hrel
    have HG := Lib.hid hg
    clear hg
    by_cases hlt : k < n
    · obtain ⟨b, off, rfl, hbz, hxx⟩ := HS.out.2.resolve_left (by omega)
      have hcell := HS.out.text hlt
      have hmem := getD_mem ss k ⟨#[]⟩ (by have := HL.out; omega)
      have htk := take_more ss k ⟨#[]⟩ (by have := HL.out; omega)
      clear hxx
      obtain ⟨s, hs⟩ : ∃ s, ss.getD k ⟨#[]⟩ = s := ⟨_, rfl⟩
      rw [hs] at hcell hmem htk
      clear hs
      have HTK := Lib.hid htk
      have HM := Lib.hid hmem
      clear htk hmem
      by_cases hss : s.size ≤ 1000
      · have d0 : decide (1000 < (s.size : Int)) = false := by simp; omega
        go_wp2_with fail
        go_round
        case rel =>
          refine ⟨k + 1, by omega, by go_num, ?_⟩
          intro x hx
          rw [HTK.out] at hx
          rcases List.mem_append.1 hx with hx | hx
          · exact HG.out x hx
          · rw [List.mem_singleton] at hx
            subst hx
            exact hss
        case measure => simp [intOf]; omega
      · have d0 : 1000 < (s.size : Int) := by omega
        have e : few ss most = false := by
          cases hf : few ss most
          · rfl
          · exact absurd (((few_iff ss most).1 hf).1 s HM.out) hss
        have HE := Lib.hid e
        clear e
        go_wp2_with fail
        go_ret
        exact ⟨ret_b HE.out.symm, rfl⟩
    · have hke : n = k := by omega
      have e : decide ((n : Int) ≤ most) = few ss most := by
        have hT : ss.take k = ss := by rw [← hke, ← HL.out, List.take_length]
        have hg := HG.out
        rw [hT] at hg
        have := HL.out
        rw [Bool.eq_iff_iff, few_iff, decide_eq_true_iff, this]
        exact ⟨fun h => ⟨hg, h⟩, fun h => h.2⟩
      subst hke
      have HE := Lib.hid e
      clear e
      go_wp2_with fail
      go_ret
      exact ⟨ret_b HE.out, rfl⟩

def hasB (ss : List ByteArray) (s : ByteArray) : Bool := ss.any fun t => t.toList == s.toList
theorem toList_ext (a b : ByteArray) (h : a.toList = b.toList) : a = b := bytes_ext a b (by rw [← ByteArray.toList_eq, ← ByteArray.toList_eq]; exact h)
theorem hasB_iff (ss : List ByteArray) (s : ByteArray) : hasB ss s = true ↔ s ∈ ss := by
  unfold hasB
  rw [List.any_eq_true]
  constructor
  · rintro ⟨t, ht, he⟩
    rw [← toList_ext t s (by simpa using he)]
    exact ht
  · exact fun h => ⟨s, h, by simp⟩
set_option maxHeartbeats 400000 in
theorem has_c (A : Option Addr) (n c : Nat) (ss : List ByteArray) (s : ByteArray) (w : World) (h : Sees w 1 A n (ss.map Value.string)) (hn : n ≤ 1000000) :
    Calls Try.prog 36 #[.slice A n c, .string s] w fun r w' => r = .returned (.bool (hasB ss s)) ∧ w = w' := by
  have HL := Lib.hid (show ss.length = n by have := h.1; simpa using this)
  have HS := Lib.hid h
  clear h
  go_enter Try.func36, Try.ntmps36
  go_wp2_with fail
  go_loop [5] (fun i => ∃ k : Nat, k ≤ n ∧ i = .int .i64 k ∧ ¬ s ∈ ss.take k) (fun i => n - (intOf i).toNat)
  case atStart => exact ⟨0, by omega, rfl, by simp⟩
  case round =>
    obtain ⟨k, hk, rfl, hg⟩ := hrel
    have HG := Lib.hid hg
    clear hg
    by_cases hlt : k < n
    · obtain ⟨b, off, rfl, hbz, hxx⟩ := HS.out.2.resolve_left (by omega)
      have hcell := HS.out.text hlt
      have hmem := getD_mem ss k ⟨#[]⟩ (by have := HL.out; omega)
      have htk := take_more ss k ⟨#[]⟩ (by have := HL.out; omega)
      clear hxx
      obtain ⟨t, hs⟩ : ∃ t, ss.getD k ⟨#[]⟩ = t := ⟨_, rfl⟩
      rw [hs] at hcell hmem htk
      clear hs
      have HTK := Lib.hid htk
      have HM := Lib.hid hmem
      clear htk hmem
      by_cases hss : t = s
      · subst hss
        have e : hasB ss t = true := (hasB_iff _ _).2 HM.out
        have HE := Lib.hid e
        clear e
        go_wp2_with fail
        go_ret
        exact ⟨ret_b HE.out.symm, rfl⟩
      · have d0 : (t.toList == s.toList) = false := by
          rw [beq_eq_false_iff_ne]
          exact fun h => hss (toList_ext t s h)
        go_wp2_with fail
        go_round
        case rel =>
          refine ⟨k + 1, by omega, by go_num, ?_⟩
          intro hx
          rw [HTK.out] at hx
          rcases List.mem_append.1 hx with hx | hx
          · exact HG.out hx
          · rw [List.mem_singleton] at hx
            exact hss hx.symm
        case measure => simp [intOf]; omega
    · have hke : n = k := by omega
      have e : hasB ss s = false := by
        have hT : ss.take k = ss := by rw [← hke, ← HL.out, List.take_length]
        have hg := HG.out
        rw [hT] at hg
        cases hf : hasB ss s
        · rfl
        · exact absurd ((hasB_iff _ _).1 hf) hg
      have HE := Lib.hid e
      clear e
      subst hke
      go_wp2_with fail
      go_ret
      exact ⟨ret_b HE.out.symm, rfl⟩
end Go.Proofs.Try
