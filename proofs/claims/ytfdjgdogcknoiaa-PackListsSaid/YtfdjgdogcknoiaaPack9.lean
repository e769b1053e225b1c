/- A slice of texts that came in; linhayref07.Few, Same. -/
import Derived.Test.YtfdjgdogcknoiaaLaw
import Derived.Test.YtfdjgdogcknoiaaPack8
import Derived.SliceStrings
namespace Go.Proofs.Try
open Go.ChangeShapes Go.WideShapes Go.ChangeAt Go.RowKit Go.Joins Go.Deep
set_option linter.unusedVariables false
theorem str_info : (Try.prog.info? 9).map (fun i => (i.zero, i.size, i.bytes)) = some (some (.string ⟨#[]⟩), 1, 16) := by kernel_rfl
/-- The value is a slice of these texts. -/
def Texts (w : World) (v : Value) (ss : List ByteArray) : Prop :=
  ∃ A n c, v = .slice A n c ∧ CapOk A n c ∧ n ≤ maxLen ∧ Sees w 1 A n (ss.map Value.string) ∧ ∀ s ∈ ss, s.size ≤ maxLen
theorem texts_at {w : World} {a : Addr} {zs : List ByteArray} (h : ∀ i, i < zs.length → w.cell? (a.add i) = some (.string (zs.getD i ByteArray.empty))) (hp : 0 < zs.length) :
    ∃ b off, a = ⟨b, off, none⟩ ∧ ∀ j, j < zs.length → w.cell? ⟨b, off + j, none⟩ = some (.string (zs.getD j ByteArray.empty)) := by
  obtain ⟨b, off, spot⟩ := a
  have hspot : spot = none := by simpa [Addr.add] using World.cell?_spot (h 0 hp)
  subst hspot
  exact ⟨b, off, rfl, fun j hj => by rw [← Go.WideShapes.add_plain]; exact h j hj⟩
section
variable {H : Type} {enc : TypeId × Value → H} {P : Program}
theorem open_texts {w : World} {base : Nat} {held : Bool} {r : Reach} {b0 : Nat} {t e : TypeId} {v : Value} {d : DataW H} {p : List MemPlace} (ht : P.underlying t = some (.slice e)) (he : P.underlying e = some .string) (hc : P.cellsOf e = 1)
    (hv : Value.okWide P w r b0 t v) (h : DataW.Trod enc P w base (fun _ => true) held t v d p) : ∃ xs, Texts w v xs := by
  obtain ⟨a0, l0, c0, rfl⟩ := Go.WideShapes.okWide_slice ht hv
  obtain ⟨fuel, hf⟩ := h
  rcases Go.ChangeShapes.open_strings ht he hc hf with ⟨hcs, hx⟩ | ⟨a, len, cap, zs, hcs, _, hle, hmax, hall, hx, hcell, hwf⟩
  · simp [Value.cells] at hcs
    obtain ⟨rfl, rfl, rfl⟩ := hcs
    exact ⟨[], none, 0, 0, rfl, cap_none, Nat.zero_le _, Sees.empty _ _ _, by simp⟩
  · simp [Value.cells] at hcs
    obtain ⟨rfl, rfl, rfl⟩ := hcs
    simp only [if_true] at hall
    by_cases h0 : l0 = 0
    · subst h0
      exact ⟨[], some a, 0, c0, rfl, cap_some (by omega), Nat.zero_le _, Sees.empty _ _ _, by simp⟩
    · obtain ⟨b, off, rfl, hcell2⟩ := texts_at hcell (by omega)
      have hl : (zs.take l0).length = l0 := by rw [List.length_take]; omega
      refine ⟨zs.take l0, some ⟨b, off, none⟩, l0, c0, rfl, cap_some (by omega), by omega, ⟨by rw [List.length_map, hl, Nat.mul_one], .inr ⟨b, off, rfl, ?_, fun j hj => ?_⟩⟩, fun x hx => hwf x (List.mem_of_mem_take hx)⟩
      · exact World.block_lt_of_cell? w _ (hcell2 0 (by omega))
      · have hj' : j < l0 := by rw [List.length_map, hl] at hj; exact hj
        rw [hcell2 j (by omega), List.getElem?_map, List.getElem?_take, if_pos hj', List.getD_eq_getElem?_getD, List.getElem?_eq_getElem (by omega)]
        simp
end
/-- A text, as a cell. -/
def sv (l : List UInt8) : Value := .string (S l)
theorem map_sv (ss : List ByteArray) : ss.map Value.string = (ss.map fun s => s.data.toList).map sv := by
  rw [List.map_map]
  refine List.map_congr_left fun s _ => ?_
  show Value.string s = Value.string (S s.data.toList)
  rw [S_of]
theorem Texts.lists {w : World} {v : Value} {ss : List ByteArray} (h : Texts w v ss) : ∃ (ls : List (List UInt8)) (A : Option Addr) (n c : Nat), v = .slice A n c ∧ CapOk A n c ∧ n ≤ maxLen ∧ Sees w 1 A n (ls.map sv) := by
  obtain ⟨A, n, c, h1, h2, h3, h4, h5⟩ := h
  exact ⟨ss.map fun s => s.data.toList, A, n, c, h1, h2, h3, by rw [← map_sv]; exact h4⟩
theorem Sees.sv {w : World} {n : Nat} {xs : List (List UInt8)} {b off : Nat} (h : Sees w 1 (some ⟨b, off, none⟩) n (xs.map sv)) {j : Nat} (hj : j < n) : w.cell? ⟨b, off + j, none⟩ = some (.string (S (xs.getD j []))) := by
  obtain ⟨u, hu, hc⟩ := h.cell (j := j) (by omega)
  rw [List.getElem?_map] at hu
  rw [hc, List.getD_eq_getElem?_getD]
  cases hx : xs[j]? with
  | none => rw [hx] at hu; cases hu
  | some x => rw [hx] at hu; simp [Go.Proofs.Try.sv] at hu; simp [hu]
theorem take_more {α : Type} (ss : List α) (k : Nat) (d : α) (h : k < ss.length) : ss.take (k + 1) = ss.take k ++ [ss.getD k d] := by
  rw [List.take_add_one, List.getElem?_eq_getElem h, List.getD_eq_getElem?_getD, List.getElem?_eq_getElem h]; rfl
theorem getD_mem {α : Type} (ss : List α) (k : Nat) (d : α) (h : k < ss.length) : ss.getD k d ∈ ss := by
  rw [List.getD_eq_getElem?_getD, List.getElem?_eq_getElem h]; exact List.getElem_mem _

def few (ss : List (List UInt8)) (most : Int) : Bool := (ss.all fun s => decide (s.length ≤ 1000)) && decide ((ss.length : Int) ≤ most)
theorem few_iff (ss : List (List UInt8)) (most : Int) : few ss most = true ↔ (∀ s ∈ ss, s.length ≤ 1000) ∧ (ss.length : Int) ≤ most := by
  unfold few
  rw [Bool.and_eq_true, List.all_eq_true, decide_eq_true_iff]
  exact ⟨fun ⟨h1, h2⟩ => ⟨fun s hs => of_decide_eq_true (h1 s hs), h2⟩, fun ⟨h1, h2⟩ => ⟨fun s hs => decide_eq_true (h1 s hs), h2⟩⟩
set_option maxHeartbeats 400000 in
theorem few_c (A : Option Addr) (n c : Nat) (ss : List (List UInt8)) (most : Int) (w : World) (h : Sees w 1 A n (ss.map sv)) (hn : n ≤ maxLen) :
    Calls Try.prog 10 #[.slice A n c, .int .i64 most] w fun r w' => r = .returned (.bool (few ss most)) ∧ w = w' := by
  have hlen : ss.length = n := by have := h.1; simpa using this
  have HS := Lib.hid h
  clear h
  have hn' : n ≤ 9223372036854775807 := by unfold maxLen at hn; omega
  clear hn
  have HL := Lib.hid hlen
  clear hlen
  go_enter Try.func10, Try.ntmps10
  go_wp2_with fail
  go_loop [5] (fun i => ∃ k : Nat, k ≤ n ∧ i = .int .i64 k ∧ ∀ s ∈ ss.take k, s.length ≤ 1000) (fun i => n - (intOf i).toNat)
  case atStart => exact ⟨0, by omega, rfl, by simp⟩
  case round =>
    obtain ⟨k, hk, rfl, hg⟩ := hrel
    have HG := Lib.hid hg
    clear hg
    by_cases hlt : k < n
    · obtain ⟨b, off, rfl, hbz, hxx⟩ := HS.out.2.resolve_left (by omega)
      have hcell := HS.out.sv hlt
      have hmem := getD_mem ss k [] (by have := HL.out; omega)
      have htk := take_more ss k [] (by have := HL.out; omega)
      clear hxx
      obtain ⟨s, hs⟩ : ∃ s, ss.getD k [] = s := ⟨_, rfl⟩
      rw [hs] at hcell hmem htk
      clear hs
      have HTK := Lib.hid htk
      have HM := Lib.hid hmem
      have hsz := S_size s
      clear htk hmem
      by_cases hss : s.length ≤ 1000
      · have d0 : decide (1000 < ((S s).size : Int)) = false := by simp; omega
        clear hsz
        go_wp2_with fail
        go_round
        case rel =>
          refine ⟨k + 1, by omega, by go_num, ?_⟩
          intro x hx
          rw [HTK.out] at hx
          rcases List.mem_append.1 hx with hx | hx
          · exact HG.out x hx
          · rw [List.mem_singleton] at hx
            subst hx
            exact hss
        case measure => simp [intOf]; omega
      · have d0 : 1000 < ((S s).size : Int) := by omega
        clear hsz
        have e : few ss most = false := by
          cases hf : few ss most
          · rfl
          · exact absurd (((few_iff ss most).1 hf).1 s HM.out) hss
        have HE := Lib.hid e
        clear e
        go_wp2_with fail
        go_ret
        exact ⟨ret_b HE.out.symm, rfl⟩
    · have hke : n = k := by omega
      have e : decide ((n : Int) ≤ most) = few ss most := by
        have hT : ss.take k = ss := by rw [← hke, ← HL.out, List.take_length]
        have hg := HG.out
        rw [hT] at hg
        have := HL.out
        rw [Bool.eq_iff_iff, few_iff, decide_eq_true_iff, this]
        exact ⟨fun h => ⟨hg, h⟩, fun h => h.2⟩
      subst hke
      have HE := Lib.hid e
      clear e
      go_wp2_with fail
      go_ret
      exact ⟨ret_b HE.out, rfl⟩
set_option maxHeartbeats 400000 in
theorem same_t (A B : Option Addr) (n c d : Nat) (xs : List (List UInt8)) (w : World) (hA : Sees w 1 A n (xs.map sv)) (hB : Sees w 1 B n (xs.map sv)) (hn : n ≤ 1000000) :
    Calls Try.prog 17 #[.slice A n c, .slice B n d] w fun r w' => r = .returned (.bool true) ∧ Below w.heap.size w w' := by
  rcases hA.2 with h0 | ⟨b, off, rfl, _, _⟩
  · subst h0
    go_enter Try.func17, Try.ntmps17
    go_wp2_with fail
    go_loop [5] (fun i => i = .int .i64 0) (fun i => 0)
    case atStart => rfl
    case round =>
      subst hrel
      go_wp2_with fail
      go_ret
      exact ⟨rfl, Below.refl _ _⟩
  · rcases hB.2 with h0 | ⟨b', off', rfl, _, _⟩
    · subst h0
      go_enter Try.func17, Try.ntmps17
      go_wp2_with fail
      go_loop [5] (fun i => i = .int .i64 0) (fun i => 0)
      case atStart => rfl
      case round =>
        subst hrel
        go_wp2_with fail
        go_ret
        exact ⟨rfl, Below.refl _ _⟩
    · have HC : Hid (∀ j, j < n → w.cell? ⟨b, off + j, none⟩ = some (.string (S (xs.getD j [])))) := fun j hj => hA.sv hj
      have HD : Hid (∀ j, j < n → w.cell? ⟨b', off' + j, none⟩ = some (.string (S (xs.getD j [])))) := fun j hj => hB.sv hj
      clear hA hB
      go_enter Try.func17, Try.ntmps17
      go_wp2_with fail
      go_loopw [5] (fun i wr => ∃ k m : Nat, k ≤ n ∧ i = .int .i64 k ∧ wr = w.drewN m) (fun i _ => n - (intOf i).toNat)
      case atStart => exact ⟨0, 0, by omega, rfl, rfl⟩
      case round =>
        obtain ⟨k, m, hk, rfl, rfl⟩ := hrel
        by_cases hlt : k < n
        · have hc := HC.out k hlt
          have hd := HD.out k hlt
          obtain ⟨x, hx⟩ : ∃ x : ByteArray, S (xs.getD k []) = x := ⟨_, rfl⟩
          rw [hx] at hc hd
          clear hx
          go_wp2_with fail
          go_quiet (fail)
          go_wp2_with fail
          go_roundw
          case rel => exact ⟨k + 1, _, by omega, by go_num, by first | rfl | (simp; rfl)⟩
          case measure => simp [intOf]; omega
        · go_wp2_with fail
          go_ret
          exact ⟨rfl, Below_drewN (Below.refl _ _) _⟩
end Go.Proofs.Try
