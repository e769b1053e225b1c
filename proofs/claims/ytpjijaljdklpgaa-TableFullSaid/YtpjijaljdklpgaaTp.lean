/- Steps that are few; tables compared; awake (stage 13). -/
import Derived.Test.YtpjijaljdklpgaaTo
import Derived.LoopN
import Derived.WalkMore
namespace Go.Proofs.Try
open Go.RowKit Go.Maps Go.Sort
set_option linter.unusedVariables false
set_option linter.unusedSimpArgs false
theorem wrap_big (k : Nat) (h : k < 9223372036854775807) : wrap64 ((k : Int) + 1) = (k : Int) + 1 := by unfold wrap64; omega
def atT (l : List StT) (j : Nat) : StT := l.getD j (false, ⟨#[]⟩, 0)
theorem atT_some {l : List StT} {j : Nat} (h : j < l.length) : l[j]? = some (atT l j) := by
  unfold atT
  rw [List.getD_eq_getElem?_getD, List.getElem?_eq_getElem h]; rfl
theorem steps_at {n : Nat} {steps : List StT} {w wr : World} {A : Option Addr} {k : Nat} (hs : Sees w 3 A n (flat encT steps)) (hb : Below w.heap.size w wr) (hlt : k < n) :
    ∃ (bA oA : Nat) (d : Bool) (s : ByteArray) (x : Int), A = some ⟨bA, oA, none⟩ ∧ wr.cell? ⟨bA, oA + k * 3, none⟩ = some (.bool d) ∧ wr.cell? ⟨bA, oA + k * 3 + 1, none⟩ = some (.string s) ∧ wr.cell? ⟨bA, oA + k * 3 + 2, none⟩ = some (.int .i64 x) ∧ bA < wr.heap.size ∧ atT steps k = (d, s, x) := by
  have h := hs.below hb
  have hl := h.elen encT_len (by omega)
  rcases h.2 with h0 | ⟨bA, oA, rfl, hbA, _⟩
  · omega
  · have hx := atT_some (l := steps) (j := k) (by omega)
    have h0 := h.el encT_len hx (i := 0) rfl
    have h1 := h.el encT_len hx (i := 1) rfl
    have h2 := h.el encT_len hx (i := 2) rfl
    rw [Nat.add_zero] at h0
    exact ⟨bA, oA, _, _, _, rfl, h0, h1, h2, hbA, rfl⟩
def fewT (l : List StT) : Bool := l.all fun s => decide (s.2.1.size ≤ 100)
theorem few_at {l : List StT} (h : fewT l = true) {k : Nat} (hk : k < l.length) : (atT l k).2.1.size ≤ 100 := by
  have := List.all_eq_true.1 h _ (List.mem_of_getElem? (atT_some hk))
  exact of_decide_eq_true this
theorem few_no {l : List StT} {k : Nat} (hk : k < l.length) (h : 100 < (atT l k).2.1.size) : fewT l = false := by
  cases hf : fewT l with
  | false => rfl
  | true => have := few_at hf hk; omega
theorem few_yes {l : List StT} (h : ∀ k, k < l.length → (atT l k).2.1.size ≤ 100) : fewT l = true := by
  unfold fewT
  rw [List.all_eq_true]
  intro x hx
  obtain ⟨i, hi, rfl⟩ := List.getElem_of_mem hx
  have := h i hi
  unfold atT at this
  rw [List.getD_eq_getElem?_getD, List.getElem?_eq_getElem hi] at this
  exact decide_eq_true this
set_option maxRecDepth 100000 in
set_option maxHeartbeats 4000000 in
theorem few_c (A : Option Addr) (n c : Nat) (l : List StT) (m : Nat) (hn : n ≤ maxLen) (hm : m ≤ 100000) (w : World) (h : Sees w 3 A n (flat encT l)) (hl : l.length = n) :
    Calls Try.prog 9 #[.slice A n c, .int .i64 (m : Int)] w fun e w' => e = .returned (.bool (fewT l && decide (n ≤ m))) ∧ Below w.heap.size w w' := by
  have HH := Lib.hid h
  have HL := Lib.hid hl
  unfold maxLen at hn
  clear h hl
  go_enter Try.func9, Try.ntmps9
  go_wp2_with fail
  go_loopw [5] (fun i wr => ∃ k : Nat, k ≤ n ∧ i = .int .i64 k ∧ Hid (∀ j, j < k → (atT l j).2.1.size ≤ 100) ∧ Hid (Below w.heap.size w wr)) (fun i _ => n - (intOf i).toNat)
  case atStart => exact ⟨0, by omega, rfl, Lib.hid (fun j hj => by omega), Lib.hid (Below.refl _ _)⟩
  case round =>
    obtain ⟨k, hk, rfl, HF, HB⟩ := hrel
    by_cases hlt : k < n
    · have hlt' : (k : Int) < (n : Int) := by omega
      obtain ⟨bA, oA, d, s, x, rfl, c0, c1, c2, hbA, hat⟩ := steps_at HH.out HB.out hlt
      have HAT := Lib.hid hat
      clear hat
      by_cases hs : s.size ≤ 100
      · have hs1 : decide (100 < (s.size : Int)) = false := by simp; omega
        have hs2 : decide (100 < s.size) = false := by simp; omega
        have hs3 : ¬((100 : Int) < (s.size : Int)) := by omega
        have HS := Lib.hid hs
        clear hs
        go_wp2_with fail
        have HW := Lib.hid (wrap_big k (by omega))
        refine ⟨⟨k + 1, by omega, by first | rfl | (rw [HW.out]; rfl), Lib.hid (fun j hj => ?_), HB⟩, by first | (simp [intOf]; done) | (simp [intOf]; omega) | (rw [HW.out]; simp [intOf]; omega)⟩
        by_cases e : j = k
        · subst e; rw [HAT.out]; exact HS.out
        · exact HF.out j (by omega)
      · have hs1 : decide (100 < (s.size : Int)) = true := by simp; omega
        have hs2 : decide (100 < s.size) = true := by simp; omega
        have hs3 : (100 : Int) < (s.size : Int) := by omega
        have HNO := Lib.hid (few_no (l := l) (k := k) (by rw [HL.out]; exact hlt) (by rw [HAT.out]; show 100 < s.size; omega))
        clear hs
        go_wp2_with fail
        go_ret
        rw [HNO.out]
        exact ⟨rfl, HB.out⟩
    · have hke : k = n := by omega
      subst hke
      have HY := Lib.hid (few_yes (l := l) (fun j hj => HF.out j (by rw [← HL.out]; exact hj)))
      go_wp2_with fail
      go_ret
      rw [HY.out]
      exact ⟨by first | rfl | (simp; done), HB.out⟩
set_option maxRecDepth 100000 in
set_option maxHeartbeats 4000000 in
theorem sameT_c (v1 v2 : Value) (l : List Pl) (w : World) (h1 : Tbl w v1 l) (h2 : Tbl w v2 l) :
    Calls Try.prog 17 #[v1, v2] w fun e w' => e = .returned (.bool true) ∧ Below w.heap.size w w' := by
  obtain ⟨b, off, c, rfl, _, g, hs1⟩ := h1
  obtain ⟨b', off', c', rfl, _, _, hs2⟩ := h2
  have HL := Lib.hid g.len
  have HS1 := Lib.hid hs1
  have HS2 := Lib.hid hs2
  clear hs1 hs2 g
  go_enter Try.func17, Try.ntmps17
  go_wp2_with fail
  go_loopw [5] (fun i wr => ∃ k : Nat, k ≤ 128 ∧ i = .int .i64 k ∧ Hid (Below w.heap.size w wr)) (fun i _ => 128 - (intOf i).toNat)
  case atStart => exact ⟨0, by omega, rfl, Lib.hid (Below.refl _ _)⟩
  case round =>
    obtain ⟨k, hk, rfl, HB⟩ := hrel
    by_cases hlt : k < 128
    · have hlt' : (k : Int) < 128 := by omega
      have hs1 := HS1.out.below HB.out
      have hs2 := HS2.out.below HB.out
      obtain ⟨c0, c1⟩ := place_cells hs1 (j := k) (by rw [HL.out]; exact hlt)
      obtain ⟨d0, d1⟩ := place_cells hs2 (j := k) (by rw [HL.out]; exact hlt)
      obtain ⟨⟨s, x⟩, hp⟩ : ∃ p, atP l k = p := ⟨_, rfl⟩
      rw [hp] at c0 c1 d0 d1
      dsimp only at c0 c1 d0 d1
      clear hs1 hs2 hp
      go_wp2_with fail
      go_region
      go_wp2_with fail
      refine ⟨⟨k + 1, by omega, by first | rfl | (rw [wrap_suc k (by omega)]; rfl), Lib.hid (by have := HB.out; (repeat' (first | (with_reducible exact Below.refl _ _) | (with_reducible assumption) | (with_reducible refine Below.alloc ?_ ?_ _) | (with_reducible refine Below.drew ?_) | (with_reducible refine Below_drewN ?_ _) | (with_reducible refine Below.setCell ?_ ?_ _) | (refine Below.step (B' := ?_) (b := ?_) ?_ ?_ ?_; rotate_left 2; (with_reducible assumption)) | go_size)))⟩, by first | (simp [intOf]; done) | (simp [intOf]; omega) | (rw [wrap_suc k (by omega)]; simp [intOf]; omega)⟩
    · have hke : k = 128 := by omega
      subst hke
      go_wp2_with fail
      go_ret
      exact ⟨rfl, HB.out⟩
theorem Sees.encK {w : World} {n : Nat} {xs : List (List UInt8)} {b off : Nat} (h : Sees w 1 (some ⟨b, off, none⟩) n (xs.map encStr)) {j : Nat} (hj : j < n) : w.cell? ⟨b, off + j, none⟩ = some (.string ⟨(xs.getD j []).toArray⟩) := by
  obtain ⟨u, hu, hc⟩ := h.cell (j := j) (by omega)
  rw [List.getElem?_map] at hu
  rw [hc, List.getD_eq_getElem?_getD]
  cases hx : xs[j]? with
  | none => rw [hx] at hu; cases hu
  | some x => rw [hx] at hu; simp [encStr] at hu; simp [hu]
set_option maxHeartbeats 400000 in
theorem same7k (A B : Option Addr) (n c d : Nat) (xs : List (List UInt8)) (w : World) (hA : Sees w 1 A n (xs.map encStr)) (hB : Sees w 1 B n (xs.map encStr)) (hn : n ≤ 1000000) :
    Calls Try.prog 20 #[.slice A n c, .slice B n d] w fun r w' => r = .returned (.bool true) ∧ Below w.heap.size w w' := by
  rcases hA.2 with h0 | ⟨b, off, rfl, _, _⟩
  · subst h0
    go_enter Try.func20, Try.ntmps20
    go_wp2_with fail
    go_loop [5] (fun i => i = .int .i64 0) (fun i => 0)
    case atStart => rfl
    case round =>
      subst hrel
      go_wp2_with fail
      go_ret
      exact ⟨rfl, Below.refl _ _⟩
  · rcases hB.2 with h0 | ⟨b', off', rfl, _, _⟩
    · subst h0
      go_enter Try.func20, Try.ntmps20
      go_wp2_with fail
      go_loop [5] (fun i => i = .int .i64 0) (fun i => 0)
      case atStart => rfl
      case round =>
        subst hrel
        go_wp2_with fail
        go_ret
        exact ⟨rfl, Below.refl _ _⟩
    · have HC : Hid (∀ j, j < n → w.cell? ⟨b, off + j, none⟩ = some (.string ⟨(xs.getD j []).toArray⟩)) := fun j hj => hA.encK hj
      have HD : Hid (∀ j, j < n → w.cell? ⟨b', off' + j, none⟩ = some (.string ⟨(xs.getD j []).toArray⟩)) := fun j hj => hB.encK hj
      clear hA hB
      go_enter Try.func20, Try.ntmps20
      go_wp2_with fail
      go_loopw [5] (fun i wr => ∃ k m : Nat, k ≤ n ∧ i = .int .i64 k ∧ wr = w.drewN m) (fun i _ => n - (intOf i).toNat)
      case atStart => exact ⟨0, 0, by omega, rfl, rfl⟩
      case round =>
        obtain ⟨k, m, hk, rfl, rfl⟩ := hrel
        by_cases hlt : k < n
        · have hc := HC.out k hlt
          have hd := HD.out k hlt
          obtain ⟨x, hx⟩ : ∃ x : ByteArray, ⟨(xs.getD k []).toArray⟩ = x := ⟨_, rfl⟩
          rw [hx] at hc hd
          clear hx
          go_wp2_with fail
          go_quiet (fail)
          go_wp2_with fail
          go_roundw
          case rel => exact ⟨k + 1, _, by omega, by go_num, by first | rfl | (simp; rfl)⟩
          case measure => simp [intOf]; omega
        · go_wp2_with fail
          go_ret
          exact ⟨rfl, Below_drewN (Below.refl _ _) _⟩

end Go.Proofs.Try
