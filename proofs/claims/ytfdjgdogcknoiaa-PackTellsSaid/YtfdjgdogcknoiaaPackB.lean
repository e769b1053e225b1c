/- pack.Texts, linhayref07.Texts. -/
import Derived.Test.YtfdjgdogcknoiaaPackA
import Derived.Test.YtfdjgdogcknoiaaPack9
import Derived.Test.YtfdjgdogcknoiaaBuild
import Derived.Test.YtfdjgdogcknoiaaShelf
namespace Go.Proofs.Try
open Go.RowKit
set_option linter.unusedVariables false
set_option linter.unusedSimpArgs false

theorem ownsRow_later {w w' : World} {base : Nat} {e : TypeId} {size : Nat} {v : Value} {n : Nat} {xs : List Value} (h : w.ownsRow base e size v n xs) (hb : Below w.heap.size w w') : w'.ownsRow base e size v n xs :=
  h.kept (row := none) ⟨hb.os, hb.tape, hb.output, hb.size, fun k hk _ => hb.block k hk⟩ (by cases hv : v.ownBlock <;> simp)
theorem BuilderAt_later {T e : TypeId} {B b : Nat} {p : Value} {bs : List Value} {w w' : World} (h : Lib.BuilderAt T e B b p bs w) (hb : Below w.heap.size w w') : Lib.BuilderAt T e B b p bs w' := by
  have hlt := h.lt
  obtain ⟨hB, v, hv, hown, hne⟩ := h
  exact ⟨hB, v, (hb.block b hlt).trans hv, ownsRow_later hown hb, hne⟩
theorem IsBuilder_later {T e : TypeId} {B b : Nat} {bs : List Value} {w w' : World} (h : Lib.IsBuilder T e B b bs w) (hb : Below w.heap.size w w') : Lib.IsBuilder T e B b bs w' := by
  rcases h with h | h
  · exact .inl (BuilderAt_later h hb)
  · exact .inr (BuilderAt_later h hb)
theorem listB_split (ts : List (List UInt8)) (k : Nat) : (listB (ts.take k)).length + (listB (ts.drop k)).length = (listB ts).length := by
  rw [← List.length_append, ← listB_app, List.take_append_drop]
theorem listB_get (ts : List (List UInt8)) (k : Nat) (h : k < ts.length) : (ts.getD k []).length ≤ (listB ts).length := by
  have h1 := listB_split ts (k + 1)
  rw [textsB_snoc ts k h, List.length_append] at h1
  unfold textB at h1
  rw [List.length_append] at h1
  omega
/-- The bytes of a list, up to its first j texts. -/
def pre (bs : List UInt8) (n : Nat) (ts : List (List UInt8)) (j : Nat) : List UInt8 := bs ++ oneB n ++ listB (ts.take j)
theorem pre_zero (bs : List UInt8) (n : Nat) (ts : List (List UInt8)) : pre bs n ts 0 = bs ++ oneB n := by simp [pre, listB]
theorem pre_len (bs : List UInt8) (n : Nat) (ts : List (List UInt8)) (j : Nat) : (pre bs n ts j).length = bs.length + (oneB n).length + (listB (ts.take j)).length := by
  unfold pre; simp only [List.length_append]
theorem pre_snoc (bs : List UInt8) (n : Nat) (ts : List (List UInt8)) (j : Nat) (h : j < ts.length) : pre bs n ts j ++ textB (ts.getD j []) = pre bs n ts (j + 1) := by
  unfold pre; rw [textsB_snoc ts j h, List.append_assoc]
theorem pre_all (bs : List UInt8) (ts : List (List UInt8)) (n : Nat) (h : ts.length = n) : pre bs n ts n = bs ++ textsB ts := by
  unfold pre textsB; rw [← h, List.take_length, List.append_assoc]
theorem strCells_S (l : List UInt8) : Lib.strCells (S l) = Lib.byteCells l := by rw [Lib.strCells_eq, S_list]
set_option maxRecDepth 100000 in
set_option maxHeartbeats 2000000 in
theorem ptexts_c (A : Option Addr) (n c : Nat) (bs : List UInt8) (ts : List (List UInt8)) (w : World) (h : Sees w 1 A n (ts.map sv)) (hn : n ≤ 10000) (hb : bs.length ≤ 100000) (hts : (listB ts).length ≤ 200000) :
    Calls Try.prog 22 #[.string (S bs), .slice A n c] w fun r w' => r = .returned (.string (S (bs ++ textsB ts))) ∧ Below w.heap.size w w' := by
  have HL := Lib.hid (show ts.length = n by have := h.1; simpa using this)
  have HS := Lib.hid h
  have HT := Lib.hid hts
  have h10 := sizeB_10 n (by omega)
  unfold sizeB at h10
  have hnil : S [] = ⟨#[]⟩ := rfl
  clear h hts
  go_enter Try.func22, Try.ntmps22
  go_wp2_with fail
  have HP := pput_c (some ⟨(w.alloc (.cells #[.pointer none, .slice none 0 0] 55)).heap.size, 0, none⟩) 1 1 bs [(n : Int)] _ (Sees.one (w.alloc (.cells #[.pointer none, .slice none 0 0] 55)) (.int .u64 (n : Int)) 24) (by intro x hx; rw [List.mem_singleton] at hx; subst hx; omega) (by omega) (by omega)
  rw [putB_one] at HP
  simp only [World.size_alloc] at HP
  with_reducible refine HP.mono ?_
  rintro e w1 ⟨rfl, hb1⟩
  have hI1 := IsBuilder_later (IsBuilder_later (Lib.fresh_isBuilder 55 5 w) ((Below.refl _ _).alloc (Nat.le_refl _) (.cells #[.int .u64 (n : Int)] 24))) (hb1.mono (by simp))
  have hz1 := hb1.size
  simp only [World.size_alloc] at hz1
  have hB1 : Below w.heap.size w w1 := (((Below.refl _ _).alloc (Nat.le_refl _) _).alloc (by simp) _).trans (hb1.mono (by omega))
  have HI1 := Lib.hid hI1
  have hsz := S_size (bs ++ oneB n)
  rw [List.length_append] at hsz
  have HW := Lib.hid (bwrite_c w.heap.size w.heap.size [] (S (bs ++ oneB n)) w1 hI1 (by rw [List.length_nil]; omega) (by omega))
  clear HP hI1 hsz
  go_wp2_with fail
  with_reducible refine (HW.out).mono ?_
  rintro e w2 ⟨rfl, hI2, hb2⟩
  rw [List.nil_append, strCells_S] at hI2
  have HI2 := Lib.hid hI2
  have HB2 := Lib.hid (hB1.trans hb2)
  clear hI2 HW HI1 hB1 hb1
  go_wp2_with fail
  go_loopw [17] (fun i wr => ∃ j : Nat, j ≤ n ∧ i = .int .i64 j ∧ Lib.BuilderAt 55 5 w.heap.size w.heap.size (.pointer (some ⟨w.heap.size, 0, none⟩)) (Lib.byteCells (pre bs n ts j)) wr ∧ Below w.heap.size w wr) (fun i _ => n - (intOf i).toNat)
  case atStart => exact ⟨0, by omega, rfl, by rw [pre_zero]; exact HI2.out, HB2.out⟩
  case round =>
    obtain ⟨j, hj, rfl, hI, hbw⟩ := hrel
    have HI := Lib.hid hI
    have HB := Lib.hid hbw
    have hzz := hbw.size
    clear hI hbw
    by_cases hlt : j < n
    · have hsw := HS.out.below HB.out
      obtain ⟨b, off, rfl, hbz, hxx⟩ := hsw.2.resolve_left (by omega)
      have hcell := hsw.sv hlt
      have hsp := listB_split ts j
      have hg := listB_get ts j (by have := HL.out; omega)
      have htl := HT.out
      have hpl := pre_len bs n ts j
      obtain ⟨t, ht⟩ : ∃ t, ts.getD j [] = t := ⟨_, rfl⟩
      rw [ht] at hcell hg
      have HC := ptext_c [] t (by simp) (by omega)
      rw [List.nil_append, hnil] at HC
      have hst := S_size (textB t)
      have hlen : (textB t).length ≤ 300000 := by
        have := sizeB_10 t.length (by omega)
        unfold sizeB at this
        unfold textB
        rw [List.length_append]
        omega
      have HP := Lib.hid (show pre bs n ts j ++ textB t = pre bs n ts (j + 1) by rw [← ht]; exact pre_snoc bs n ts j (by have := HL.out; omega))
      have HW : Hid (∀ W, Below wr.heap.size wr W → Calls Try.prog 31 #[.pointer (some ⟨w.heap.size, 0, none⟩), .string (S (textB t))] W fun e w' => e = .returned (.tuple #[.int .i64 (S (textB t)).size, .nilIface]) ∧ (Lib.BuilderAt 55 5 w.heap.size w.heap.size (.pointer (some ⟨w.heap.size, 0, none⟩)) (Lib.byteCells (pre bs n ts (j + 1))) w' ∧ Below w.heap.size W w')) := Lib.hid fun W hW => by
        have := bwrite_c w.heap.size w.heap.size _ (S (textB t)) W (.inr (BuilderAt_later HI.out hW)) (by rw [Lib.byteCells_length, hst]; omega) (Nat.le_trans hzz hW.size)
        rw [strCells_S, ← Lib.byteCells_append, HP.out] at this
        exact this
      clear hxx hsw hsp hpl hg htl ht hst hlen
      go_wp2_with fail
      with_reducible refine (HC _).mono ?_
      rintro e w5 ⟨rfl, hb5⟩
      go_wp2_with fail
      with_reducible refine (HW.out _ hb5).mono ?_
      rintro e w6 ⟨rfl, hI6, hb6⟩
      have HI6 := Lib.hid hI6
      clear hI6
      go_wp2_with fail
      go_roundw
      case rel => exact ⟨j + 1, by omega, by go_num, HI6.out, (HB.out.trans (hb5.mono hzz)).trans hb6⟩
      case measure => simp [intOf]; omega
    · have hke : j = n := by omega
      have e0 : decide ((j : Int) < (n : Int)) = false := by simp; omega
      have HE := Lib.hid (show pre bs n ts j = bs ++ textsB ts by rw [hke]; exact pre_all bs ts n HL.out)
      have HX := Builder_String_any w.heap.size w.heap.size (bs ++ textsB ts) wr (.inr (by rw [← HE.out]; exact HI.out)) hzz
      go_wp2_with fail
      with_reducible refine HX.mono ?_
      rintro e w5 ⟨rfl, hb5⟩
      go_wp2_with fail
      go_ret
      exact ⟨rfl, HB.out.trans hb5⟩
set_option maxRecDepth 100000 in
set_option maxHeartbeats 2000000 in
theorem rtexts_c (A : Option Addr) (n c : Nat) (bs : List UInt8) (ts : List (List UInt8)) (w : World) (h : Sees w 1 A n (ts.map sv)) (hn : n ≤ 10000) (hb : bs.length ≤ 100000) (hts : (listB ts).length ≤ 200000) :
    Calls Try.prog 23 #[.string (S bs), .slice A n c] w fun r w' => r = .returned (.string (S (bs ++ textsB ts))) ∧ Below w.heap.size w w' := by
  have HL := Lib.hid (show ts.length = n by have := h.1; simpa using this)
  have HS := Lib.hid h
  have HT := Lib.hid hts
  have h10 := sizeB_10 n (by omega)
  unfold sizeB at h10
  clear h hts
  have HO := one_c n (by omega)
  have hadd := fun W => add_S bs (oneB n) (by unfold maxLen; omega) W
  go_enter Try.func23, Try.ntmps23
  go_wp2_with fail
  with_reducible refine (HO _).mono ?_
  rintro e w1 ⟨rfl, hb1⟩
  go_wp2_with fail
  clear hadd HO
  go_loopw [0, 5] (fun x i wr => ∃ j : Nat, j ≤ n ∧ i = .int .i64 j ∧ x = .string (S (pre bs n ts j)) ∧ Below w.heap.size w wr) (fun _ i _ => n - (intOf i).toNat)
  case atStart => exact ⟨0, by omega, rfl, by rw [pre_zero], hb1⟩
  case round =>
    obtain ⟨j, hj, rfl, rfl, hbw⟩ := hrel
    have HB := Lib.hid hbw
    have hzz := hbw.size
    clear hbw
    by_cases hlt : j < n
    · have hsw := HS.out.below HB.out
      obtain ⟨b, off, rfl, hbz, hxx⟩ := hsw.2.resolve_left (by omega)
      have hcell := hsw.sv hlt
      have hsp := listB_split ts j
      have hg := listB_get ts j (by have := HL.out; omega)
      have htl := HT.out
      have hpl := pre_len bs n ts j
      obtain ⟨t, ht⟩ : ∃ t, ts.getD j [] = t := ⟨_, rfl⟩
      rw [ht] at hcell hg
      have HC := rtext_c (pre bs n ts j) t (by omega) (by omega)
      rw [show pre bs n ts j ++ textB t = pre bs n ts (j + 1) by rw [← ht]; exact pre_snoc bs n ts j (by have := HL.out; omega)] at HC
      clear hxx hsw hsp hpl hg htl ht
      go_wp2_with fail
      with_reducible refine (HC _).mono ?_
      rintro e w5 ⟨rfl, hb5⟩
      go_wp2_with fail
      go_roundw
      case rel => exact ⟨j + 1, by omega, by go_num, rfl, HB.out.trans (hb5.mono hzz)⟩
      case measure => simp [intOf]; omega
    · have hke : j = n := by omega
      have e0 : decide ((j : Int) < (n : Int)) = false := by simp; omega
      have HE := Lib.hid (show pre bs n ts j = bs ++ textsB ts by rw [hke]; exact pre_all bs ts n HL.out)
      go_wp2_with fail
      go_ret
      refine ⟨?_, HB.out⟩
      show Ending.returned (.string (S (pre bs n ts j))) = _
      rw [HE.out]
end Go.Proofs.Try
