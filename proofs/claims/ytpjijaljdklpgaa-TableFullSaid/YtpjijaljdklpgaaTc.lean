/- table: full, find (stage 13). -/
import Derived.Test.YtpjijaljdklpgaaTbB
import Derived.Test.YtpjijaljdklpgaaRw
import Derived.Test.YtpjijaljdklpgaaQT
import Derived.Test.YtpjijaljdklpgaaThing
import Derived.LoopN
namespace Go.Proofs.Try
open Go.RowKit
set_option linter.unusedVariables false
set_option linter.unusedSimpArgs false
/-- A place: its key (none: empty), its number. -/
abbrev Pl := ByteArray × Int
def encP (p : Pl) : List Value := [.string p.1, .int .i64 p.2]
theorem encP_len (p : Pl) : (encP p).length = 2 := rfl
theorem encP_one (p : Pl) : ∀ u ∈ encP p, u.oneCell' = true := by
  intro u hu
  simp [encP] at hu
  rcases hu with rfl | rfl <;> rfl
def atP (l : List Pl) (k : Nat) : Pl := l.getD k (⟨#[]⟩, 0)
theorem place_cells {w : World} {n b off : Nat} {l : List Pl} (h : Sees w 2 (some ⟨b, off, none⟩) n (flat encP l)) {j : Nat} (hj : j < l.length) : w.cell? ⟨b, off + j * 2, none⟩ = some (.string (atP l j).1) ∧ w.cell? ⟨b, off + j * 2 + 1, none⟩ = some (.int .i64 (atP l j).2) := by
  have hx : l[j]? = some (atP l j) := by simp [atP, List.getD_eq_getElem?_getD, List.getElem?_eq_getElem hj]
  exact ⟨h.el encP_len hx (i := 0) rfl, h.el encP_len hx (i := 1) rfl⟩
/-- Is a text none? -/
def noneS (s : ByteArray) : Bool := s.toList == []
/-- How many places are not empty. -/
def fullN (l : List Pl) : Nat := l.countP fun p => !noneS p.1
theorem takeP_one {l : List Pl} {k : Nat} (hk : k < l.length) : l.take (k + 1) = l.take k ++ [atP l k] := by
  rw [List.take_add_one, List.getElem?_eq_getElem hk]
  simp [atP, List.getD_eq_getElem?_getD, List.getElem?_eq_getElem hk]
theorem full_one {l : List Pl} {k : Nat} (hk : k < l.length) : fullN (l.take (k + 1)) = fullN (l.take k) + (if noneS (atP l k).1 then 0 else 1) := by
  rw [takeP_one hk]
  unfold fullN
  rw [List.countP_append]
  cases h : noneS (atP l k).1 <;> simp [h]
theorem full_le (l : List Pl) : fullN l ≤ l.length := List.countP_le_length
theorem wrap_suc (k : Nat) (h : k ≤ 100000) : wrap64 ((k : Int) + 1) = (k : Int) + 1 := by unfold wrap64; omega
set_option maxRecDepth 100000 in
set_option maxHeartbeats 4000000 in
theorem full_c (v : Value) (n : Nat) (l : List Pl) (w : World) (h : Rows encP 2 w v n l) :
    Calls Try.prog 22 #[v] w fun e w' => e = .returned (.int .i64 (fullN l : Int)) ∧ Below w.heap.size w w' := by
  obtain ⟨A, c, rfl, hc, hn, hl, hs⟩ := h
  have HL := Lib.hid hl
  have HH := Lib.hid hs
  have HN := Lib.hid hn
  clear hl hs hc hn
  go_enter Try.func22, Try.ntmps22
  go_wp2_with fail
  go_loopw [3, 8] (fun u i wr => ∃ k : Nat, k ≤ n ∧ i = .int .i64 k ∧ u = .int .i64 (fullN (l.take k) : Int) ∧ Hid (Below w.heap.size w wr)) (fun _ i _ => n - (intOf i).toNat)
  case atStart => exact ⟨0, by omega, rfl, by rw [List.take_zero]; rfl, Lib.hid (Below.refl _ _)⟩
  case round =>
    obtain ⟨k, hk, rfl, rfl, HB⟩ := hrel
    by_cases hlt : k < n
    · have hs := HH.out.below HB.out
      obtain ⟨b, off, rfl, hbl⟩ := Rows.some hs (by omega)
      have hkl : k < l.length := by rw [HL.out]; exact hlt
      obtain ⟨c0, c1⟩ := place_cells hs hkl
      have hlt' : (k : Int) < (n : Int) := by omega
      have HF := Lib.hid (full_one hkl)
      have hfl := full_le (l.take k)
      rw [List.length_take] at hfl
      have hnn := HN.out
      have hfk : fullN (l.take k) ≤ 100000 := by omega
      obtain ⟨f, hf⟩ : ∃ f, fullN (l.take k) = f := ⟨_, rfl⟩
      rw [hf] at hfk HF ⊢
      obtain ⟨⟨s, x⟩, hp⟩ : ∃ p, atP l k = p := ⟨_, rfl⟩
      rw [hp] at c0 c1 HF
      dsimp only at c0 c1 HF
      clear hs hkl hf hp hfl
      cases hz : noneS s with
      | true =>
        rw [hz] at HF
        have hz2 : (s.toList == []) = true := hz
        rw [if_pos rfl, Nat.add_zero] at HF
        go_wp2_with fail
        refine ⟨⟨k + 1, by omega, by first | rfl | (rw [wrap_suc k (by omega)]; rfl), by rw [HF.out]; first | done | rfl | (simp; done), Lib.hid (chain1 HB.out _)⟩, by first | (simp [intOf]; done) | (simp [intOf]; omega) | (rw [wrap_suc k (by omega)]; simp [intOf]; omega)⟩
      | false =>
        rw [hz] at HF
        have hz2 : (s.toList == []) = false := hz
        rw [if_neg (by simp)] at HF
        go_wp2_with fail
        refine ⟨⟨k + 1, by omega, by first | rfl | (rw [wrap_suc k (by omega)]; rfl), by rw [HF.out]; first | rfl | (rw [wrap_suc f (by omega)]; rfl), Lib.hid (chain1 HB.out _)⟩, by first | (simp [intOf]; done) | (simp [intOf]; omega) | (rw [wrap_suc k (by omega)]; simp [intOf]; omega)⟩
    · have hke : k = n := by omega
      subst hke
      have HT := Lib.hid (show l.take k = l by rw [← HL.out, List.take_length])
      rw [HT.out]
      go_wp2_with fail
      go_ret
      exact ⟨rfl, HB.out⟩
end Go.Proofs.Try
