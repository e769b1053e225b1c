/- heap: settle, Set, Drop, Find, Min. -/
import Derived.Test.YtgkiijpheigpjaaHpE
import Derived.Test.YtgkiijpheigpjaaHp3
namespace Go.Proofs.Try
open Go.RowKit
set_option linter.unusedVariables false
set_option linter.unusedSimpArgs false
/-- How far settling has come. -/
def SetlR (l : List It) (p k : Nat) (l' : List It) (q : Nat) : Prop := (k = 0 ∧ l' = l ∧ q = p) ∨ (k = 1 ∧ RiseR l l' q) ∨ (k = 2 ∧ l'.Perm l ∧ heapP l')
set_option maxRecDepth 100000 in
set_option maxHeartbeats 4000000 in
theorem settle_c (g n c base : Nat) (l : List It) (p : Nat) (hp : p < n) (hn : n ≤ 100000) (ha : almost l p) (w : World) (h : w.ownsRow base 25 3 (.slice (some ⟨g, 0, none⟩) n c) n (flat encI l)) :
    Calls Try.prog 53 #[.slice (some ⟨g, 0, none⟩) n c, .int .i64 (p : Int)] w fun e w' => ∃ (l' : List It), e = .returned (.slice (some ⟨g, 0, none⟩) n c) ∧ (l'.Perm l ∧ heapP l') ∧ w'.ownsRow base 25 3 (.slice (some ⟨g, 0, none⟩) n c) n (flat encI l') ∧ w.grownBy w' (some g) := by
  have HL := Lib.hid (own_len h)
  have HO := Lib.hid h
  have HA := Lib.hid ha
  have hgl : g < w.heap.size := (h.lt g rfl).2
  clear h ha
  go_enter Try.func53, Try.ntmps53
  go_wp2_with fail
  have HV0 := Lib.hid (HO.out.alloc (.cells #[.func (.func 68) #[.slice (some ⟨g, 0, none⟩) n c] #[], .func (.func 69) #[.slice (some ⟨g, 0, none⟩) n c] #[]] 77))
  have HF0 := Lib.hid (show (w.alloc (.cells #[.func (.func 68) #[.slice (some ⟨g, 0, none⟩) n c] #[], .func (.func 69) #[.slice (some ⟨g, 0, none⟩) n c] #[]] 77)).cell? ⟨w.heap.size, 0, none⟩ = some (.func (.func 68) #[.slice (some ⟨g, 0, none⟩) n c] #[]) by go_simp)
  have HF1 := Lib.hid (show (w.alloc (.cells #[.func (.func 68) #[.slice (some ⟨g, 0, none⟩) n c] #[], .func (.func 69) #[.slice (some ⟨g, 0, none⟩) n c] #[]] 77)).cell? ⟨w.heap.size, 1, none⟩ = some (.func (.func 69) #[.slice (some ⟨g, 0, none⟩) n c] #[]) by go_simp)
  have HG0 := Lib.hid (World.grownBy_alloc w (.cells #[.func (.func 68) #[.slice (some ⟨g, 0, none⟩) n c] #[], .func (.func 69) #[.slice (some ⟨g, 0, none⟩) n c] #[]] 77) (some g))
  have hne : some w.heap.size ≠ some g := by intro e; injection e with e; omega
  go_loopw [1, 13] (fun u1 u13 W => ∃ (k q : Nat) (l' : List It), k ≤ 2 ∧ Hid (k < 2 → q < n) ∧ u13 = .int .i64 (k : Int) ∧ u1 = .int .i64 (q : Int) ∧ Hid (SetlR l p k l' q) ∧ Hid (W.ownsRow base 25 3 (.slice (some ⟨g, 0, none⟩) n c) n (flat encI l')) ∧ Hid (w.grownBy W (some g)) ∧ W.cell? ⟨w.heap.size, 0, none⟩ = some (.func (.func 68) #[.slice (some ⟨g, 0, none⟩) n c] #[]) ∧ W.cell? ⟨w.heap.size, 1, none⟩ = some (.func (.func 69) #[.slice (some ⟨g, 0, none⟩) n c] #[])) (fun _ i _ => 2 - (intOf i).toNat)
  case atStart => exact ⟨0, p, l, by omega, Lib.hid (fun _ => hp), rfl, rfl, Lib.hid (.inl ⟨rfl, rfl, rfl⟩), HV0, HG0, HF0.out, HF1.out⟩
  case round =>
    obtain ⟨k, q, l', hk, HQ, rfl, rfl, HR, HO', HG, c0, c1⟩ := hrel
    have hkk : k = 0 ∨ k = 1 ∨ k = 2 := by omega
    rcases hkk with rfl | rfl | rfl
    · have hq := HQ.out (by omega)
      have hR : l' = l ∧ q = p := by
        rcases HR.out with ⟨_, h1, h2⟩ | ⟨h, _⟩ | ⟨h, _⟩
        · exact ⟨h1, h2⟩
        · omega
        · omega
      obtain ⟨rfl, rfl⟩ := hR
      have RC := fun W h => rise_c g n c base l' q hq hn HA.out W h
      go_wp2_with fail
      refine (RC _ HO'.out).mono ?_
      rintro e w1 ⟨l2, q2, rfl, hR2, ho2, hg2⟩
      have c0' := hg2.cell c0 hne
      have c1' := hg2.cell c1 hne
      have HO2 := Lib.hid ho2
      have HG2 := Lib.hid (HG.out.trans hg2)
      have HR2 := Lib.hid hR2
      have hq2 : q2 < n := by have := hR2.1; rw [HL.out] at this; exact this
      clear c0 c1 ho2 hg2 hR2 RC
      go_wp2_with fail
      go_roundw
      case rel => exact ⟨1, q2, l2, by omega, Lib.hid (fun _ => hq2), rfl, rfl, Lib.hid (.inr (.inl ⟨rfl, HR2.out⟩)), HO2, HG2, c0', c1'⟩
      case measure => first | (simp [intOf]; done) | (simp [intOf]; omega)
    · have hq := HQ.out (by omega)
      have hR : RiseR l l' q := by
        rcases HR.out with ⟨h, _⟩ | ⟨_, h1⟩ | ⟨h, _⟩
        · omega
        · exact h1
        · omega
      have HRR := Lib.hid hR
      have RC := fun W h => sink_c g n c base l' q hq hn hR.2.2.1 hR.2.2.2 W h
      clear hR
      go_wp2_with fail
      refine (RC _ HO'.out).mono ?_
      rintro e w1 ⟨l2, q2, rfl, hR2, ho2, hg2⟩
      have c0' := hg2.cell c0 hne
      have c1' := hg2.cell c1 hne
      have HO2 := Lib.hid ho2
      have HG2 := Lib.hid (HG.out.trans hg2)
      have HR2 := Lib.hid hR2
      clear c0 c1 ho2 hg2 hR2 RC
      go_wp2_with fail
      go_roundw
      case rel => exact ⟨2, q2, l2, by omega, Lib.hid (fun h => by omega), rfl, rfl, Lib.hid (.inr (.inr ⟨rfl, HR2.out.1.trans HRR.out.2.1, HR2.out.2⟩)), HO2, HG2, c0', c1'⟩
      case measure => first | (simp [intOf]; done) | (simp [intOf]; omega)
    · have hR : l'.Perm l ∧ heapP l' := by
        rcases HR.out with ⟨h, _⟩ | ⟨h, _⟩ | ⟨_, h1, h2⟩
        · omega
        · omega
        · exact ⟨h1, h2⟩
      have HRR := Lib.hid hR
      clear hR c0 c1
      go_wp2_with fail
      go_ret
      exact ⟨l', rfl, HRR.out, HO'.out, HG.out⟩
end Go.Proofs.Try
