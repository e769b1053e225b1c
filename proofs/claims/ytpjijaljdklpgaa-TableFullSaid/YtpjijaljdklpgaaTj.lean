/- copy of elements of many cells; table.copied (stage 13). -/
import Derived.Test.YtpjijaljdklpgaaTh
import Derived.Laws.CopyRow
namespace Go
theorem run_copy_k {P : Program} (w : World) (dT sT ty elem : TypeId) (k g o dLen dCap : Nat) (a : Addr) (sLen sCap : Nat) (cur : Array Value) (t : TypeId) (cs : List Value)
    (hu : P.underlying dT = some (.slice elem)) (hs : (P.info? elem).map (·.size) = some k)
    (hg : w.heap[g]? = some (.cells cur t (0, 0))) (hn : cs.length = Nat.min sLen dLen * k)
    (hsrc : ∀ j v, cs[j]? = some v → w.cell? (a.add j) = some v) (hfit : o + cs.length ≤ cur.size) (h1 : ∀ v ∈ cs, v.oneCell' = true) :
    (Builtin.copy_ #[dT, sT] ty #[.slice (some ⟨g, o, none⟩) dLen dCap, .slice (some a) sLen sCap]).run P w =
      .ok (goInt (Nat.min sLen dLen)) (w.setRow g (cur.toList.take o ++ cs ++ cur.toList.drop (o + cs.length)).toArray) := by
  have hl := run_loadCells_list (P := P) w a cs hsrc
  have hst := run_storeCells_at P g o t cs 0 cur w hg (by simpa using hfit) h1
  cases hq : P.info? elem with
  | none => simp [hq] at hs
  | some i =>
    have hi : i.size = k := by simpa [hq] using hs
    simp [Builtin.copy_, run_underlying hu, Builtin.lenOf, Builtin.firstCells, sizeOf, typeInfo, hq, hi, ← hn, hl, hst]
namespace Proofs.Try
open Go.RowKit
set_option linter.unusedVariables false
/-- A whole row is filled. -/
theorem run_copy_full {P : Program} {w : World} (dT sT ty : TypeId) (elem : TypeId) (k : Nat) (hu : P.underlying dT = some (.slice elem)) (hsz : (P.info? elem).map (·.size) = some k)
    (n g dCap sCap base : Nat) (e : TypeId) (ad : Addr) (xs cs : List Value) (hown : w.ownsRow base e k (.slice (some ⟨g, 0, none⟩) n dCap) n xs) (hn : cs.length = n * k)
    (hsrc : ∀ j v, cs[j]? = some v → w.cell? (ad.add j) = some v) (h1 : ∀ v ∈ cs, v.oneCell' = true) :
    ∃ w', (Builtin.copy_ #[dT, sT] ty #[.slice (some ⟨g, 0, none⟩) n dCap, .slice (some ad) n sCap]).run P w = .ok (goInt n) w' ∧ w'.ownsRow base e k (.slice (some ⟨g, 0, none⟩) n dCap) n cs ∧ w.grownBy w' (some g) := by
  rcases hown.2 with ⟨h', _⟩ | ⟨g', cap', cur, h', hb, hg, hnc, hcm, hcs, ht⟩
  · simp at h'
  · simp only [Value.slice.injEq, Option.some.injEq, Addr.mk.injEq, and_true, true_and] at h'
    obtain ⟨rfl, rfl⟩ := h'
    have hle : n * k ≤ cur.size := by rw [hcs]; exact Nat.mul_le_mul_right k hnc
    have hrun := run_copy_k (P := P) w dT sT ty elem k g 0 n dCap ad n sCap cur e cs hu hsz hg (by rw [hn]; show n * k = min n n * k; rw [Nat.min_self]) hsrc (by omega) h1
    rw [show Nat.min n n = n from Nat.min_self n] at hrun
    refine ⟨_, hrun, ⟨hn, .inr ⟨g, dCap, _, rfl, hb, setRow_heap w g cur _ e _ hg, hnc, hcm, ?_, ?_⟩⟩, ⟨rfl, rfl, rfl, by simp [World.setRow], fun j hj hne => setRow_other w g j _ (fun e => hne (by rw [e]))⟩⟩
    · simp
      omega
    · simp [← hn]
theorem place_size : (Try.prog.info? 47).map (·.size) = some 2 := by kernel_rfl
set_option maxRecDepth 100000 in
set_option maxHeartbeats 4000000 in
theorem copied_c (b off c : Nat) (l : List Pl) (w : World) (h : Sees w 2 (some ⟨b, off, none⟩) 128 (flat encP l)) :
    Calls Try.prog 24 #[.slice (some ⟨b, off, none⟩) 128 c] w fun e w' => e = .returned (.slice (some ⟨w.heap.size, 0, none⟩) 128 128) ∧ w'.ownsRow w.heap.size 47 2 (.slice (some ⟨w.heap.size, 0, none⟩) 128 128) 128 (flat encP l) ∧ Below w.heap.size w w' := by
  have hm : (Instr.makeSlice 25 (.int .i64 128) (.int .i64 128)).run Try.prog w = .ok (.slice (some ⟨w.heap.size, 0, none⟩) 128 128) (w.alloc (.cells (flat encP (noPl 128)).toArray 47)) := make_pl 128 (by omega) w
  have HO := Lib.hid (own_made (Nat.le_refl w.heap.size) w (Nat.le_refl _) 128 (by omega))
  have HB := Lib.hid ((Below.refl w.heap.size w).alloc (Nat.le_refl _) (.cells (flat encP (noPl 128)).toArray 47))
  have HS := Lib.hid (h.alloc (.cells (flat encP (noPl 128)).toArray 47))
  have hsr : Hid (∀ j v, (flat encP l)[j]? = some v → (w.alloc (.cells (flat encP (noPl 128)).toArray 47)).cell? ((⟨b, off, none⟩ : Addr).add j) = some v) := Lib.hid (fun j v hv => by
    obtain ⟨hl, h0 | ⟨b', off', hA, _, hc⟩⟩ := HS.out
    · omega
    · injection hA with hA
      injection hA with e1 e2
      subst e1 e2
      rw [add_plain, hc j (List.getElem?_eq_some_iff.1 hv).1, hv])
  obtain ⟨w2, hcp, hown2, hg2⟩ := run_copy_full (P := Try.prog) 25 25 3 47 2 Try.underlying25 place_size 128 w.heap.size 128 c w.heap.size 47 ⟨b, off, none⟩ _ (flat encP l) HO.out h.1 hsr.out (flat_one encP_one l)
  have HO2 := Lib.hid hown2
  have HB2 := Lib.hid (HB.out.grown hg2 (by simp) (fun k hk => by injection hk with hk; omega))
  clear h hown2 hg2
  go_enter Try.func24, Try.ntmps24
  go_wp2_with fail
  go_ret
  exact ⟨rfl, HO2.out, HB2.out⟩
end Proofs.Try
end Go
