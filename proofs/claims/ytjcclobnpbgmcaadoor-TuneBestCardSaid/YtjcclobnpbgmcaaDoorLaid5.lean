/- What the listed variable gives the walks (layer 5). of_laid: Tryd.pows_of_laid ; door: Tryd.door_met -/
import Derived.Test.YtjcclobnpbgmcaaDoorRows
import Derived.Test.YtjcclobnpbgmcaaDoorExpo2
import Derived.ProofKit
import Derived.LaidMore
import Derived.OpenShut
import Derived.Stop.Joined
namespace Go.Proofs.Tryd
open Go.ChangeShapes Go.WideShapes Go.ChangeAt Go.RowKit
set_option linter.unusedVariables false

theorem gPows : Tryd.prog.globalNamed "linhay/expo.powers" = some 1 := by kernel_rfl
theorem tPows : (Tryd.prog.globals[1]?).map (·.type) = some 82 := by kernel_rfl
theorem c24 : Tryd.prog.cellsOf 23 = 1 := by kernel_rfl
theorem laid_pw : (Go.Proofs.YtjcclobnpbgmcaaDoor.Rows.laid_linhay_expo_powers : DataW Unit) = .agg (pw.map fun (t : Nat) => .lit (.int .u64 (Int.ofNat t))) := rfl
theorem cell_of_take {cs : List Value} {k : Nat} {v : Value} (h : (cs.drop (k * 1)).take 1 = [v]) : cs[k]? = some v := by
  have h0 := congrArg (fun l => l[0]?) h
  simpa using h0
theorem pows_of_laid {W : World} (h : laidMetH Tryd.prog [("linhay/expo.powers", Go.Proofs.YtjcclobnpbgmcaaDoor.Rows.laid_linhay_expo_powers)] W) : Pows W := by
  rw [MakeChecks.laidMetH_plain _ _ _ (by kernel_rfl)] at h
  obtain ⟨ps, ⟨g0, t0, cs0, f0, p0, q0, hg0, ht0, hv0, hd0, _, _⟩, _, _⟩ := h
  obtain rfl := Option.some.inj (gPows.symm.trans hg0)
  obtain rfl := Option.some.inj (tPows.symm.trans ht0)
  obtain ⟨xs, m1, rfl, hx1, hlen, hn3, hel⟩ := DataW.trod_array Tryd.underlying82 hd0
  rw [laid_pw] at hx1
  injection hx1 with hx1 _
  injection hx1 with hx1
  have cells : ∀ k, k < 37 → W.cell? ⟨1, k, none⟩ = some (.int .u64 ((pw.getD k 0 : Nat) : Int)) := fun k hk => by
    have h1 := hel k hk
    rw [c24, List.getElem?_eq_getElem (by omega)] at h1
    obtain ⟨n, e1, e2, _⟩ := DataW.trod_int Tryd.underlying23 h1
    have h2 := congrArg (fun l => l[k]?) hx1
    simp only [List.getElem?_map] at h2
    rw [List.getElem?_eq_getElem (show k < xs.length by omega), e2, List.getElem?_eq_getElem (show k < pw.length from hk)] at h2
    have h3 : (pw[k]'(show k < pw.length from hk) : Int) = n := by simpa using h2
    have h4 := World.var?_cell hg0 hv0 k
    rw [h4, ← Array.getElem?_toList, cell_of_take e1, ← h3, List.getD_eq_getElem?_getD, List.getElem?_eq_getElem (show k < pw.length from hk)]
    rfl
  exact ⟨World.block_lt_of_cell? W _ (cells 0 (by omega)), cells⟩
theorem door_met (os : Os) (args : Array Value) : laidMetH Tryd.prog [("linhay/expo.powers", Go.Proofs.YtjcclobnpbgmcaaDoor.Rows.laid_linhay_expo_powers)] ((World.doorLaid Tryd.prog 400 os).forCall (fun _ _ => 0) ⟨#[], args, []⟩).memory :=
  laidMetH_of_parts3 (fuel := 8) (laidMet_of_run' 8 (by kernel_rfl) (by kernel_rfl)) (by kernel_rfl) (by kernel_rfl)
end Go.Proofs.Tryd
