/- Lists of numbers that come in (stage 15). -/
import Derived.Test.YtgkiijpheigpjaaLm
import Derived.Test.YtgkiijpheigpjaaRw
namespace Go.Proofs.Try
open Go.RowKit
set_option linter.unusedVariables false
set_option linter.unusedSimpArgs false
def encZ (z : Int) : List Value := [.int .i64 z]
theorem encZ_len (z : Int) : (encZ z).length = 1 := rfl
theorem encZ_one (z : Int) : ∀ u ∈ encZ z, u.oneCell' = true := by intro u hu; simp [encZ] at hu; subst hu; rfl
theorem flat_encZ (l : List Int) : flat encZ l = l.map (Value.int .i64) := by
  induction l with
  | nil => rfl
  | cons x l ih => simp [flat, encZ, ih]
/-- Numbers that may be told, as they come. -/
def isL (l : List Int) : Prop := l.Nodup ∧ ∀ x ∈ l, 0 ≤ x ∧ x < 64
instance (l : List Int) : Decidable (isL l) := by unfold isL; exact inferInstance
def nat (l : List Int) : List Nat := l.map Int.toNat
def zs (m : List Nat) : List Int := m.map (fun (x : Nat) => (x : Int))
theorem nat_zs (m : List Nat) : nat (zs m) = m := by unfold nat zs; rw [List.map_map]; exact (List.map_congr_left (fun x _ => by simp)).trans (List.map_id m)
theorem zs_nat {l : List Int} (h : isL l) : zs (nat l) = l := by
  unfold nat zs
  rw [List.map_map]
  exact (List.map_congr_left (fun x hx => by have := h.2 x hx; simp; omega)).trans (List.map_id l)
theorem nodup_zs {m : List Nat} : (zs m).Nodup ↔ m.Nodup := by
  unfold zs
  induction m with
  | nil => simp
  | cons a t ih =>
    simp only [List.map_cons, List.nodup_cons, ih]
    refine and_congr (not_congr ⟨fun h => ?_, fun h => List.mem_map.2 ⟨a, h, rfl⟩⟩) Iff.rfl
    obtain ⟨y, hy, e⟩ := List.mem_map.1 h
    have : y = a := by omega
    exact this ▸ hy
theorem isL_zs {m : List Nat} : isL (zs m) ↔ mayL m := by
  unfold isL mayL
  rw [nodup_zs]
  refine and_congr Iff.rfl ⟨fun h x hx => ?_, fun h x hx => ?_⟩
  · have := h (x : Int) (List.mem_map.2 ⟨x, hx, rfl⟩); omega
  · obtain ⟨y, hy, rfl⟩ := List.mem_map.1 hx; have := h y hy; omega
theorem may_nat {l : List Int} (h : isL l) : mayL (nat l) := isL_zs.1 (by rw [zs_nat h]; exact h)
theorem isL_nil : isL [] := ⟨by simp, by simp⟩
theorem isL_snoc {l : List Int} {x : Int} : isL (l ++ [x]) ↔ isL l ∧ x ∉ l ∧ 0 ≤ x ∧ x < 64 := by
  unfold isL
  rw [List.nodup_append]
  constructor
  · rintro ⟨⟨h1, _, h2⟩, h3⟩
    exact ⟨⟨h1, fun y hy => h3 y (by simp [hy])⟩, fun hx => h2 x hx x (by simp) rfl, h3 x (by simp)⟩
  · rintro ⟨⟨h1, h2⟩, h3, h4⟩
    refine ⟨⟨h1, by simp, fun a ha b hb e => ?_⟩, fun y hy => ?_⟩
    · simp at hb; rw [e, hb] at ha; exact h3 ha
    · rw [List.mem_append] at hy
      rcases hy with hy | hy
      · exact h2 y hy
      · simp at hy; rw [hy]; exact h4
theorem isL_take {l : List Int} (h : isL l) (k : Nat) : isL (l.take k) := ⟨h.1.sublist (List.take_sublist _ _), fun x hx => h.2 x (List.mem_of_mem_take hx)⟩
def atZ (l : List Int) (k : Nat) : Int := l.getD k 0
theorem takeZ_one {l : List Int} {k : Nat} (hk : k < l.length) : l.take (k + 1) = l.take k ++ [atZ l k] := by
  rw [List.take_add_one, List.getElem?_eq_getElem hk]
  simp [atZ, List.getD_eq_getElem?_getD, List.getElem?_eq_getElem hk]
theorem nat_snoc (l : List Int) (x : Int) : nat (l ++ [x]) = nat l ++ [x.toNat] := by simp [nat]
theorem mem_nat {l : List Int} (h : isL l) {z : Nat} : z ∈ nat l ↔ (z : Int) ∈ l := by
  conv => rhs; rw [← zs_nat h]
  unfold zs
  rw [List.mem_map]
  constructor
  · intro h; exact ⟨z, h, rfl⟩
  · rintro ⟨y, hy, e⟩; have : y = z := by omega
    exact this ▸ hy
theorem isL_len {l : List Int} (h : isL l) : l.length ≤ 64 := by
  have := may_len (may_nat h)
  unfold nat at this
  rwa [List.length_map] at this
/-- What tells them, or the empty list. -/
def laidF (l : List Int) : Ls := if isL l then told (nat l) else told []
theorem laidF_yes {l : List Int} (h : isL l) : laidF l = told (nat l) := if_pos h
theorem laidF_no {l : List Int} (h : ¬isL l) : laidF l = told [] := if_neg h
/-- An element of a slice of numbers. -/
theorem Sees.elZ {w : World} {n b off : Nat} {l : List Int} (h : Sees w 1 (some ⟨b, off, none⟩) n (flat encZ l)) {j : Nat} (hj : j < l.length) : w.cell? ⟨b, off + j, none⟩ = some (.int .i64 (atZ l j)) := by
  have := h.el (enc := encZ) (k := 1) encZ_len (j := j) (x := atZ l j) (by rw [List.getElem?_eq_getElem hj]; simp [atZ, List.getD_eq_getElem?_getD, List.getElem?_eq_getElem hj]) (i := 0) (v := .int .i64 (atZ l j)) rfl
  simpa using this
section
variable {W : World} {b : Nat} {T : TypeId} {x : Ls}
theorem vbk.nx (h : vbk W b T (lsC x)) {k : Nat} (hk : k < 64) : W.cell? ⟨b, k, none⟩ = some (.int .i64 (x.nx k)) := (h.cell (by rw [lsC_len]; omega)).trans (by rw [lsC_nx x hk])
theorem vbk.pv (h : vbk W b T (lsC x)) {k : Nat} (hk : k < 64) : W.cell? ⟨b, 64 + k, none⟩ = some (.int .i64 (x.pv k)) := (h.cell (by rw [lsC_len]; omega)).trans (by rw [lsC_pv x hk])
theorem vbk.inn (h : vbk W b T (lsC x)) {k : Nat} (hk : k < 64) : W.cell? ⟨b, 128 + k, none⟩ = some (.bool (x.inn k)) := (h.cell (by rw [lsC_len]; omega)).trans (by rw [lsC_in x hk])
theorem vbk.hdC (h : vbk W b T (lsC x)) : W.cell? ⟨b, 192, none⟩ = some (.int .i64 x.hd) := (h.cell (by rw [lsC_len]; omega)).trans (by rw [lsC_hd x])
theorem vbk.tlC (h : vbk W b T (lsC x)) : W.cell? ⟨b, 193, none⟩ = some (.int .i64 x.tl) := (h.cell (by rw [lsC_len]; omega)).trans (by rw [lsC_tl x])
theorem vbk.setNx (h : vbk W b T (lsC x)) {k : Nat} (hk : k < 64) (v : Int) : vbk (W.setCell ⟨b, k, none⟩ (.int .i64 v)) b T (lsC (x.setNx k v)) := by rw [← lsC_setNx x hk]; exact h.set _ _
theorem vbk.setPv (h : vbk W b T (lsC x)) {k : Nat} (hk : k < 64) (v : Int) : vbk (W.setCell ⟨b, 64 + k, none⟩ (.int .i64 v)) b T (lsC (x.setPv k v)) := by rw [← lsC_setPv x hk]; exact h.set _ _
theorem vbk.setIn (h : vbk W b T (lsC x)) {k : Nat} (hk : k < 64) (v : Bool) : vbk (W.setCell ⟨b, 128 + k, none⟩ (.bool v)) b T (lsC (x.setIn k v)) := by rw [← lsC_setIn x hk]; exact h.set _ _
theorem vbk.setHd (h : vbk W b T (lsC x)) (v : Int) : vbk (W.setCell ⟨b, 192, none⟩ (.int .i64 v)) b T (lsC { x with hd := v }) := by rw [← lsC_setHd x]; exact h.set _ _
theorem vbk.setTl (h : vbk W b T (lsC x)) (v : Int) : vbk (W.setCell ⟨b, 193, none⟩ (.int .i64 v)) b T (lsC { x with tl := v }) := by rw [← lsC_setTl x]; exact h.set _ _
theorem vbk.infoL (h : vbk W b T (lsC x)) : (Try.prog.info? 55).map (·.size) = some (lsC x).length := lsC_info x
end
section
variable {P : Program}
/-- Two results, the first of which lies in a block. -/
theorem results_vbk2 {fn : Func} {tmps : Array Value} {a s : Tmp} {ty : TypeId} (hr : fn.results = #[.cell a ty, .tmp s]) {b : Nat} (ht : tmps.getD a undef = .pointer (some ⟨b, 0, none⟩)) {v : Value} (hs : tmps.getD s undef = v) {w : World} {T : TypeId} {l : List Value} {d : TypeDesc} (hc : vbk w b T l)
    (hu : P.underlying ty = some d) (hd : d.isRow = true) (hi : (P.info? ty).map (·.size) = some l.length) : (results fn tmps).run P w = .ok (.tuple #[.agg (celV l), v]) w := by
  have h := run_loadVar_vbk (P := P) w b ty T l d hc hu hd hi
  unfold results
  rw [hr]
  have ht' : tmps[a]?.getD undef = .pointer (some ⟨b, 0, none⟩) := by rw [← ht]; simp
  have hs' : tmps[s]?.getD undef = v := by rw [← hs]; simp
  simp [ht', hs', asAddr, h]
end
theorem lnamed_yes (z : Int) (h0 : 0 ≤ z) (h1 : z < 64) (w : World) : Calls Try.prog 57 #[.int .i64 z] w fun e w' => e = .returned (.bool true) ∧ w = w' := by
  go_enter Try.func57, Try.ntmps57
  go_wp2_with fail
  go_ret
  exact ⟨by first | rfl | (simp; done), rfl⟩
theorem lnamed_no (z : Int) (h : z < 0 ∨ 64 ≤ z) (w : World) : Calls Try.prog 57 #[.int .i64 z] w fun e w' => e = .returned (.bool false) ∧ w = w' := by
  rcases h with h | h
  · have h' : ¬(0 ≤ z) := by omega
    go_enter Try.func57, Try.ntmps57
    go_wp2_with fail
    go_ret
    exact ⟨by first | rfl | (simp; done), rfl⟩
  · have h0 : 0 ≤ z := by omega
    have h' : ¬(z < 64) := by omega
    go_enter Try.func57, Try.ntmps57
    go_wp2_with fail
    go_ret
    exact ⟨by first | rfl | (simp; done), rfl⟩
end Go.Proofs.Try
