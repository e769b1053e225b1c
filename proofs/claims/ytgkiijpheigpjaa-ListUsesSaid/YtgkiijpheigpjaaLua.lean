/- Acts on a list: theory, and linhaylaw15.do (stage 15). -/
import Derived.Test.YtgkiijpheigpjaaL15e
namespace Go.Proofs.Try
open Go.ChangeShapes Go.WideShapes Go.ChangeAt Go.RowKit Go.Joins Go.Deep
set_option linter.unusedVariables false
set_option linter.unusedSimpArgs false
/-- An act: is it a drop, and its number. -/
abbrev Ac := Bool × Int
def encA (a : Ac) : List Value := [.bool a.1, .int .i64 a.2]
theorem encA_len (a : Ac) : (encA a).length = 2 := rfl
def outI (m : List Nat) (id : Int) : List Nat := m.filter fun (y : Nat) => !((y : Int) == id)
def stepA (m : List Nat) (a : Ac) : List Nat := (if a.1 = false ∧ 0 ≤ a.2 ∧ a.2 < 64 then [a.2.toNat] else []) ++ outI m a.2
theorem outI_nat (m : List Nat) (z : Nat) : outI m (z : Int) = woN m z := by
  unfold outI woN
  refine List.filter_congr (fun y _ => ?_)
  by_cases h : y = z
  · subst h; simp
  · have h1 : ((y : Int) == (z : Int)) = false := by rw [beq_eq_false_iff_ne]; omega
    have h2 : (y == z) = false := by rw [beq_eq_false_iff_ne]; exact h
    rw [h1, h2]
theorem outI_none {m : List Nat} {id : Int} (h : id ∉ zs m) : outI m id = m := by
  unfold outI
  refine List.filter_eq_self.2 (fun y hy => ?_)
  have : ((y : Int) == id) = false := by
    rw [beq_eq_false_iff_ne]
    intro e
    exact h (by rw [← e]; exact List.mem_map.2 ⟨y, hy, rfl⟩)
  rw [this]; rfl
theorem outI_may {m : List Nat} (h : mayL m) (id : Int) : mayL (outI m id) := ⟨h.1.sublist List.filter_sublist, fun x hx => h.2 x ((List.mem_filter.1 hx).1)⟩
theorem step_may {m : List Nat} (h : mayL m) (a : Ac) : mayL (stepA m a) := by
  unfold stepA
  by_cases hg : a.1 = false ∧ 0 ≤ a.2 ∧ a.2 < 64
  · rw [if_pos hg]
    obtain ⟨z, hz⟩ := Int.eq_ofNat_of_zero_le hg.2.1
    rw [hz, Int.toNat_natCast, outI_nat]
    exact touch_may h (by omega)
  · rw [if_neg hg, List.nil_append]
    exact outI_may h _
def hasA (l : List Ac) (id : Int) : Bool := l.any fun b => b.2 == id
def wantF : List Ac → List Nat
  | [] => []
  | a :: r => wantF r ++ (if (a.1 = false ∧ 0 ≤ a.2 ∧ a.2 < 64) ∧ hasA r a.2 = false then [a.2.toNat] else [])
def runA (l : List Ac) (m : List Nat) : List Nat := l.foldl stepA m
theorem run_want (l : List Ac) : ∀ m, runA l m = wantF l ++ m.filter (fun (y : Nat) => !hasA l (y : Int)) := by
  induction l with
  | nil =>
    intro m
    simp only [runA, wantF, hasA, List.foldl_nil, List.any_nil, Bool.not_false, List.nil_append]
    exact (List.filter_eq_self.2 (fun _ _ => rfl)).symm
  | cons a r ih =>
    intro m
    show runA r (stepA m a) = _
    rw [ih]
    simp only [wantF, List.append_assoc]
    congr 1
    unfold stepA
    rw [List.filter_append]
    have h2 : (outI m a.2).filter (fun (y : Nat) => !hasA r (y : Int)) = m.filter (fun (y : Nat) => !hasA (a :: r) (y : Int)) := by
      unfold outI
      rw [List.filter_filter]
      refine List.filter_congr (fun y _ => ?_)
      show (!hasA r (y : Int) && !((y : Int) == a.2)) = !(a.2 == (y : Int) || hasA r (y : Int))
      rw [Bool.beq_comm (a := a.2)]
      cases (y : Int) == a.2 <;> cases hasA r (y : Int) <;> rfl
    rw [h2]
    congr 1
    by_cases hg : a.1 = false ∧ 0 ≤ a.2 ∧ a.2 < 64
    · rw [if_pos hg]
      have ht : ((a.2.toNat : Nat) : Int) = a.2 := by omega
      cases hh : hasA r a.2 with
      | true => rw [if_neg (by simp)]; simp [ht, hh]
      | false => rw [if_pos ⟨hg, rfl⟩]; simp [ht, hh]
    · rw [if_neg hg, if_neg (fun h => hg h.1)]; rfl
theorem run_all (l : List Ac) : runA l [] = wantF l := by rw [run_want, List.filter_nil, List.append_nil]
def atA (l : List Ac) (k : Nat) : Ac := l.getD k (false, 0)
theorem takeA_one {l : List Ac} {k : Nat} (hk : k < l.length) : l.take (k + 1) = l.take k ++ [atA l k] := by
  rw [List.take_add_one, List.getElem?_eq_getElem hk]
  simp [atA, List.getD_eq_getElem?_getD, List.getElem?_eq_getElem hk]
theorem dropA_one {l : List Ac} {k : Nat} (hk : k < l.length) : l.drop k = atA l k :: l.drop (k + 1) := by
  rw [List.drop_eq_getElem_cons hk]
  simp [atA, List.getD_eq_getElem?_getD, List.getElem?_eq_getElem hk]
theorem run_one {l : List Ac} {k : Nat} (hk : k < l.length) : runA (l.take (k + 1)) [] = stepA (runA (l.take k) []) (atA l k) := by
  rw [takeA_one hk]
  unfold runA
  rw [List.foldl_append]
  rfl
theorem run_may (l : List Ac) : ∀ {m}, mayL m → mayL (runA l m) := by
  induction l with
  | nil => intro m h; exact h
  | cons a r ih => intro m h; exact ih (step_may h a)
/-- What a touch, or a drop, makes of a told list. -/
theorem touch_s {m : List Nat} (hm : mayL m) (id : Int) (W : World) : Calls Try.prog 37 #[.agg (celV (lsC (told m))), .int .i64 id] W fun e w' => ∃ E, e = .returned (.tuple #[.agg (celV (lsC (told (stepA m (false, id))))), .int .i64 E]) ∧ Below W.heap.size W w' := by
  by_cases hr : 0 ≤ id ∧ id < 64
  · obtain ⟨z, rfl⟩ := Int.eq_ofNat_of_zero_le hr.1
    refine (touch_t m (stepA m (false, (z : Int))) z (z : Int) hm (by omega) rfl ?_ W).mono fun e w' ⟨h1, h2⟩ => ⟨0, h1, h2⟩
    unfold stepA
    rw [if_pos ⟨rfl, hr⟩, Int.toNat_natCast, outI_nat]
    rfl
  · refine (touch_n m id hm hr W).mono fun e w' ⟨h1, h2⟩ => ⟨110, ?_, h2⟩
    rw [h1]
    unfold stepA
    rw [if_neg (fun h => hr h.2), List.nil_append, outI_none (fun h => by
      obtain ⟨y, hy, he⟩ := List.mem_map.1 h
      have := hm.2 y hy
      exact hr ⟨by omega, by omega⟩)]
theorem drop_s {m : List Nat} (hm : mayL m) (id : Int) (W : World) : Calls Try.prog 39 #[.agg (celV (lsC (told m))), .int .i64 id] W fun e w' => ∃ E, e = .returned (.tuple #[.agg (celV (lsC (told (stepA m (true, id))))), .int .i64 E]) ∧ Below W.heap.size W w' := by
  have hs : stepA m (true, id) = outI m id := by unfold stepA; rw [if_neg (by simp), List.nil_append]
  rw [hs]
  by_cases hr : id ∈ zs m
  · obtain ⟨z, hz, rfl⟩ := List.mem_map.1 hr
    exact (drop_t m (outI m (z : Int)) z (z : Int) hm rfl hz (by rw [outI_nat]) W).mono fun e w' ⟨h1, h2⟩ => ⟨0, h1, h2⟩
  · refine (drop_n m id hm hr W).mono fun e w' ⟨h1, h2⟩ => ⟨120, ?_, h2⟩
    rw [h1, outI_none hr]
section
variable {H : Type} {enc : TypeId × Value → H} {P : Program}
theorem el_act {w : World} {base : Nat} {held : Bool} {e ub u : TypeId} {f0 f1 : Field} (he : P.underlying e = some (.struct #[f0, f1])) (ce : P.cellsOf e = 2) (o : f0.offset = 0 ∧ f1.offset = 1) (t : f0.type = ub ∧ f1.type = u) (cb : P.cellsOf ub = 1) (cu : P.cellsOf u = 1) (hub : P.underlying ub = some .bool)
    (hu : P.underlying u = some (.int .i64)) : ElIs enc P w base held e encA (fun _ => True) := by
  intro fuel cs x h
  obtain ⟨xs, n, _, _, hl, hxl, hg⟩ := DataW.trod_struct he h
  rw [ce] at hl
  have hx : ∀ i, i < 2 → ∃ y, xs[i]? = some y := fun i hi => ⟨_, List.getElem?_eq_getElem (by rw [hxl]; exact hi)⟩
  have k0 := hg 0 f0 rfl
  have k1 := hg 1 f1 rfl
  rw [o.1, t.1, cb] at k0
  rw [o.2, t.2, cu] at k1
  obtain ⟨y0, e0⟩ := hx 0 (by omega)
  obtain ⟨y1, e1⟩ := hx 1 (by omega)
  rw [e0] at k0
  rw [e1] at k1
  obtain ⟨b, hb, _⟩ := DataW.trod_bool hub k0
  obtain ⟨a, ha, _⟩ := field_int hu k1
  refine ⟨(b, a), ?_, trivial⟩
  rw [list_parts2 cs hl, hb, ha]
  rfl
end
set_option maxRecDepth 100000 in
set_option maxHeartbeats 4000000 in
theorem do_c (m : List Nat) (hm : mayL m) (a : Ac) (w : World) : Calls Try.prog 46 #[.agg (celV (lsC (told m))), .agg #[.bool a.1, .int .i64 a.2]] w fun e w' => ∃ E, e = .returned (.tuple #[.agg (celV (lsC (told (stepA m a)))), .int .i64 E]) ∧ Below w.heap.size w w' := by
  have hzc := zero_cells
  obtain ⟨d, id⟩ := a
  have TC := fun W => touch_s hm id W
  have DC := fun W => drop_s hm id W
  have HX := Lib.hid (show vbk (((w.alloc (.cells (celV (lsC (told m))) 55)).alloc (.cells #[.bool d, .int .i64 id] 70)).alloc (.cells (celV (lsC z0)) 55)) w.heap.size 55 (lsC (told m)) from ((vbk.new w _ _).alloc _).alloc _)
  have HR := Lib.hid (show vbk (((w.alloc (.cells (celV (lsC (told m))) 55)).alloc (.cells #[.bool d, .int .i64 id] 70)).alloc (.cells (celV (lsC z0)) 55)) (w.heap.size + 2) 55 (lsC z0) from vbk.new' (by simp))
  have HB := Lib.hid (show Below w.heap.size w (((w.alloc (.cells (celV (lsC (told m))) 55)).alloc (.cells #[.bool d, .int .i64 id] 70)).alloc (.cells (celV (lsC z0)) 55)) from chain1 (chain1 (chain1 (Below.refl _ _) _) _) _)
  dsimp only
  cases d
  all_goals
    go_enter Try.func46, Try.ntmps46
    go_wp2_with (first
      | (refine wpList_load_vbk rfl 55 (.tmp 2) rfl w.heap.size 55 (lsC (told m)) (by first | rfl | (simp [Act.eval]; done)) HX.out _ Try.underlying55 rfl (lsC_info _) ?_)
      | (go_at_call 37; refine (TC _).mono ?_; rintro e w1 ⟨E, rfl, hb1⟩)
      | (go_at_call 39; refine (DC _).mono ?_; rintro e w1 ⟨E, rfl, hb1⟩)
      | (refine wpList_store_vbk rfl 55 (.tmp 4) (.tmp 12) rfl (w.heap.size + 2) 55 (lsC z0) (lsC (told (stepA m (true, id)))) (by first | rfl | (simp [Act.eval]; done)) (by first | rfl | (simp [Act.eval]; done)) (HR.out.below hb1) (by simp only [lsC_len]) (lsC_one _) (lsC_info _) ?_)
      | (refine wpList_store_vbk rfl 55 (.tmp 4) (.tmp 18) rfl (w.heap.size + 2) 55 (lsC z0) (lsC (told (stepA m (false, id)))) (by first | rfl | (simp [Act.eval]; done)) (by first | rfl | (simp [Act.eval]; done)) (HR.out.below hb1) (by simp only [lsC_len]) (lsC_one _) (lsC_info _) ?_))
    refine bodyPost_ret (results_vbk2 rfl (by rfl) (v := .int .i64 E) (by first | rfl | (simp; done)) ((HR.out.below hb1).setRow _) Try.underlying55 rfl (lsC_info _)) rfl ⟨E, rfl, ?_⟩
    exact below_setRow (chain HB.out hb1) (by omega) _
end Go.Proofs.Try
