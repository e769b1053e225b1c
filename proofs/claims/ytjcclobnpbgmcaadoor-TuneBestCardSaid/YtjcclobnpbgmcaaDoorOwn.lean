/- Slices that are read, and rows of the call's own that are appended to: one law for any source (none, empty, or not). -/
import Derived.Test.YtjcclobnpbgmcaaDoorBase
import Derived.Maps.AppendAt
import Derived.Laws.AppendOwnNone
import Derived.Deep.AppendLies
import Derived.RegionTactic
import Derived.OwnWalk
namespace Go.Proofs.Tryd
open Go.RowKit
set_option linter.unusedVariables false

/-- A slice at this address, of n elements of k cells each, has the cells xs in the world w. -/
def Sees (w : World) (k : Nat) (A : Option Addr) (n : Nat) (xs : List Value) : Prop :=
  xs.length = n * k ∧ (n = 0 ∨ ∃ b off, A = some ⟨b, off, none⟩ ∧ b < w.heap.size ∧ ∀ j, j < xs.length → w.cell? ⟨b, off + j, none⟩ = xs[j]?)

/-- What a slice's capacity may be. -/
def CapOk (A : Option Addr) (n c : Nat) : Prop := (A = none → c = 0) ∧ n ≤ c
theorem cap_some {a : Addr} {n c : Nat} (h : n ≤ c) : CapOk (some a) n c := ⟨fun h => (by cases h), h⟩
theorem cap_none : CapOk none 0 0 := ⟨fun _ => rfl, Nat.le_refl _⟩
theorem add_plain (b off j : Nat) : (⟨b, off, none⟩ : Addr).add j = ⟨b, off + j, none⟩ := by
  unfold Addr.add
  split <;> simp_all

section
variable {w w' : World} {k n : Nat} {A : Option Addr} {xs : List Value}
theorem Sees.empty (w : World) (k : Nat) (A : Option Addr) : Sees w k A 0 [] := ⟨by simp, .inl rfl⟩
theorem Sees.below (h : Sees w k A n xs) (hb : Below w.heap.size w w') : Sees w' k A n xs := by
  refine ⟨h.1, h.2.imp id ?_⟩
  rintro ⟨b, off, hA, hlt, hc⟩
  exact ⟨b, off, hA, Nat.lt_of_lt_of_le hlt hb.size, fun j hj => (hb.cell (p := ⟨b, off + j, none⟩) hlt).trans (hc j hj)⟩
theorem Sees.drew (h : Sees w k A n xs) : Sees w.drew k A n xs := h
/-- The j-th cell of a slice that isn't empty. -/
theorem Sees.cell {b off : Nat} (h : Sees w k (some ⟨b, off, none⟩) n xs) {j : Nat} (hj : j < n * k) : ∃ u, xs[j]? = some u ∧ w.cell? ⟨b, off + j, none⟩ = some u := by
  obtain ⟨hl, h0 | ⟨b', off', hA, _, hc⟩⟩ := h
  · subst h0; omega
  · injection hA with hA
    injection hA with e1 e2
    subst e1 e2
    have hj' : j < xs.length := by omega
    exact ⟨xs[j], List.getElem?_eq_getElem hj', (hc j hj').trans (List.getElem?_eq_getElem hj')⟩
/-- A row of the call's own is read. -/
theorem Sees.of_own {base : Nat} {e : TypeId} {v : Value} (h : w.ownsRow base e k v n xs) : ∃ A c, v = .slice A n c ∧ CapOk A n c ∧ Sees w k A n xs := by
  obtain ⟨hl, h⟩ := h
  rcases h with ⟨rfl, rfl⟩ | ⟨g, cap, cur, rfl, hb, hg, hn, hm, hcur, ht⟩
  · exact ⟨none, 0, rfl, ⟨fun _ => rfl, Nat.le_refl _⟩, hl, .inl rfl⟩
  · refine ⟨some ⟨g, 0, none⟩, cap, rfl, cap_some hn, hl, .inr ⟨g, 0, rfl, (Array.getElem?_eq_some_iff.1 hg).1, fun j hj => ?_⟩⟩
    rw [Nat.zero_add, cell_of_row w g j cur e (0, 0) hg, ← ht, List.getElem?_take, if_pos (by rw [← hl]; exact hj)]
    simp
end

/-- A number of a slice of numbers. -/
theorem Sees.int {w : World} {n : Nat} {K : IntKind} {xs : List Int} {b off : Nat} (h : Sees w 1 (some ⟨b, off, none⟩) n (xs.map (Value.int K))) {j : Nat} (hj : j < n) : w.cell? ⟨b, off + j, none⟩ = some (.int K (xs.getD j 0)) := by
  obtain ⟨u, hu, hc⟩ := h.cell (j := j) (by omega)
  rw [List.getElem?_map] at hu
  rw [hc, List.getD_eq_getElem?_getD]
  cases hx : xs[j]? with
  | none => rw [hx] at hu; cases hu
  | some x => rw [hx] at hu; simp at hu; simp [hu]
theorem Sees.len {w : World} {n : Nat} {K : IntKind} {A : Option Addr} {xs : List Int} (h : Sees w 1 A n (xs.map (Value.int K))) : xs.length = n := by
  have := h.1; simpa using this
/-- A block just made of one cell is read. -/
theorem Sees.one (w : World) (x : Value) (t : TypeId) : Sees (w.alloc (.cells #[x] t)) 1 (some ⟨w.heap.size, 0, none⟩) 1 [x] := by
  refine ⟨by simp, .inr ⟨_, _, rfl, by simp, fun j hj => ?_⟩⟩
  have hj0 : j = 0 := by simp at hj; omega
  subst hj0
  simp
/-- A block just made is read. -/
theorem Sees.new (w : World) (cs : Array Value) (t : TypeId) : Sees (w.alloc (.cells cs t)) 1 (some ⟨w.heap.size, 0, none⟩) cs.size cs.toList := by
  refine ⟨by simp, .inr ⟨_, _, rfl, by simp, fun j hj => ?_⟩⟩
  rw [Nat.zero_add, cell_of_row _ _ j cs t (0, 0) (heap_alloc_new w _)]
  simp
theorem Sees.alloc {w : World} {k n : Nat} {A : Option Addr} {xs : List Value} (h : Sees w k A n xs) (o : Obj) : Sees (w.alloc o) k A n xs := h.below ((Below.refl _ _).alloc (Nat.le_refl _) _)
theorem ints_one (K : IntKind) (zs : List Int) : ∀ u ∈ zs.map (Value.int K), u.oneCell' = true := ints_oneCell K zs

/-- 'append' to a row of the call's own, of whatever slice is read. -/
theorem wpList_app {P : Program} {w : World} {ops : Array Oper} {rest : List Oper} {o : Oper} {a : Act} {Q : Exit → Act → World → Prop} (hgd : o.guard = none) (s x : Operand) (t : TypeId)
    (ho : o.op = .call { callee := .builtin .append, args := #[s, x], argTypes := #[t, t] })
    (base : Nat) (e : TypeId) (i : TypeInfo) (z : Value) (size bytes : Nat) (ht : P.underlying t = some (.slice e)) (hi : P.info? e = some i) (hz : i.zero = some z)
    (hsize : i.size = size) (hby : i.bytes = bytes) (hzs : z.cells.size = size) (hsz : 0 < size)
    (v : Value) (n : Nat) (xs : List Value) (hs : a.eval s = v) (hown : w.ownsRow base e size v n xs)
    (A : Option Addr) (m c : Nat) (news : List Value) (hx : a.eval x = .slice A m c) (hc : CapOk A m c) (hr : Sees w size A m news) (h1 : ∀ u ∈ news, u.oneCell' = true)
    (h63 : n + m ≤ maxLen) (hbytes : (n + m) * bytes ≤ 140737488355328) (hbase : base ≤ w.heap.size)
    (h : ∀ v' w', w'.ownsRow base e size v' (n + m) (xs ++ news) → Below base w w' → wpList P ops Q rest (a.put o.dst v') w') : wpList P ops Q (o :: rest) a w := by
  have fin : ∀ v' w', w'.ownsRow base e size v' (n + m) (xs ++ news) → w.grownBy w' v.ownBlock → wpList P ops Q rest (a.put o.dst v') w' := fun v' w' h2 h3 =>
    h v' w' h2 ((Below.refl _ _).grown h3 hbase (fun k hk => (hown.lt k hk).1))
  rcases A with _ | ad
  · have hm : m = 0 := by
      rcases hr.2 with h0 | ⟨b, off, hA, _⟩
      · exact h0
      · cases hA
    subst hm
    have hn : news = [] := List.eq_nil_of_length_eq_zero (by simpa using hr.1)
    subst hn
    have hc0 := hc.1 rfl
    subst hc0
    refine wpList_append_own_none hgd s x t ho base e i size ht hi v n xs hs hown hx ?_
    exact fin v w (by simpa using hown) (World.grownBy.refl w _)
  · have hnews : ∀ j u, news[j]? = some u → w.cell? (ad.add j) = some u := by
      intro j u hu
      have hj : j < news.length := (List.getElem?_eq_some_iff.1 hu).1
      rcases hr.2 with h0 | ⟨b, off, hA, _, hcc⟩
      · have := hr.1; subst h0; omega
      · injection hA with hA
        subst hA
        rw [add_plain, hcc j hj, hu]
    exact wpList_append_own_at w hgd s x t ho base e i z size bytes ht hi hz hsize hby hzs hsz v n xs hs hown ad m c news hx hr.1 hnews h1 h63 hbytes hbase fun v' w' h2 h3 _ _ => fin v' w' h2 h3
end Go.Proofs.Tryd
