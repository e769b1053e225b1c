/- Contracts of ratio.Cmp and linhayref03.Cmp. -/
import Derived.Test.YtjkjnpcikddoaaaFix
import Derived.Test.YtjkjnpcikddoaaaRef2
import Derived.Test.YtjkjnpcikddoaaaRef2d
import Derived.Deep.RegionHeld3
import Derived.Deep.RegionWith
import Derived.Deep.DeepCutAuto
namespace Go.Proofs.Try
open Go.RowKit
set_option linter.unusedVariables false

/-- -1, 0 or 1, as x is below y, y, or above it. -/
def cmpI (x y : Int) : Int := if x < y then -1 else if x = y then 0 else 1
theorem cmpW_div (x y : Int) : cmpW (x / 18446744073709551616) (x % 18446744073709551616) (y / 18446744073709551616) (y % 18446744073709551616) = cmpI x y := by
  unfold cmpW cmpI
  (repeat' split) <;> omega

theorem some_y (n d : Int) (h : 0 < d) (w : World) :
    Calls Try.prog 95 #[.agg #[.int .u64 n, .int .u64 d]] w fun r w' => r = .returned (.bool true) ∧ Below w.heap.size w w' := by
  have h1 : (d == 0) = false := by simp; omega
  have h2 : (d != 0) = true := by simp; omega
  go_enter Try.func95, Try.ntmps95
  go_wp2_with fail
  go_ret
  exact ⟨rfl, by (repeat' (first | (with_reducible exact Below.refl _ _) | (with_reducible assumption) | (with_reducible refine Below.alloc ?_ ?_ _) | (with_reducible refine Below.drew ?_) | (with_reducible refine Below_drewN ?_ _) | (with_reducible refine Below.setCell ?_ ?_ _) | (refine Below.step (B' := ?_) (b := ?_) ?_ ?_ ?_; rotate_left 2; (with_reducible assumption)) | go_size))⟩
theorem some_n (n : Int) (w : World) :
    Calls Try.prog 95 #[.agg #[.int .u64 n, .int .u64 0]] w fun r w' => r = .returned (.bool false) ∧ Below w.heap.size w w' := by
  go_enter Try.func95, Try.ntmps95
  go_wp2_with fail
  go_ret
  exact ⟨rfl, by (repeat' (first | (with_reducible exact Below.refl _ _) | (with_reducible assumption) | (with_reducible refine Below.alloc ?_ ?_ _) | (with_reducible refine Below.drew ?_) | (with_reducible refine Below_drewN ?_ _) | (with_reducible refine Below.setCell ?_ ?_ _) | (refine Below.step (B' := ?_) (b := ?_) ?_ ?_ ?_; rotate_left 2; (with_reducible assumption)) | go_size))⟩

set_option maxRecDepth 100000 in
set_option maxHeartbeats 2000000 in
theorem rcmp_ok (an ad bn bd : Int) (h1 : 0 ≤ an) (h2 : 0 < ad) (h3 : 0 ≤ bn) (h4 : 0 < bd) (g1 : an < 18446744073709551616) (g2 : ad < 18446744073709551616) (g3 : bn < 18446744073709551616) (g4 : bd < 18446744073709551616) (w : World) :
    Calls Try.prog 93 #[.agg #[.int .u64 an, .int .u64 ad], .agg #[.int .u64 bn, .int .u64 bd]] w fun r w' => r = .returned (.tuple #[.int .i64 (cmpI (an * bd) (bn * ad)), .int .i64 0]) ∧ Below w.heap.size w w' := by
  have HC_A : Hid (∀ W W' : World, Below W.heap.size W W' → (W.cell? ⟨w.heap.size, 0, none⟩ = some (.int .u64 an) ∧ W.cell? ⟨w.heap.size, 1, none⟩ = some (.int .u64 ad) ∧ W.cell? ⟨w.heap.size + 1, 0, none⟩ = some (.int .u64 bn) ∧ W.cell? ⟨w.heap.size + 1, 1, none⟩ = some (.int .u64 bd) ∧ w.heap.size < W.heap.size ∧ w.heap.size + 1 < W.heap.size ∧ Below w.heap.size w W) → (W'.cell? ⟨w.heap.size, 0, none⟩ = some (.int .u64 an) ∧ W'.cell? ⟨w.heap.size, 1, none⟩ = some (.int .u64 ad) ∧ W'.cell? ⟨w.heap.size + 1, 0, none⟩ = some (.int .u64 bn) ∧ W'.cell? ⟨w.heap.size + 1, 1, none⟩ = some (.int .u64 bd) ∧ w.heap.size < W'.heap.size ∧ w.heap.size + 1 < W'.heap.size ∧ Below w.heap.size w W')) := fun W W' hb ⟨c0, c1, c2, c3, l0, l1, h⟩ => ⟨(hb.cell (p := ⟨w.heap.size, 0, none⟩) l0).trans c0, (hb.cell (p := ⟨w.heap.size, 1, none⟩) l0).trans c1, (hb.cell (p := ⟨w.heap.size + 1, 0, none⟩) l1).trans c2, (hb.cell (p := ⟨w.heap.size + 1, 1, none⟩) l1).trans c3, Nat.lt_of_lt_of_le l0 hb.size, Nat.lt_of_lt_of_le l1 hb.size, h.trans (hb.mono h.size)⟩
  have HA_A : Hid (∀ (W : World) (o : Obj), (W.cell? ⟨w.heap.size, 0, none⟩ = some (.int .u64 an) ∧ W.cell? ⟨w.heap.size, 1, none⟩ = some (.int .u64 ad) ∧ W.cell? ⟨w.heap.size + 1, 0, none⟩ = some (.int .u64 bn) ∧ W.cell? ⟨w.heap.size + 1, 1, none⟩ = some (.int .u64 bd) ∧ w.heap.size < W.heap.size ∧ w.heap.size + 1 < W.heap.size ∧ Below w.heap.size w W) → ((W.alloc o).cell? ⟨w.heap.size, 0, none⟩ = some (.int .u64 an) ∧ (W.alloc o).cell? ⟨w.heap.size, 1, none⟩ = some (.int .u64 ad) ∧ (W.alloc o).cell? ⟨w.heap.size + 1, 0, none⟩ = some (.int .u64 bn) ∧ (W.alloc o).cell? ⟨w.heap.size + 1, 1, none⟩ = some (.int .u64 bd) ∧ w.heap.size < (W.alloc o).heap.size ∧ w.heap.size + 1 < (W.alloc o).heap.size ∧ Below w.heap.size w (W.alloc o))) := fun W o => HC_A.out W (W.alloc o) ((Below.refl _ _).alloc (Nat.le_refl _) _)
  have HD_A : Hid (∀ (W : World), (W.cell? ⟨w.heap.size, 0, none⟩ = some (.int .u64 an) ∧ W.cell? ⟨w.heap.size, 1, none⟩ = some (.int .u64 ad) ∧ W.cell? ⟨w.heap.size + 1, 0, none⟩ = some (.int .u64 bn) ∧ W.cell? ⟨w.heap.size + 1, 1, none⟩ = some (.int .u64 bd) ∧ w.heap.size < W.heap.size ∧ w.heap.size + 1 < W.heap.size ∧ Below w.heap.size w W) → (W.drew.cell? ⟨w.heap.size, 0, none⟩ = some (.int .u64 an) ∧ W.drew.cell? ⟨w.heap.size, 1, none⟩ = some (.int .u64 ad) ∧ W.drew.cell? ⟨w.heap.size + 1, 0, none⟩ = some (.int .u64 bn) ∧ W.drew.cell? ⟨w.heap.size + 1, 1, none⟩ = some (.int .u64 bd) ∧ w.heap.size < W.drew.heap.size ∧ w.heap.size + 1 < W.drew.heap.size ∧ Below w.heap.size w W.drew)) := fun W => HC_A.out W W.drew (Below.refl _ _).drew
  have HR_A : Hid (∀ (W : World) (o o' : Obj), (w.heap.size < W.heap.size ∧ w.heap.size + 1 < W.heap.size) → ((W.alloc o).cell? ⟨w.heap.size, 0, none⟩ = some (.int .u64 an) ∧ (W.alloc o).cell? ⟨w.heap.size, 1, none⟩ = some (.int .u64 ad) ∧ (W.alloc o).cell? ⟨w.heap.size + 1, 0, none⟩ = some (.int .u64 bn) ∧ (W.alloc o).cell? ⟨w.heap.size + 1, 1, none⟩ = some (.int .u64 bd) ∧ w.heap.size < (W.alloc o).heap.size ∧ w.heap.size + 1 < (W.alloc o).heap.size ∧ Below w.heap.size w (W.alloc o)) → ((W.alloc o').cell? ⟨w.heap.size, 0, none⟩ = some (.int .u64 an) ∧ (W.alloc o').cell? ⟨w.heap.size, 1, none⟩ = some (.int .u64 ad) ∧ (W.alloc o').cell? ⟨w.heap.size + 1, 0, none⟩ = some (.int .u64 bn) ∧ (W.alloc o').cell? ⟨w.heap.size + 1, 1, none⟩ = some (.int .u64 bd) ∧ w.heap.size < (W.alloc o').heap.size ∧ w.heap.size + 1 < (W.alloc o').heap.size ∧ Below w.heap.size w (W.alloc o'))) := fun W o o' ⟨m0, m1⟩ ⟨c0, c1, c2, c3, l0, l1, h⟩ => ⟨(World.cell?_alloc_past _ _ _ m0).trans ((World.cell?_alloc_past _ _ _ m0).symm.trans c0), (World.cell?_alloc_past _ _ _ m0).trans ((World.cell?_alloc_past _ _ _ m0).symm.trans c1), (World.cell?_alloc_past _ _ _ m1).trans ((World.cell?_alloc_past _ _ _ m1).symm.trans c2), (World.cell?_alloc_past _ _ _ m1).trans ((World.cell?_alloc_past _ _ _ m1).symm.trans c3), (by have := m0; simp; omega), (by have := m1; simp; omega), Below.realloc h (by have := h.size; simp at this; omega)⟩
  have E := cmpW_div (an * bd) (bn * ad)
  go_enter Try.func93, Try.ntmps93
  go_wp2_with fail
  with_reducible refine (some_y _ _ h2 _).mono ?_
  rintro e w1 ⟨rfl, hb1⟩
  obtain ⟨hc_w1, hf_w1, hz_w1⟩ := kept hb1; (try have hzw0_w1 : w.heap.size < w1.heap.size := (by have := hz_w1; first | omega | (simp at this; omega))); (try have hzw1_w1 : w.heap.size + 1 < w1.heap.size := (by have := hz_w1; first | omega | (simp at this; omega)))
  go_wp2_with fail
  with_reducible refine (some_y _ _ h4 _).mono ?_
  rintro e w2 ⟨rfl, hb2⟩
  obtain ⟨hc_w2, hf_w2, hz_w2⟩ := kept hb2; (try have hzw0_w2 : w.heap.size < w2.heap.size := (by have := hz_w2; first | omega | (simp at this; omega))); (try have hzw1_w2 : w.heap.size + 1 < w2.heap.size := (by have := hz_w2; first | omega | (simp at this; omega)))
  go_wp2_with fail
  refine let_go (G := Code.wp _ _ _ _) (fun W => (W.cell? ⟨w.heap.size, 0, none⟩ = some (.int .u64 an) ∧ W.cell? ⟨w.heap.size, 1, none⟩ = some (.int .u64 ad) ∧ W.cell? ⟨w.heap.size + 1, 0, none⟩ = some (.int .u64 bn) ∧ W.cell? ⟨w.heap.size + 1, 1, none⟩ = some (.int .u64 bd) ∧ w.heap.size < W.heap.size ∧ w.heap.size + 1 < W.heap.size ∧ Below w.heap.size w W)) ?_ ?_
  · (refine ⟨?_, ?_, ?_, ?_, ?_, ?_, ?_⟩ <;> first | (go_simp; done) | omega | (simp; done) | (simp; omega) | (repeat' (first | (with_reducible exact Below.refl _ _) | (with_reducible assumption) | (with_reducible refine Below.alloc ?_ ?_ _) | (with_reducible refine Below.drew ?_) | (with_reducible refine Below_drewN ?_ _) | (with_reducible refine Below.setCell ?_ ?_ _) | (refine Below.step (B' := ?_) (b := ?_) ?_ ?_ ?_; rotate_left 2; (with_reducible assumption)) | go_size)))
  intro W1 hS
  clear hc_w1 hf_w1 hz_w1 hc_w2 hf_w2 hz_w2 hb1 hb2
  (try simp only [List.append_eq, List.cons_append, List.nil_append])
  go_region_held3 (fun W => (W.cell? ⟨w.heap.size, 0, none⟩ = some (.int .u64 an) ∧ W.cell? ⟨w.heap.size, 1, none⟩ = some (.int .u64 ad) ∧ W.cell? ⟨w.heap.size + 1, 0, none⟩ = some (.int .u64 bn) ∧ W.cell? ⟨w.heap.size + 1, 1, none⟩ = some (.int .u64 bd) ∧ w.heap.size < W.heap.size ∧ w.heap.size + 1 < W.heap.size ∧ Below w.heap.size w W)) ((first | (with_reducible refine HD_A.out _ ?_; (with_reducible assumption)) | (with_reducible refine HA_A.out _ _ ?_; (with_reducible assumption)) | (with_reducible refine HC_A.out ?_ _ ?_ ?_; rotate_left 1; (with_reducible assumption); (with_reducible assumption)) | (with_reducible refine HR_A.out _ ?_ _ ?_ ?_; rotate_left 2; (with_reducible assumption); (first | omega | (refine ⟨?_, ?_⟩ <;> omega) | (refine ⟨?_, ?_, ?_⟩ <;> omega) | (refine ⟨?_, ?_, ?_, ?_⟩ <;> omega)))))
    (first
      | (go_at_call 99; refine (wmul_c _ _ (by omega) (by omega) (by omega) (by omega) _).mono ?_; rintro e w1 ⟨rfl, hb⟩)
      | (go_at_call 104; refine (wcmp_c _ _ _ _ _).mono ?_; rintro e w1 ⟨rfl, hb⟩))
  go_wp2_with fail
  go_ret2
  exact ⟨by first | rfl | (simp; done), by go_keep⟩
theorem rcmp_n1 (an bn bd : Int) (w : World) :
    Calls Try.prog 93 #[.agg #[.int .u64 an, .int .u64 0], .agg #[.int .u64 bn, .int .u64 bd]] w fun r w' => r = .returned (.tuple #[.int .i64 0, .int .i64 20]) ∧ Below w.heap.size w w' := by
  go_enter Try.func93, Try.ntmps93
  go_wp2_with fail
  with_reducible refine (some_n _ _).mono ?_
  rintro e w1 ⟨rfl, hb1⟩
  obtain ⟨hc_w1, hf_w1, hz_w1⟩ := kept hb1; (try have hzw0_w1 : w.heap.size < w1.heap.size := (by have := hz_w1; first | omega | (simp at this; omega))); (try have hzw1_w1 : w.heap.size + 1 < w1.heap.size := (by have := hz_w1; first | omega | (simp at this; omega)))
  go_wp2_with fail
  go_ret2
  exact ⟨rfl, by (repeat' (first | (with_reducible exact Below.refl _ _) | (with_reducible assumption) | (with_reducible refine Below.alloc ?_ ?_ _) | (with_reducible refine Below.drew ?_) | (with_reducible refine Below_drewN ?_ _) | (with_reducible refine Below.setCell ?_ ?_ _) | (refine Below.step (B' := ?_) (b := ?_) ?_ ?_ ?_; rotate_left 2; (with_reducible assumption)) | go_size))⟩
theorem rcmp_n2 (an ad bn : Int) (h : 0 < ad) (w : World) :
    Calls Try.prog 93 #[.agg #[.int .u64 an, .int .u64 ad], .agg #[.int .u64 bn, .int .u64 0]] w fun r w' => r = .returned (.tuple #[.int .i64 0, .int .i64 20]) ∧ Below w.heap.size w w' := by
  go_enter Try.func93, Try.ntmps93
  go_wp2_with fail
  with_reducible refine (some_y _ _ h _).mono ?_
  rintro e w1 ⟨rfl, hb1⟩
  obtain ⟨hc_w1, hf_w1, hz_w1⟩ := kept hb1; (try have hzw0_w1 : w.heap.size < w1.heap.size := (by have := hz_w1; first | omega | (simp at this; omega))); (try have hzw1_w1 : w.heap.size + 1 < w1.heap.size := (by have := hz_w1; first | omega | (simp at this; omega)))
  go_wp2_with fail
  with_reducible refine (some_n _ _).mono ?_
  rintro e w2 ⟨rfl, hb2⟩
  obtain ⟨hc_w2, hf_w2, hz_w2⟩ := kept hb2; (try have hzw0_w2 : w.heap.size < w2.heap.size := (by have := hz_w2; first | omega | (simp at this; omega))); (try have hzw1_w2 : w.heap.size + 1 < w2.heap.size := (by have := hz_w2; first | omega | (simp at this; omega)))
  go_wp2_with fail
  go_ret2
  exact ⟨rfl, by (repeat' (first | (with_reducible exact Below.refl _ _) | (with_reducible assumption) | (with_reducible refine Below.alloc ?_ ?_ _) | (with_reducible refine Below.drew ?_) | (with_reducible refine Below_drewN ?_ _) | (with_reducible refine Below.setCell ?_ ?_ _) | (refine Below.step (B' := ?_) (b := ?_) ?_ ?_ ?_; rotate_left 2; (with_reducible assumption)) | go_size))⟩

/-- What Cmp tells. -/
def rcV (an ad bn bd : Int) : Int := if ad = 0 ∨ bd = 0 then 0 else cmpI (an * bd) (bn * ad)
def rcE (ad bd : Int) : Int := if ad = 0 ∨ bd = 0 then 20 else 0
theorem rcmp_c (an ad bn bd : Int) (h1 : 0 ≤ an) (h2 : 0 ≤ ad) (h3 : 0 ≤ bn) (h4 : 0 ≤ bd) (g1 : an < 18446744073709551616) (g2 : ad < 18446744073709551616) (g3 : bn < 18446744073709551616) (g4 : bd < 18446744073709551616) (w : World) :
    Calls Try.prog 93 #[.agg #[.int .u64 an, .int .u64 ad], .agg #[.int .u64 bn, .int .u64 bd]] w fun r w' => r = .returned (.tuple #[.int .i64 (rcV an ad bn bd), .int .i64 (rcE ad bd)]) ∧ Below w.heap.size w w' := by
  by_cases ha : ad = 0
  · subst ha
    rw [rcV, if_pos (.inl rfl), rcE, if_pos (.inl rfl)]
    exact rcmp_n1 an bn bd w
  · by_cases hb : bd = 0
    · subst hb
      rw [rcV, if_pos (.inr rfl), rcE, if_pos (.inr rfl)]
      exact rcmp_n2 an ad bn (by omega) w
    · rw [rcV, if_neg (by omega), rcE, if_neg (by omega)]
      exact rcmp_ok an ad bn bd h1 (by omega) h3 (by omega) g1 g2 g3 g4 w

set_option maxRecDepth 100000 in
set_option maxHeartbeats 2000000 in
theorem rrcmp_c (an ad bn bd : Int) (h1 : 0 ≤ an) (h2 : 0 ≤ ad) (h3 : 0 ≤ bn) (h4 : 0 ≤ bd) (g1 : an < 18446744073709551616) (g2 : ad < 18446744073709551616) (g3 : bn < 18446744073709551616) (g4 : bd < 18446744073709551616) (w : World) :
    Calls Try.prog 40 #[.agg #[.int .u64 an, .int .u64 ad], .agg #[.int .u64 bn, .int .u64 bd]] w fun r w' => r = .returned (.tuple #[.int .i64 (rcV an ad bn bd), .int .i64 (rcE ad bd)]) ∧ Below w.heap.size w w' := by
  by_cases ha : ad = 0
  · subst ha
    rw [rcV, if_pos (.inl rfl), rcE, if_pos (.inl rfl)]
    go_enter Try.func40, Try.ntmps40
    go_wp2_with fail
    go_ret2
    exact ⟨rfl, by (repeat' (first | (with_reducible exact Below.refl _ _) | (with_reducible assumption) | (with_reducible refine Below.alloc ?_ ?_ _) | (with_reducible refine Below.drew ?_) | (with_reducible refine Below_drewN ?_ _) | (with_reducible refine Below.setCell ?_ ?_ _) | (refine Below.step (B' := ?_) (b := ?_) ?_ ?_ ?_; rotate_left 2; (with_reducible assumption)) | go_size))⟩
  · have ha1 : (ad == 0) = false := by simpa using ha
    by_cases hb : bd = 0
    · subst hb
      rw [rcV, if_pos (.inr rfl), rcE, if_pos (.inr rfl)]
      go_enter Try.func40, Try.ntmps40
      go_wp2_with fail
      go_ret2
      exact ⟨rfl, by (repeat' (first | (with_reducible exact Below.refl _ _) | (with_reducible assumption) | (with_reducible refine Below.alloc ?_ ?_ _) | (with_reducible refine Below.drew ?_) | (with_reducible refine Below_drewN ?_ _) | (with_reducible refine Below.setCell ?_ ?_ _) | (refine Below.step (B' := ?_) (b := ?_) ?_ ?_ ?_; rotate_left 2; (with_reducible assumption)) | go_size))⟩
    · have hb1 : (bd == 0) = false := by simpa using hb
      rw [rcV, if_neg (by omega), rcE, if_neg (by omega)]
      have E := cmpW_div (an * bd) (bn * ad)
      clear ha hb
      go_enter Try.func40, Try.ntmps40
      go_wp2_with fail
      refine (rmul2_c _ _ (by omega) (by omega) (by omega) (by omega) _).mono ?_
      rintro e w1 ⟨rfl, hb2⟩
      obtain ⟨hc_w1, hf_w1, hz_w1⟩ := kept hb2; (try have hzw0_w1 : w.heap.size < w1.heap.size := (by have := hz_w1; first | omega | (simp at this; omega))); (try have hzw1_w1 : w.heap.size + 1 < w1.heap.size := (by have := hz_w1; first | omega | (simp at this; omega)))
      go_wp2_with fail
      refine (rmul2_c _ _ (by omega) (by omega) (by omega) (by omega) _).mono ?_
      rintro e w2 ⟨rfl, hb3⟩
      obtain ⟨hc_w2, hf_w2, hz_w2⟩ := kept hb3; (try have hzw0_w2 : w.heap.size < w2.heap.size := (by have := hz_w2; first | omega | (simp at this; omega))); (try have hzw1_w2 : w.heap.size + 1 < w2.heap.size := (by have := hz_w2; first | omega | (simp at this; omega))); (try have hzw10_w2 : w1.heap.size < w2.heap.size := (by have := hz_w2; first | omega | (simp at this; omega)))
      go_wp2_with fail
      refine (rcmp2_c _ _ _ _ _).mono ?_
      rintro e w3 ⟨rfl, hb4⟩
      obtain ⟨hc_w3, hf_w3, hz_w3⟩ := kept hb4; (try have hzw0_w3 : w.heap.size < w3.heap.size := (by have := hz_w3; first | omega | (simp at this; omega))); (try have hzw1_w3 : w.heap.size + 1 < w3.heap.size := (by have := hz_w3; first | omega | (simp at this; omega))); (try have hzw10_w3 : w1.heap.size < w3.heap.size := (by have := hz_w3; first | omega | (simp at this; omega))); (try have hzw20_w3 : w2.heap.size < w3.heap.size := (by have := hz_w3; first | omega | (simp at this; omega)))
      go_wp2_with fail
      go_ret2
      exact ⟨by first | rfl | (simp; done), by (repeat' (first | (with_reducible exact Below.refl _ _) | (with_reducible assumption) | (with_reducible refine Below.alloc ?_ ?_ _) | (with_reducible refine Below.drew ?_) | (with_reducible refine Below_drewN ?_ _) | (with_reducible refine Below.setCell ?_ ?_ _) | (refine Below.step (B' := ?_) (b := ?_) ?_ ?_ ?_; rotate_left 2; (with_reducible assumption)) | go_size))⟩
end Go.Proofs.Try
