/- The laws of layer 9: awake. -/
import Derived.Test.YthijffdljoeelaaThing6
import Derived.LoopN
import Derived.WalkMore
namespace Go.Proofs.Try
open Go.RowKit Go.Maps
set_option linter.unusedVariables false

theorem tags_ok (A : Option Addr) (n c : Nat) (ss : List ByteArray) (w : World) (h : Sees w 1 A n (ss.map Value.string)) (hn : n ≤ 1000000) (hsz : ∀ s ∈ ss, s.size ≤ 4611686018427387904) (hg : good ss) (L : List (List UInt8)) (hL : tagsL ss = L) (k : Nat) (hk : L.length = k) :
    Calls Try.prog 27 #[.slice A n c] w fun r w' => ∃ A' c', r = .returned (.tuple #[.slice A' k c', .int .i64 0]) ∧ CapOk A' k c' ∧ Sees w' 1 A' k (L.map encStr) ∧ Below w.heap.size w w' := by
  refine (tags_c A n c ss w h hn hsz).mono ?_
  rintro e w' ⟨hb, h1, _⟩
  obtain ⟨A', k', c', rfl, hl, hc, hs⟩ := h1 hg
  rw [hL] at hl hs
  obtain rfl : k' = k := by omega
  exact ⟨A', c', rfl, hc, hs, hb⟩
theorem tags_bad (A : Option Addr) (n c : Nat) (ss : List ByteArray) (w : World) (h : Sees w 1 A n (ss.map Value.string)) (hn : n ≤ 1000000) (hsz : ∀ s ∈ ss, s.size ≤ 4611686018427387904) (hg : ¬ good ss) :
    Calls Try.prog 27 #[.slice A n c] w fun r w' => r = .returned (.tuple #[.slice none 0 0, .int .i64 90]) ∧ Below w.heap.size w w' := by
  refine (tags_c A n c ss w h hn hsz).mono ?_
  rintro e w' ⟨hb, _, h1⟩
  exact ⟨h1 hg, hb⟩
theorem sizes_of (L : List ByteArray) (h : (L.all fun s => decide (s.size ≤ 4611686018427387904)) = true) : ∀ s ∈ L, s.size ≤ 4611686018427387904 := fun s hs => of_decide_eq_true (List.all_eq_true.1 h s hs)
theorem good_of (L : List ByteArray) (h : (L.all fun s => decide (1 ≤ s.size ∧ s.size ≤ 8)) = true) (h2 : (dd L).length ≤ 3) : good L := ⟨fun s hs => of_decide_eq_true (List.all_eq_true.1 h s hs), h2⟩
theorem tagsL_eq (ss : List ByteArray) (L : List (List UInt8)) (hp : ((dd ss).map bytesOf).Perm L) (hs : L.Pairwise (fun a b => leB a b = true)) : tagsL ss = L := by
  unfold tagsL
  rw [mergeSort_of_perm hp]
  exact List.mergeSort_of_pairwise hs
theorem Sees.enc {w : World} {n : Nat} {xs : List (List UInt8)} {b off : Nat} (h : Sees w 1 (some ⟨b, off, none⟩) n (xs.map encStr)) {j : Nat} (hj : j < n) : w.cell? ⟨b, off + j, none⟩ = some (.string ⟨(xs.getD j []).toArray⟩) := by
  obtain ⟨u, hu, hc⟩ := h.cell (j := j) (by omega)
  rw [List.getElem?_map] at hu
  rw [hc, List.getD_eq_getElem?_getD]
  cases hx : xs[j]? with
  | none => rw [hx] at hu; cases hu
  | some x => rw [hx] at hu; simp [encStr] at hu; simp [hu]
set_option maxHeartbeats 400000 in
theorem same7_t (A B : Option Addr) (n c d : Nat) (xs : List (List UInt8)) (w : World) (hA : Sees w 1 A n (xs.map encStr)) (hB : Sees w 1 B n (xs.map encStr)) (hn : n ≤ 1000000) :
    Calls Try.prog 31 #[.slice A n c, .slice B n d] w fun r w' => r = .returned (.bool true) ∧ Below w.heap.size w w' := by
  rcases hA.2 with h0 | ⟨b, off, rfl, _, _⟩
  · subst h0
    go_enter Try.func31, Try.ntmps31
    go_wp2_with fail
    go_loop [5] (fun i => i = .int .i64 0) (fun i => 0)
    case atStart => rfl
    case round =>
      subst hrel
      go_wp2_with fail
      go_ret
      exact ⟨rfl, Below.refl _ _⟩
  · rcases hB.2 with h0 | ⟨b', off', rfl, _, _⟩
    · subst h0
      go_enter Try.func31, Try.ntmps31
      go_wp2_with fail
      go_loop [5] (fun i => i = .int .i64 0) (fun i => 0)
      case atStart => rfl
      case round =>
        subst hrel
        go_wp2_with fail
        go_ret
        exact ⟨rfl, Below.refl _ _⟩
    · have HC : Hid (∀ j, j < n → w.cell? ⟨b, off + j, none⟩ = some (.string ⟨(xs.getD j []).toArray⟩)) := fun j hj => hA.enc hj
      have HD : Hid (∀ j, j < n → w.cell? ⟨b', off' + j, none⟩ = some (.string ⟨(xs.getD j []).toArray⟩)) := fun j hj => hB.enc hj
      clear hA hB
      go_enter Try.func31, Try.ntmps31
      go_wp2_with fail
      go_loopw [5] (fun i wr => ∃ k m : Nat, k ≤ n ∧ i = .int .i64 k ∧ wr = w.drewN m) (fun i _ => n - (intOf i).toNat)
      case atStart => exact ⟨0, 0, by omega, rfl, rfl⟩
      case round =>
        obtain ⟨k, m, hk, rfl, rfl⟩ := hrel
        by_cases hlt : k < n
        · have hc := HC.out k hlt
          have hd := HD.out k hlt
          obtain ⟨x, hx⟩ : ∃ x : ByteArray, ⟨(xs.getD k []).toArray⟩ = x := ⟨_, rfl⟩
          rw [hx] at hc hd
          clear hx
          go_wp2_with fail
          go_quiet (fail)
          go_wp2_with fail
          go_roundw
          case rel => exact ⟨k + 1, _, by omega, by go_num, by first | rfl | (simp; rfl)⟩
          case measure => simp [intOf]; omega
        · go_wp2_with fail
          go_ret
          exact ⟨rfl, Below_drewN (Below.refl _ _) _⟩

set_option maxRecDepth 100000 in
set_option maxHeartbeats 2000000 in
theorem awake9 (w : World) :
    Calls Try.prog 25 #[] w fun r w' => r = .returned (.bool true) ∧ Below w.heap.size w w' := by
  have T1 := fun (w : World) => tags_ok (some ⟨w.heap.size, 0, none⟩) 3 3 [⟨#[98]⟩, ⟨#[97]⟩, ⟨#[98]⟩] _ (Sees.new w #[.string ⟨#[98]⟩, .string ⟨#[97]⟩, .string ⟨#[98]⟩] 9) (by omega) (sizes_of _ (by decide +kernel)) (good_of _ (by decide +kernel) (by decide +kernel)) [[97], [98]] (tagsL_eq _ _ (by rw [show (dd [⟨#[98]⟩, ⟨#[97]⟩, ⟨#[98]⟩]).map bytesOf = [[98], [97]] by decide +kernel]; exact List.Perm.swap _ _ _) (by decide +kernel)) 2 rfl
  have T2 := fun (w : World) => tags_bad (some ⟨w.heap.size, 0, none⟩) 1 1 [⟨#[]⟩] _ (Sees.new w #[.string ⟨#[]⟩] 9) (by omega) (sizes_of _ (by decide +kernel)) (fun h => absurd (h.1 ⟨#[]⟩ (List.mem_singleton.2 rfl)).1 (by decide +kernel))
  have T3 := fun (w : World) => tags_bad (some ⟨w.heap.size, 0, none⟩) 4 4 [⟨#[97]⟩, ⟨#[98]⟩, ⟨#[99]⟩, ⟨#[100]⟩] _ (Sees.new w #[.string ⟨#[97]⟩, .string ⟨#[98]⟩, .string ⟨#[99]⟩, .string ⟨#[100]⟩] 9) (by omega) (sizes_of _ (by decide +kernel)) (fun h => absurd h.2 (by decide +kernel))
  have k1 : isKey ⟨#[97]⟩ = true := by decide +kernel
  have k2 : isKey ⟨#[]⟩ = false := by decide +kernel
  have k3 : isKey ⟨#[48, 49, 50, 51, 52, 53, 54, 55, 56, 57, 97, 98, 99, 100, 101, 102]⟩ = true := by decide +kernel
  have k4 : isKey ⟨#[48, 49, 50, 51, 52, 53, 54, 55, 56, 57, 97, 98, 99, 100, 101, 102, 103]⟩ = false := by decide +kernel
  have k5 : hash ⟨#[]⟩ = 14695981039346656037 := by decide +kernel
  have k6 : hash ⟨#[97]⟩ = 12638187200555641996 := by decide +kernel
  have k7 : home ⟨#[97]⟩ 10 = 6 := by decide +kernel
  have k8 : home ⟨#[97]⟩ 0 = 0 := by decide +kernel
  go_enter Try.func25, Try.ntmps25
  go_wp2_with fail
  refine (T1 _).mono ?_
  rintro e w1 ⟨A, c, rfl, hc, hs1, hb1⟩
  have hz1 := hb1.size
  simp only [World.size_alloc] at hz1
  have HS1 := Lib.hid hs1
  clear hs1
  go_wp2_with fail
  refine (T2 _).mono ?_
  rintro e w2 ⟨rfl, hb2⟩
  have hz2 := hb2.size
  simp only [World.size_alloc] at hz2
  go_wp2_with fail
  refine (T3 _).mono ?_
  rintro e w3 ⟨rfl, hb3⟩
  have hz3 := hb3.size
  simp only [World.size_alloc] at hz3
  have HS3 := Lib.hid ((HS1.out.below (((Below.refl _ _).alloc (Nat.le_refl _) _).trans (hb2.mono (by simp)))).below (((Below.refl _ _).alloc (Nat.le_refl _) _).trans (hb3.mono (by simp))))
  go_wp2_with (first
    | (go_at_call 29; refine (key_c _ _).mono ?_; rintro e w' ⟨rfl, rfl⟩)
    | (go_at_call 32; refine (hash_c _ (by decide +kernel) _).mono ?_; rintro e w' ⟨rfl, rfl⟩)
    | (go_at_call 34; refine (home_c _ _ (by decide +kernel) (by omega) (by omega) _).mono ?_; rintro e w' ⟨rfl, rfl⟩)
    | (go_at_call 31; refine (same7_t _ _ 2 _ _ [[97], [98]] _ (HS3.out.below ((Below.refl _ _).alloc (Nat.le_refl _) _)) (Sees.new _ _ _) (by omega)).mono ?_; rintro e w4 ⟨rfl, hb4⟩))
  go_ret
  have hz4 := hb4.size
  simp only [World.size_alloc] at hz4
  exact ⟨rfl, by (repeat' (first | (with_reducible exact Below.refl _ _) | (with_reducible assumption) | (with_reducible refine Below.alloc ?_ ?_ _) | (with_reducible refine Below.drew ?_) | (with_reducible refine Below_drewN ?_ _) | (with_reducible refine Below.setCell ?_ ?_ _) | (refine Below.step (B' := ?_) (b := ?_) ?_ ?_ ?_; rotate_left 2; (with_reducible assumption)) | go_size))⟩
end Go.Proofs.Try
