/- The contract of linhayref08.Some: the walk. -/
import Derived.Test.YthijffdljoeelaaTape6
namespace Go.Proofs.Try
open Go.RowKit
set_option linter.unusedVariables false

def slen : Value → Nat
  | .slice _ l _ => l
  | _ => 0

set_option maxHeartbeats 4000000 in
theorem rsome_ok (s : ByteArray) (i : Int) (n : Nat) (many : Int) (hs : s.size ≤ 4611686018427387904) (h0 : -9223372036854775808 ≤ i) (h1 : i ≤ 9223372036854775807) (n1 : 1 ≤ n) (n2 : n ≤ 1000) (m1 : 1 ≤ many) (w : World) :
    Calls Try.prog 20 #[tp s i, .int .i64 n, .int .i64 many] w (Picks s (someL s (min many n).toNat i ((List.range n).map Int.ofNat)) (someA s (min many n).toNat i n) w) := by
  obtain ⟨i0, hy, hy0, hy1, hy2⟩ := info_parts int_info
  have d1 : decide ((n : Int) < 1) = false := by simp; omega
  have d2 : decide (1000 < (n : Int)) = false := by simp; omega
  have d3 : decide (many < 1) = false := by simp; omega
  have hmkn := make_bools n (by omega)
  obtain ⟨m, hm, hm2, hm3⟩ : ∃ m : Nat, (min many (n : Int)).toNat = m ∧ m ≤ n ∧ (m : Int) ≤ many := ⟨_, rfl, by omega, by omega⟩
  have hm4 : m = n ∨ many = m := by omega
  rw [hm]
  unfold Picks tp
  go_enter Try.func20, Try.ntmps20
  go_wp2_with fail
  obtain ⟨V, hV⟩ : ∃ V, V = ((w.alloc (.cells #[.string s, .int .i64 i] 23)).alloc (.cells #[.string ⟨#[]⟩, .int .i64 0] 23)).alloc (.cells (madeCells #[.bool false] n) 4) := ⟨_, rfl⟩
  have t0 : tapeAt V w.heap.size s i := by
    rw [hV]
    exact tapeAt.alloc (tapeAt.alloc ⟨by go_simp, by go_simp, by go_simp, by go_simp⟩ (by simp) _) (by simp; omega) _
  have t1 : tapeAt V (w.heap.size + 1) ⟨#[]⟩ 0 := by
    rw [hV]
    exact tapeAt.alloc ⟨by go_simp, by go_simp, by go_simp, by go_simp⟩ (by simp) _
  have t2 : boolAt V (w.heap.size + 1 + 1) (List.replicate n false) := by
    rw [hV]
    have := boolAt.made ((w.alloc (.cells #[.string s, .int .i64 i] 23)).alloc (.cells #[.string ⟨#[]⟩, .int .i64 0] 23)) n 4
    simpa using this
  have t3 : V.heap.size = w.heap.size + 1 + 1 + 1 := by rw [hV]; simp
  have t4 : Below w.heap.size w V := by rw [hV]; (repeat' (first | (with_reducible exact Below.refl _ _) | (with_reducible assumption) | (with_reducible refine Below.alloc ?_ ?_ _) | (with_reducible refine Below.drew ?_) | (with_reducible refine Below_drewN ?_ _) | (with_reducible refine Below.setCell ?_ ?_ _) | (refine Below.step (B' := ?_) (b := ?_) ?_ ?_ ?_; rotate_left 2; (with_reducible assumption)) | go_size))
  rw [← hV]
  clear hV hmkn
  go_loopw [8] (fun v wr => ∃ (j : Nat) (T : List Bool) (O : List Int) (ii : Int), j ≤ m ∧ T.length = n ∧ O.length = j ∧ (untaken T 0).length + j = n ∧
    wr.ownsRow (w.heap.size + 1 + 1 + 1) 3 1 v j (O.map (Value.int .i64)) ∧
    O ++ someL s (m - j) ii (untaken T 0) = someL s m i ((List.range n).map Int.ofNat) ∧ someA s (m - j) ii (n - j) = someA s m i n ∧ -9223372036854775808 ≤ ii ∧ ii ≤ 9223372036854775807 ∧
    tapeAt wr w.heap.size s ii ∧ tapeAt wr (w.heap.size + 1) ⟨#[]⟩ 0 ∧ boolAt wr (w.heap.size + 1 + 1) T ∧ w.heap.size + 1 + 1 < wr.heap.size ∧ Below w.heap.size w wr) (fun v _ => m - slen v)
  case atStart =>
    refine ⟨0, List.replicate n false, [], i, by omega, by simp, rfl, ?_, World.ownsRow_nil _ _ _ _, ?_, by simp, h0, h1, t0, t1, t2, by omega, t4⟩
    · rw [untaken_all]; simp
    · rw [untaken_all]; simp
  case round =>
    obtain ⟨j, T, O, ii, hj, hT, hO, hL, hown, hS, hA, b0, b1, ht, hr, hbo, hz, hb⟩ := hrel
    clear t0 t1 t2 t3 t4
    obtain ⟨A, c, rfl, hc, hsee⟩ := Sees.of_own hown
    by_cases hlt : j < m
    · have f1 : (j : Int) < n := by omega
      have f2 : (j : Int) < many := by omega
      obtain ⟨L, hLd⟩ : ∃ L, untaken T 0 = L := ⟨_, rfl⟩
      rw [hLd] at hL hS
      obtain ⟨p0, p1⟩ := pickN_in s ii L.length (by omega) (by omega)
      obtain ⟨a, ha⟩ := Int.eq_ofNat_of_zero_le p0
      rw [ha] at p1
      have a1 : a < L.length := by omega
      have hnj : (n : Int) - (j : Int) = (L.length : Int) := by omega
      have HP := rpick_c s ii L.length hs b0 b1
      rw [ha] at HP
      obtain ⟨i1, hi1⟩ : ∃ i1, pickA s ii L.length = i1 := ⟨_, rfl⟩
      rw [hi1] at HP
      have bi := pickA_in s ii L.length hs b0 b1
      rw [hi1] at bi
      obtain ⟨bi0, bi1⟩ := bi
      unfold tp at HP
      have HS := Lib.hid (fun x hx => rsome_step s O _ L ii x m j a hlt ha hx hS)
      rw [hi1] at HS
      have HA := Lib.hid (someA_step s ii _ m j (n - j) hlt hA)
      rw [show n - j = L.length by omega, hi1] at HA
      have HT := Lib.hid ht
      have HR := Lib.hid hr
      have HB := Lib.hid hbo
      have HO := Lib.hid hown
      obtain ⟨t0, t1, t2, t3⟩ := ht
      clear hr hbo hown hS hA
      go_wp2_with fail
      refine (HP _).mono ?_
      rintro e w1 ⟨rfl, hb1⟩
      have hz1 := hb1.size
      have HT1 := Lib.hid (HT.out.below hb1 (by omega))
      have HR1 := Lib.hid (HR.out.below hb1 (by omega))
      have HB1 := Lib.hid (HB.out.below hb1 (by omega))
      have HO1 := Lib.hid (own_keep HO.out (W' := w1) (fun g hg hgl => hb1.block g hgl))
      obtain ⟨s0, s1, s2, s3⟩ := HT1.out
      have hq : w.heap.size < w1.heap.size := by omega
      go_wp2_with fail
      obtain ⟨U, hU⟩ : ∃ U, U = (w1.setCell ⟨w.heap.size, 0, none⟩ (.string s)).setCell ⟨w.heap.size, 1, none⟩ (.int .i64 i1) := ⟨_, rfl⟩
      have HT2 := Lib.hid (show tapeAt U w.heap.size s i1 by rw [hU]; exact HT1.out.set i1)
      have HR2 := Lib.hid (show tapeAt U (w.heap.size + 1) ⟨#[]⟩ 0 by rw [hU]; (repeat (first | (with_reducible exact HR1.out) | (with_reducible refine tapeAt.other ?_ ?_ _ _; rotate_left; omega))))
      have HB2 := Lib.hid (show boolAt U (w.heap.size + 1 + 1) T by rw [hU]; (repeat (first | (with_reducible exact HB1.out) | (with_reducible refine boolAt.other ?_ ?_ _ _; rotate_left; omega))))
      have HO2 := Lib.hid (show U.ownsRow (w.heap.size + 1 + 1 + 1) 3 1 (.slice A j c) j (O.map (Value.int .i64)) by
        rw [hU]
        exact own_keep HO1.out (fun g hg hgl => by rw [Below.heap_setCell _ _ _ _ (fun e => by simp at e; omega), Below.heap_setCell _ _ _ _ (fun e => by simp at e; omega)]))
      have hUz1 : U.heap.size ≤ w1.heap.size := by rw [hU]; simp
      have hUz2 : w1.heap.size ≤ U.heap.size := by rw [hU]; simp
      have hUb : Below w.heap.size w U := by rw [hU]; (repeat' (first | (with_reducible exact Below.refl _ _) | (with_reducible assumption) | (with_reducible refine Below.alloc ?_ ?_ _) | (with_reducible refine Below.drew ?_) | (with_reducible refine Below_drewN ?_ _) | (with_reducible refine Below.setCell ?_ ?_ _) | (refine Below.step (B' := ?_) (b := ?_) ?_ ?_ ?_; rotate_left 2; (with_reducible assumption)) | go_size))
      have hbt : w.heap.size + 1 + 1 < U.heap.size := by omega
      rw [← hU]
      clear hU s0 s1 s2 s3 t0 t1 t2 t3 hc hsee HP
      go_loop [12, 10, 8] (fun x y z => ∃ (k a' : Nat), k ≤ n ∧ x = .int .i64 k ∧ y = .int .i64 a' ∧ z = .slice A j c ∧ (untaken (T.take k) 0).length + a' = a ∧ a' < (untaken (T.drop k) k).length) (fun x _ _ => n - (intOf x).toNat)
      case atStart => exact ⟨0, a, by omega, rfl, rfl, rfl, by simp [untaken], by rw [List.drop_zero, hLd]; exact a1⟩
      case round =>
        obtain ⟨k, a', hk, rfl, rfl, rfl, hp, hq⟩ := hrel
        by_cases hkn : k < n
        · obtain ⟨c1, c2⟩ := HB2.out k (by omega)
          cases hTk : T.getD k false with
          | true =>
            have hst := untaken_step T k (by omega)
            rw [hTk, if_pos rfl] at hst
            rw [hst] at hq
            rw [← untaken_more T k (by omega) hTk] at hp
            rw [hTk] at c1
            have HHp := Lib.hid hp
            have HHq := Lib.hid hq
            clear hst hp hq
            go_wp2_with fail
            go_round
            case rel => exact ⟨k + 1, a', by omega, by go_num, rfl, rfl, HHp.out, HHq.out⟩
            case measure => simp [intOf]; omega
          | false =>
            rw [hTk] at c1
            by_cases h00 : a' = 0
            · subst h00
              obtain ⟨g1, g2⟩ := untaken_take T k a (by omega) hTk (by omega)
              rw [hLd] at g1 g2
              have HG1 := Lib.hid g1
              have HG2 := Lib.hid (HS.out k g2)
              clear g1 g2 hp hq
              have hbz : w.heap.size + 1 + 1 + 1 ≤ U.heap.size := by omega
              go_wp2_with (first
                | (at_builtin
                   refine wpList_app rfl (.tmp 57) (.tmp 59) _ rfl (w.heap.size + 1 + 1 + 1) 3 i0 _ 1 8 Try.underlying30 hy hy0 hy1 hy2 rfl (by omega) (.slice A j c) j _ rfl ((HO2.out.alloc _).alloc _) (some ⟨U.heap.size + 1, 0, none⟩) 1 1 [.int .i64 k] rfl (cap_some (by omega)) ?_ (by simp [Value.oneCell']) (by unfold maxLen; omega) (by omega) (by simp; omega) ?_
                   · simpa using Sees.one (U.alloc (.cells #[.string s, .int .i64 i1] 23)) (.int .i64 k) 3
                   intro v1 w4 hown1 hb4
                   obtain ⟨A1, c3, rfl, hc3, hse3⟩ := Sees.of_own hown1
                   have HT4 := Lib.hid (((HT2.out.alloc (by omega) (.cells #[.string s, .int .i64 i1] 23)).alloc (by simp; omega) (.cells #[.int .i64 k] 3)).belowB hb4 (by omega))
                   have HR4 := Lib.hid (((HR2.out.alloc (by omega) (.cells #[.string s, .int .i64 i1] 23)).alloc (by simp; omega) (.cells #[.int .i64 k] 3)).belowB hb4 (by omega))
                   have HB4 := Lib.hid (((HB2.out.below (B := U.heap.size) ((Below.refl _ _).alloc (Nat.le_refl _) (.cells #[.string s, .int .i64 i1] 23)) (by omega)).below (B := w.heap.size + 1 + 1 + 1) ((Below.refl _ _).alloc (by simp; omega) (.cells #[.int .i64 k] 3)) (by omega)).below hb4 (by omega))
                   have hz4 := hb4.size
                   simp only [World.size_alloc] at hz4
                   have HO4 := Lib.hid hown1
                   clear hown1 hse3 hc3
                   obtain ⟨k1, k2⟩ := HB4.out k (by omega)))
              go_roundw
              case rel =>
                refine ⟨j + 1, T.set k true, O ++ [(k : Int)], i1, by omega, by rw [List.length_set, hT], by rw [List.length_append, hO]; rfl, ?_, ?_, ?_, (by rw [show n - (j + 1) = L.length - 1 by omega]; exact HA.out), bi0, bi1, ?_, ?_, ?_, by simp; omega, by (repeat' (first | (with_reducible exact Below.refl _ _) | (with_reducible assumption) | (with_reducible refine Below.alloc ?_ ?_ _) | (with_reducible refine Below.drew ?_) | (with_reducible refine Below_drewN ?_ _) | (with_reducible refine Below.setCell ?_ ?_ _) | (refine Below.step (B' := ?_) (b := ?_) ?_ ?_ ?_; rotate_left 2; (with_reducible assumption)) | go_size))⟩
                · rw [HG1.out, List.length_eraseIdx, if_pos a1]; omega
                · rw [List.map_append]
                  exact own_keep HO4.out (fun g hg hgl => by rw [Below.heap_setCell _ _ _ _ (fun e => by simp at e; omega)])
                · rw [HG1.out]; exact HG2.out
                · (repeat (first | (with_reducible exact HT4.out) | (with_reducible refine tapeAt.other ?_ ?_ _ _; rotate_left; omega)))
                · (repeat (first | (with_reducible exact HR4.out) | (with_reducible refine tapeAt.other ?_ ?_ _ _; rotate_left; omega)))
                · exact HB4.out.set k (by omega) true
              case measure => simp [slen]; omega
            · have hst := untaken_step T k (by omega)
              rw [hTk] at hst
              simp only [Bool.false_eq_true, if_false] at hst
              rw [hst, List.length_cons] at hq
              have hm' := congrArg List.length (untaken_more' T k (by omega) hTk)
              rw [List.length_append, List.length_singleton] at hm'
              have HHp := Lib.hid (show (untaken (T.take (k + 1)) 0).length + (a' - 1) = a by omega)
              have HHq := Lib.hid (show a' - 1 < (untaken (T.drop (k + 1)) (k + 1)).length by omega)
              have ha2 : (a' : Int) ≤ 1000 := by omega
              have e0 : ((a' : Int) == 0) = false := by simp; omega
              clear hst hp hq hm'
              go_wp2_with fail
              go_round
              case rel => exact ⟨k + 1, a' - 1, by omega, by go_num, by congr 1; omega, rfl, HHp.out, HHq.out⟩
              case measure => simp [intOf]; omega
        · rw [List.drop_eq_nil_of_le (by omega)] at hq
          simp [untaken] at hq
    · have hje : j = m := by omega
      subst hje
      rw [Nat.sub_self] at hS hA
      have HS := Lib.hid (show O = someL s j i ((List.range n).map Int.ofNat) by rw [← hS, someL, List.append_nil])
      have HA := Lib.hid (show ii = someA s j i n from hA)
      obtain ⟨t0, t1, t2, t3⟩ := ht
      obtain ⟨r0, r1, r2, r3⟩ := hr
      have HO := Lib.hid hown
      clear hS hA hbo hown hsee
      by_cases f1 : (j : Int) < n
      · have f2 : ¬ (j : Int) < many := by omega
        have f3 : decide ((j : Int) < many) = false := by simpa using f2
        go_wp2_with fail
        go_region
        go_wp2_with fail
        refine bodyPost_ret (by simp [results, Try.results20, go_sem, r0, r1]; try rfl) rfl ?_
        refine ⟨A, j, c, ?_, ?_, hc, ?_, by (repeat' (first | (with_reducible exact Below.refl _ _) | (with_reducible assumption) | (with_reducible refine Below.alloc ?_ ?_ _) | (with_reducible refine Below.drew ?_) | (with_reducible refine Below_drewN ?_ _) | (with_reducible refine Below.setCell ?_ ?_ _) | (refine Below.step (B' := ?_) (b := ?_) ?_ ?_ ?_; rotate_left 2; (with_reducible assumption)) | go_size))⟩
        · rw [HA.out]
        · rw [← HS.out, hO]
        · rw [← HS.out]
          obtain ⟨A', c', he, _, hs'⟩ := Sees.of_own (own_keep HO.out (W' := ((wr.setCell ⟨w.heap.size + 1, 0, none⟩ (.string s)).setCell ⟨w.heap.size + 1, 1, none⟩ (.int .i64 ii)).drew) (fun g hg hgl => by
            show ((wr.setCell ⟨w.heap.size + 1, 0, none⟩ (.string s)).setCell ⟨w.heap.size + 1, 1, none⟩ (.int .i64 ii)).heap[g]? = _
            rw [Below.heap_setCell _ _ _ _ (fun e => by simp at e; omega), Below.heap_setCell _ _ _ _ (fun e => by simp at e; omega)]))
          cases he
          exact hs'
      · have f3 : decide ((j : Int) < n) = false := by simpa using f1
        go_wp2_with fail
        go_region
        go_wp2_with fail
        refine bodyPost_ret (by simp [results, Try.results20, go_sem, r0, r1]; try rfl) rfl ?_
        refine ⟨A, j, c, ?_, ?_, hc, ?_, by (repeat' (first | (with_reducible exact Below.refl _ _) | (with_reducible assumption) | (with_reducible refine Below.alloc ?_ ?_ _) | (with_reducible refine Below.drew ?_) | (with_reducible refine Below_drewN ?_ _) | (with_reducible refine Below.setCell ?_ ?_ _) | (refine Below.step (B' := ?_) (b := ?_) ?_ ?_ ?_; rotate_left 2; (with_reducible assumption)) | go_size))⟩
        · rw [HA.out]
        · rw [← HS.out, hO]
        · rw [← HS.out]
          obtain ⟨A', c', he, _, hs'⟩ := Sees.of_own (own_keep HO.out (W' := ((wr.setCell ⟨w.heap.size + 1, 0, none⟩ (.string s)).setCell ⟨w.heap.size + 1, 1, none⟩ (.int .i64 ii)).drew) (fun g hg hgl => by
            show ((wr.setCell ⟨w.heap.size + 1, 0, none⟩ (.string s)).setCell ⟨w.heap.size + 1, 1, none⟩ (.int .i64 ii)).heap[g]? = _
            rw [Below.heap_setCell _ _ _ _ (fun e => by simp at e; omega), Below.heap_setCell _ _ _ _ (fun e => by simp at e; omega)]))
          cases he
          exact hs'

theorem rsome_no (s : ByteArray) (i n many : Int) (h : ¬ sOk n many) (hs : s.size ≤ 4611686018427387904) (w : World) :
    Calls Try.prog 20 #[tp s i, .int .i64 n, .int .i64 many] w fun r w' => r = .returned (.tuple #[.slice none 0 0, tp s i]) ∧ Below w.heap.size w w' := by
  unfold tp
  rcases (by unfold sOk at h; omega : n < 1 ∨ 1 ≤ n ∧ 1000 < n ∨ 1 ≤ n ∧ n ≤ 1000 ∧ many < 1) with h | ⟨g, h⟩ | ⟨g, g', h⟩
  · go_enter Try.func20, Try.ntmps20
    go_wp2_with fail
    go_region
    all_goals
      go_wp2_with fail
      refine bodyPost_ret (by simp [results, Try.results20, go_sem]; try rfl) rfl ?_
      exact ⟨rfl, by (repeat' (first | (with_reducible exact Below.refl _ _) | (with_reducible assumption) | (with_reducible refine Below.alloc ?_ ?_ _) | (with_reducible refine Below.drew ?_) | (with_reducible refine Below_drewN ?_ _) | (with_reducible refine Below.setCell ?_ ?_ _) | (refine Below.step (B' := ?_) (b := ?_) ?_ ?_ ?_; rotate_left 2; (with_reducible assumption)) | go_size))⟩
  · have e3 : decide (n < 1) = false := by simp; omega
    go_enter Try.func20, Try.ntmps20
    go_wp2_with fail
    go_region
    all_goals
      go_wp2_with fail
      refine bodyPost_ret (by simp [results, Try.results20, go_sem]; try rfl) rfl ?_
      exact ⟨rfl, by (repeat' (first | (with_reducible exact Below.refl _ _) | (with_reducible assumption) | (with_reducible refine Below.alloc ?_ ?_ _) | (with_reducible refine Below.drew ?_) | (with_reducible refine Below_drewN ?_ _) | (with_reducible refine Below.setCell ?_ ?_ _) | (refine Below.step (B' := ?_) (b := ?_) ?_ ?_ ?_; rotate_left 2; (with_reducible assumption)) | go_size))⟩
  · have e3 : decide (n < 1) = false := by simp; omega
    have e4 : decide (1000 < n) = false := by simp; omega
    go_enter Try.func20, Try.ntmps20
    go_wp2_with fail
    go_region
    all_goals
      go_wp2_with fail
      refine bodyPost_ret (by simp [results, Try.results20, go_sem]; try rfl) rfl ?_
      exact ⟨rfl, by (repeat' (first | (with_reducible exact Below.refl _ _) | (with_reducible assumption) | (with_reducible refine Below.alloc ?_ ?_ _) | (with_reducible refine Below.drew ?_) | (with_reducible refine Below_drewN ?_ _) | (with_reducible refine Below.setCell ?_ ?_ _) | (refine Below.step (B' := ?_) (b := ?_) ?_ ?_ ?_; rotate_left 2; (with_reducible assumption)) | go_size))⟩
theorem rsome_c (s : ByteArray) (i n many : Int) (hs : s.size ≤ 4611686018427387904) (h0 : -9223372036854775808 ≤ i) (h1 : i ≤ 9223372036854775807) (w : World) :
    Calls Try.prog 20 #[tp s i, .int .i64 n, .int .i64 many] w (Picks s (someLL s i n many) (someAA s i n many) w) := by
  by_cases h : sOk n many
  · obtain ⟨g0, g1, g2⟩ := h
    obtain ⟨N, rfl⟩ := Int.eq_ofNat_of_zero_le (show 0 ≤ n by omega)
    have := rsome_ok s i N many hs h0 h1 (by omega) (by omega) g2 w
    unfold someLL someAA
    rw [if_pos ⟨g0, g1, g2⟩, if_pos ⟨g0, g1, g2⟩, Int.toNat_natCast]
    exact this
  · refine (rsome_no s i n many h hs w).mono ?_
    rintro e w' ⟨rfl, hB⟩
    unfold someLL someAA
    rw [if_neg h, if_neg h]
    exact ⟨_, _, _, rfl, rfl, cap_none, Sees.empty _ _ _, hB⟩
theorem someLL_len (s : ByteArray) (i n many : Int) : (someLL s i n many).length ≤ 1000 := by
  unfold someLL
  split
  · rename_i h
    obtain ⟨h1, h2, h3⟩ := h
    rw [someL_len]; omega
  · simp
end Go.Proofs.Try
