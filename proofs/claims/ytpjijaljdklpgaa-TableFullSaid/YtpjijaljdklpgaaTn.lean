/- table.Keys (stage 13). -/
import Derived.Test.YtpjijaljdklpgaaTm
import Derived.Test.YtpjijaljdklpgaaShelf
import Derived.Sort.OwnSorted
import Derived.Sort.KeysCollected
namespace Go.Proofs.Try
open Go.RowKit Go.Maps Go.Sort
set_option linter.unusedVariables false
set_option linter.unusedSimpArgs false
theorem strInfo : (Try.prog.info? 9).map (fun i => (i.zero, i.size, i.bytes)) = some (some (.string ⟨#[]⟩), 1, 16) := by kernel_rfl
def bytesK (s : ByteArray) : List UInt8 := s.data.toList
theorem encK_eq (s : ByteArray) : Value.string s = encStr (bytesK s) := by cases s; simp [encStr, bytesK]
/-- The keys of a table, as they stand. -/
def keysT (l : List Pl) : List ByteArray := (l.filter fun p => !noneS p.1).map (·.1)
theorem keysT_len (l : List Pl) : (keysT l).length = fullN l := by unfold keysT fullN; rw [List.length_map, List.countP_eq_length_filter]
theorem keysT_one {l : List Pl} {k : Nat} (hk : k < l.length) : keysT (l.take (k + 1)) = keysT (l.take k) ++ (if noneS (atP l k).1 then [] else [(atP l k).1]) := by
  rw [takeP_one hk]
  unfold keysT
  rw [List.filter_append, List.map_append]
  cases h : noneS (atP l k).1 <;> simp [h]
/-- All keys, rising. -/
def keysL (l : List Pl) : List (List UInt8) := ((keysT l).map bytesK).mergeSort leB
theorem keysL_len (l : List Pl) : (keysL l).length = fullN l := by unfold keysL; rw [List.length_mergeSort, List.length_map, keysT_len]
set_option maxRecDepth 100000 in
set_option maxHeartbeats 4000000 in
theorem keys_c (b off c : Nat) (l : List Pl) (g : OkL l) (hc0 : 128 ≤ c) (w : World) (h : Sees w 2 (some ⟨b, off, none⟩) 128 (flat encP l)) :
    Calls Try.prog 19 #[.slice (some ⟨b, off, none⟩) 128 c] w fun e w' => ∃ A c', e = .returned (.slice A (fullN l) c') ∧ CapOk A (fullN l) c' ∧ Sees w' 1 A (fullN l) ((keysL l).map encStr) ∧ Below w.heap.size w w' := by
  obtain ⟨i0, hy, hy0, hy1, hy2⟩ := infoT_parts strInfo
  have CK := fun W (h : Sees W 2 (some ⟨b, off, none⟩) 128 (flat encP l)) => check_ok b off c l g hc0 W h
  have HL := Lib.hid g.len
  have HF := Lib.hid g.few
  have HH := Lib.hid h
  clear h g
  go_enter Try.func19, Try.ntmps19
  go_wp2_with (go_at_call 15; refine (CK _ HH.out).mono ?_; rintro e w1 ⟨rfl, hb1⟩; have HB1 := Lib.hid hb1; clear hb1)
  clear CK
  go_loopw [3, 11] (fun v i wr => ∃ k : Nat, k ≤ 128 ∧ i = .int .i64 k ∧ Hid (wr.ownsRow w.heap.size 9 1 v (keysT (l.take k)).length ((keysT (l.take k)).map Value.string)) ∧ Hid (Below w.heap.size w wr)) (fun _ i _ => 128 - (intOf i).toNat)
  case atStart => exact ⟨0, by omega, rfl, Lib.hid (by rw [List.take_zero]; exact World.ownsRow_nil _ _ _ _), HB1⟩
  case round =>
    obtain ⟨k, hk, rfl, HO, HB⟩ := hrel
    by_cases hlt : k < 128
    · have hki : (k : Int) < 128 := by omega
      have hkl : k < l.length := by rw [HL.out]; exact hlt
      have hs := HH.out.below HB.out
      obtain ⟨c0, c1⟩ := place_cells hs hkl
      have HK := Lib.hid (keysT_one hkl)
      obtain ⟨⟨s, x⟩, hp⟩ : ∃ p, atP l k = p := ⟨_, rfl⟩
      rw [hp] at c0 c1 HK
      dsimp only at c0 c1 HK
      have hkn : (keysT (l.take k)).length ≤ 128 := by rw [keysT_len]; have := full_le (l.take k); rw [List.length_take] at this; omega
      clear hs hkl hp
      cases hz : noneS s with
      | true =>
        rw [hz] at HK
        have hz2 : (s.toList == []) = true := hz
        rw [if_pos rfl, List.append_nil] at HK
        go_wp2_with fail
        refine ⟨⟨k + 1, by omega, by first | rfl | (rw [wrap_suc k (by omega)]; rfl), ?_, Lib.hid (chain1 HB.out _)⟩, by first | (simp [intOf]; done) | (simp [intOf]; omega) | (rw [wrap_suc k (by omega)]; simp [intOf]; omega)⟩
        rw [HK.out]
        exact Lib.hid (own_below' HO.out ((Below.refl _ _).alloc (Nat.le_refl _) _))
      | false =>
        rw [hz] at HK
        have hz2 : (s.toList == []) = false := hz
        rw [if_neg (by simp)] at HK
        obtain ⟨n1, hn1⟩ : ∃ n, (keysT (l.take k)).length = n := ⟨_, rfl⟩
        rw [hn1] at HO hkn
        have HN1 := Lib.hid hn1
        clear hn1
        have HSe : Hid (∀ t, Sees ((wr.alloc (.cells #[.string s, .int .i64 x] 47)).alloc (.cells #[.string s] t)) 1 (some ⟨wr.heap.size + 1, 0, none⟩) 1 [.string s]) := Lib.hid fun t => by
          have := Sees.one (wr.alloc (.cells #[.string s, .int .i64 x] 47)) (.string s) t
          rwa [World.size_alloc] at this
        have HOe : Hid (∀ t, ((wr.alloc (.cells #[.string s, .int .i64 x] 47)).alloc (.cells #[.string s] t)).ownsRow w.heap.size 9 1 u3 n1 ((keysT (l.take k)).map Value.string)) := Lib.hid fun t => (own_below' HO.out ((Below.refl _ _).alloc (Nat.le_refl _) _)).alloc _
        have HBe : Hid (∀ t, Below w.heap.size w ((wr.alloc (.cells #[.string s, .int .i64 x] 47)).alloc (.cells #[.string s] t))) := Lib.hid fun t => chain1 (chain1 HB.out _) _
        go_wp2_with (at_builtin
                     refine wpList_app rfl (.tmp 18) (.tmp 21) _ rfl w.heap.size 9 i0 _ 1 16 Try.underlying43 hy hy0 hy1 hy2 rfl (by omega) u3 n1 _ rfl (HOe.out _) (some ⟨wr.heap.size + 1, 0, none⟩) 1 1 [.string s] rfl (cap_some (by omega)) (HSe.out _) (by simp [Value.oneCell']) (by unfold maxLen; omega) (by omega) ((HBe.out 9).size) ?_
                     intro v4 w4 hown4 hb4)
        refine ⟨⟨k + 1, by omega, by first | rfl | (rw [wrap_suc k (by omega)]; rfl), ?_, Lib.hid ((HBe.out _).trans hb4)⟩, by first | (simp [intOf]; done) | (simp [intOf]; omega) | (rw [wrap_suc k (by omega)]; simp [intOf]; omega)⟩
        rw [HK.out, List.map_append, List.length_append, HN1.out]
        exact Lib.hid hown4
    · have hke : k = 128 := by omega
      subst hke
      have HT : l.take 128 = l := by rw [← HL.out, List.take_length]
      rw [HT] at HO
      clear HT
      have hml : (keysT l).map Value.string = ((keysT l).map bytesK).map encStr := by
        rw [List.map_map]; exact List.map_congr_left fun x _ => encK_eq x
      have hos : ((keysT l).map bytesK).length = fullN l := by rw [List.length_map, keysT_len]
      have HLN := Lib.hid (keysL_len l)
      rw [keysT_len] at HO
      have hf := HF.out
      obtain ⟨f, hfe⟩ : ∃ f, fullN l = f := ⟨_, rfl⟩
      rw [hfe] at HO hos HLN hf
      have HFE := Lib.hid hfe
      rcases HO.out.2 with ⟨rfl, hnil⟩ | ⟨g, cap, cur, rfl, hbase, hbk, h1, h2, h3, h4⟩
      · have hk0 : keysL l = [] := List.eq_nil_of_length_eq_zero (by rw [HLN.out]; exact hnil)
        subst hnil
        have HK0 := Lib.hid hk0
        clear hk0 hml hos hfe
        go_wp2_with (go_at_call 25; refine (Try.slices_Sort_string_none none 0 _).mono ?_; rintro e w' ⟨rfl, rfl⟩)
        go_ret
        rw [HFE.out]
        exact ⟨none, 0, rfl, cap_none, by rw [HK0.out]; exact Sees.empty _ _ _, HB.out⟩
      · rw [hml] at h4
        have hH : Holds encStr wr g 0 ((keysT l).map bytesK).toArray := holds_of_block hbk (by rw [hos]; simpa using h4)
        have hgl : g < wr.heap.size := (Array.getElem?_eq_some_iff.1 hbk).1
        have hcall := Try.slices_Sort_string g 0 cap ((keysT l).map bytesK) wr hH hgl (by rw [hos]; omega)
        rw [hos] at hcall
        have hown := fun nn os' => ownsRow_sorted (n := nn) (os := os') (ss := (keysT l).map bytesK) (ts := keysL l) (by unfold keysL; simp) hbase hbk (by rw [hos]; exact h1) h2 h3
        have HG := Lib.hid (And.intro h1 (And.intro hbase hown))
        have HOS := Lib.hid hos
        clear hown hbk h1 h2 h3 h4 hH hml hos hfe
        go_wp2_with (go_at_call 25; refine hcall.mono ?_; rintro e w' ⟨rfl, nn, os', rfl⟩)
        go_ret
        obtain ⟨h1, hbase, hown⟩ := HG.out
        obtain ⟨A', c', he, hcc, hsee⟩ := Sees.of_own (hown nn os')
        cases he
        rw [HOS.out] at hsee
        rw [HFE.out]
        exact ⟨_, _, rfl, cap_some h1, hsee, HB.out.grown (grownBy_sorted _) HB.out.size (fun j hj => by cases hj; omega)⟩
end Go.Proofs.Try
