/- pack.lay, pack.Put, linhayref07.Put. -/
import Derived.Test.YtfdjgdogcknoiaaPack2
import Derived.Lib.AppendStr
namespace Go.Proofs.Try
open Go.RowKit
set_option linter.unusedVariables false

theorem u8_info : (Try.prog.info? 5).map (fun i => (i.zero, i.size, i.bytes)) = some (some (.int .u8 0), 1, 1) := by kernel_rfl
/-- Bytes as cells. -/
def bcells (l : List UInt8) : List Value := l.map fun x => Value.int .u8 (x.toNat : Int)
theorem bcells_app (a b : List UInt8) : bcells (a ++ b) = bcells a ++ bcells b := List.map_append
theorem bcells_len (a : List UInt8) : (bcells a).length = a.length := List.length_map _
set_option maxRecDepth 100000 in
set_option maxHeartbeats 1000000 in
theorem play_c (base : Nat) (v : Value) (xs : List UInt8) (n : Nat) (w : World) (hn : n < 18446744073709551616) (hown : w.ownsRow base 5 1 v xs.length (bcells xs)) (hb : base ≤ w.heap.size) (hx : xs.length ≤ 1000000) :
    Calls Try.prog 30 #[v, .int .u64 (n : Int)] w fun r w' => ∃ v', r = .returned v' ∧ w'.ownsRow base 5 1 v' (xs ++ oneB n).length (bcells (xs ++ oneB n)) ∧ Below base w w' := by
  obtain ⟨i0, hy, hy0, hy1, hy2⟩ := info_parts u8_info
  have h10 := sizeB_10 n hn
  have HO := Lib.hid hown
  clear hown
  go_enter Try.func30, Try.ntmps30
  go_wp2_with fail
  go_loopw [0, 1] (fun x y wr => ∃ (m : Nat) (ys : List UInt8), y = .int .u64 (m : Int) ∧ m < 18446744073709551616 ∧ ys ++ oneB m = xs ++ oneB n ∧ wr.ownsRow base 5 1 x ys.length (bcells ys) ∧ ys.length ≤ 1000010 ∧ Below base w wr) (fun _ y _ => (intOf y).toNat)
  case atStart => exact ⟨n, xs, rfl, hn, rfl, HO.out, by omega, Below.refl _ _⟩
  case round =>
    obtain ⟨m, ys, rfl, hm, he, hown, hl, hbw⟩ := hrel
    have HW := Lib.hid hown
    have HE := Lib.hid he
    have HB := Lib.hid hbw
    have hzz : base ≤ wr.heap.size := Nat.le_trans hb hbw.size
    clear hown he hbw
    have hl2 : ys.length + sizeB m = xs.length + sizeB n := by
      have := congrArg List.length HE.out
      rw [List.length_append, List.length_append] at this
      exact this
    by_cases h : m < 128
    · have e0 : decide ((128 : Int) ≤ (m : Int)) = false := by simp; omega
      have e1 : (m : Int) < 256 := by omega
      have HF := Lib.hid (show bcells ys ++ [.int .u8 (m : Int)] = bcells (xs ++ oneB n) by
        rw [← HE.out, bcells_app, oneB_low m h]
        show _ = _ ++ [Value.int .u8 ((UInt8.ofNat m).toNat : Int)]
        rw [u8_of m (by omega)])
      have HFn := Lib.hid (show ys.length + 1 = (xs ++ oneB n).length by rw [← HE.out, List.length_append, oneB_low m h]; rfl)
      clear hl2
      go_wp2_with (at_builtin; refine wpList_app rfl (.tmp 16) (.tmp 19) _ rfl base 5 i0 _ 1 1 Try.underlying51 hy hy0 hy1 hy2 rfl (by omega) u0 ys.length (bcells ys) rfl (HW.out.alloc _) (some ⟨wr.heap.size, 0, none⟩) 1 1 [.int .u8 (m : Int)] rfl (cap_some (by omega)) (Sees.one _ _ _) (by simp [Value.oneCell']) (by unfold maxLen; omega) (by omega) (by simp; omega) ?_; intro v5 w5 hown5 hb5)
      refine bodyPost_ret (by simp [results, Try.results30, go_sem]; try rfl) rfl ?_
      rw [HF.out, HFn.out] at hown5
      exact ⟨v5, rfl, hown5, HB.out.trans (Below.trans ((Below.refl _ _).alloc hzz _) hb5)⟩
    · have e0 : (128 : Int) ≤ (m : Int) := by omega
      have hs := sizeB_high m h
      have hp := sizeB_pos (m / 128)
      have HF := Lib.hid (show bcells ys ++ [.int .u8 ((m : Int) % 128 + 128)] = bcells (ys ++ [UInt8.ofNat (m % 128 + 128)]) by
        rw [bcells_app]
        show _ = _ ++ [Value.int .u8 ((UInt8.ofNat (m % 128 + 128)).toNat : Int)]
        rw [u8_of _ (by omega)]
        rfl)
      have HG := Lib.hid (show (ys ++ [UInt8.ofNat (m % 128 + 128)]) ++ oneB (m / 128) = xs ++ oneB n by rw [← HE.out, oneB_high m h, List.append_assoc]; rfl)
      have hl3 : ys.length + 1 ≤ 1000010 := by omega
      clear hl2 hs hp
      go_wp2_with (at_builtin; refine wpList_app rfl (.tmp 9) (.tmp 14) _ rfl base 5 i0 _ 1 1 Try.underlying51 hy hy0 hy1 hy2 rfl (by omega) u0 ys.length (bcells ys) rfl (HW.out.alloc _) (some ⟨wr.heap.size, 0, none⟩) 1 1 [.int .u8 ((m : Int) % 128 + 128)] rfl (cap_some (by omega)) (Sees.one _ _ _) (by simp [Value.oneCell']) (by unfold maxLen; omega) (by omega) (by simp; omega) ?_; intro v5 w5 hown5 hb5)
      go_roundw
      case rel =>
        rw [HF.out] at hown5
        exact ⟨m / 128, ys ++ [UInt8.ofNat (m % 128 + 128)], by go_num, by omega, HG.out, by rw [List.length_append]; exact hown5, by rw [List.length_append]; exact hl3, HB.out.trans (Below.trans ((Below.refl _ _).alloc hzz _) hb5)⟩
      case measure => simp [intOf]; omega
end Go.Proofs.Try
