/- pack.TakeTexts, linhayref07.TakeTexts. -/
import Derived.Test.YtfdjgdogcknoiaaPackB
namespace Go.Proofs.Try
open Go.RowKit
set_option linter.unusedVariables false
set_option linter.unusedSimpArgs false

/-- What is told of a list that is taken. -/
def TsR (o : Option (List (List UInt8) × List UInt8)) (w : World) (e : Ending) (w' : World) : Prop :=
  Below w.heap.size w w' ∧ (o = none → e = .returned (.tuple #[.slice none 0 0, .string ⟨#[]⟩, .int .i64 70])) ∧
    ∀ ts r, o = some (ts, r) → ∃ A c, e = .returned (.tuple #[.slice A ts.length c, .string (S r), .int .i64 0]) ∧ CapOk A ts.length c ∧ Sees w' 1 A ts.length (ts.map sv)
theorem none3_c (w : World) : Calls Try.prog 29 #[] w fun r w' => r = .returned (.tuple #[.slice none 0 0, .string ⟨#[]⟩, .int .i64 70]) ∧ w = w' := by
  go_enter Try.func29, Try.ntmps29
  go_wp2_with fail
  refine bodyPost_ret (by simp [results, Try.results29, go_sem]; try rfl) rfl ?_
  exact ⟨rfl, rfl⟩
theorem ts_none1 (bs : List UInt8) (h : takeL bs = none) : takeTextsL bs = none := by unfold takeTextsL; rw [h]
theorem ts_none2 (bs : List UInt8) (n : Nat) (r : List UInt8) (h : takeL bs = some (n, r)) (hn : r.length < n) : takeTextsL bs = none := by
  unfold takeTextsL; rw [h]; exact takeNL_long n r hn
theorem ts_some (bs : List UInt8) (n : Nat) (r : List UInt8) (h : takeL bs = some (n, r)) : takeTextsL bs = takeNL n r := by
  unfold takeTextsL; rw [h]
theorem TsR_none {o : Option (List (List UInt8) × List UInt8)} {w w' : World} {e : Ending} (ho : o = none) (he : e = .returned (.tuple #[.slice none 0 0, .string ⟨#[]⟩, .int .i64 70])) (hb : Below w.heap.size w w') : TsR o w e w' :=
  ⟨hb, fun _ => he, fun ts r h => by rw [ho] at h; cases h⟩
/-- Where a loop that takes texts stands. -/
structure TkAt (n : Nat) (r : List UInt8) (j : Nat) (ts : List (List UInt8)) (q : List UInt8) : Prop where
  le : j ≤ n
  len : ts.length = j
  room : j + q.length ≤ r.length
  eq : takeNL n r = (takeNL (n - j) q).map fun z => (ts ++ z.1, z.2)
theorem TkAt.start (n : Nat) (r : List UInt8) : TkAt n r 0 [] r := ⟨by omega, rfl, by omega, by
  rw [Nat.sub_zero]
  cases takeNL n r <;> simp⟩
theorem TkAt.stop {n : Nat} {r : List UInt8} {j : Nat} {ts : List (List UInt8)} {q : List UInt8} (h : TkAt n r j ts q) (hj : ¬ j < n) : takeNL n r = some (ts, q) := by
  rw [h.eq, show n - j = 0 by omega]
  simp [takeNL]
theorem TkAt.none {n : Nat} {r : List UInt8} {j : Nat} {ts : List (List UInt8)} {q : List UInt8} (h : TkAt n r j ts q) (hj : j < n) (ht : takeTextL q = none) : takeNL n r = none := by
  rw [h.eq, show n - j = (n - (j + 1)) + 1 by omega, takeNL_none _ _ ht]; rfl
theorem TkAt.some {n : Nat} {r : List UInt8} {j : Nat} {ts : List (List UInt8)} {q t q' : List UInt8} (h : TkAt n r j ts q) (hj : j < n) (ht : takeTextL q = some (t, q')) : TkAt n r (j + 1) (ts ++ [t]) q' := by
  refine ⟨by omega, by rw [List.length_append, h.len]; rfl, ?_, ?_⟩
  · have := takeTextL_short q t q' ht
    have := h.room
    omega
  · rw [h.eq, show n - j = (n - (j + 1)) + 1 by omega, takeNL_some _ _ _ _ ht, Option.map_map]
    congr 1
    funext z
    simp
def lenOf : Value → Nat | .slice _ n _ => n | _ => 0
theorem sv_snoc (ts : List (List UInt8)) (t : List UInt8) : ts.map sv ++ [.string (S t)] = (ts ++ [t]).map sv := by rw [List.map_append]; rfl
set_option maxRecDepth 100000 in
set_option maxHeartbeats 2000000 in
theorem taketexts_c (bs : List UInt8) (hs : bs.length ≤ 150000) (w : World) :
    Calls Try.prog 15 #[.string (S bs)] w fun e w' => TsR (takeTextsL bs) w e w' := by
  obtain ⟨i0, hy, hy0, hy1, hy2⟩ := info_parts str_info
  have hn1 := none3_c
  have HT := take_c bs (by omega)
  cases hc : takeL bs with
  | none =>
    have HR := Lib.hid (ts_none1 bs hc)
    rw [hc] at HT
    unfold tkR at HT
    simp only at HT
    clear hc
    go_enter Try.func15, Try.ntmps15
    go_wp2_with fail
    with_reducible refine (HT _).mono ?_
    rintro e w1 ⟨rfl, hb1⟩
    go_wp2_with fail
    with_reducible refine (hn1 _).mono ?_
    rintro e w' ⟨rfl, rfl⟩
    go_wp2_with fail
    refine bodyPost_ret (by simp [results, Try.results15, go_sem]; try rfl) rfl ?_
    exact TsR_none HR.out rfl hb1
  | some p =>
    obtain ⟨n, r⟩ := p
    obtain ⟨ho, hn64⟩ := takeL_own bs n r hc
    have hrl := takeL_short bs n r hc
    rw [hc] at HT
    unfold tkR at HT
    simp only at HT
    have hsz := S_size r
    by_cases hn : n ≤ r.length
    · have HR := Lib.hid (ts_some bs n r hc)
      have e0 : decide ((r.length : Int) < (n : Int)) = false := by simp; omega
      have e00 : decide (r.length < n) = false := by simp; omega
      clear hc ho
      go_enter Try.func15, Try.ntmps15
      go_wp2_with fail
      with_reducible refine (HT _).mono ?_
      rintro e w1 ⟨rfl, hb1⟩
      have HB1 := Lib.hid hb1
      clear HT hb1
      go_wp2_with fail
      go_loopw [7, 9, 34] (fun x v i wr => ∃ (j : Nat) (ts : List (List UInt8)) (q : List UInt8), i = .int .u64 j ∧ x = .string (S q) ∧ TkAt n r j ts q ∧ wr.ownsRow w.heap.size 9 1 v j (ts.map sv) ∧ Below w.heap.size w wr) (fun _ _ i _ => n - (intOf i).toNat)
      case atStart => exact ⟨0, [], r, rfl, rfl, TkAt.start n r, World.ownsRow_nil _ _ _ _, HB1.out⟩
      case round =>
        obtain ⟨j, ts, q, rfl, rfl, hat, hown, hbw⟩ := hrel
        have hzz := hbw.size
        have hroom := hat.room
        have HA := Lib.hid hat
        have HO := Lib.hid hown
        have HB := Lib.hid hbw
        have hle := hat.le
        clear hat hown hbw
        by_cases hlt : j < n
        · have hlt' : (j : Int) < (n : Int) := by omega
          have HC := taketext_c q (by omega)
          cases ht : takeTextL q with
          | none =>
            have HN := Lib.hid (HA.out.none hlt ht)
            rw [ht] at HC
            unfold ttR at HC
            simp only at HC
            clear ht
            go_wp2_with fail
            with_reducible refine (HC _).mono ?_
            rintro e w5 ⟨rfl, hb5⟩
            go_wp2_with fail
            with_reducible refine (hn1 _).mono ?_
            rintro e w' ⟨rfl, rfl⟩
            go_wp2_with fail
            refine bodyPost_ret (by simp [results, Try.results15, go_sem]; try rfl) rfl ?_
            exact TsR_none (by rw [HR.out]; exact HN.out) rfl (HB.out.trans (hb5.mono hzz))
          | some p =>
            obtain ⟨t, q'⟩ := p
            have HN := Lib.hid (HA.out.some hlt ht)
            rw [ht] at HC
            unfold ttR at HC
            simp only at HC
            clear ht
            go_wp2_with fail
            with_reducible refine (HC _).mono ?_
            rintro e w5 ⟨rfl, hb5⟩
            have hz5 := hb5.size
            have HO5 := Lib.hid (ownsRow_later HO.out hb5)
            go_wp2_with (at_builtin; refine wpList_app rfl (.tmp 49) (.tmp 51) _ rfl w.heap.size 9 i0 _ 1 16 Try.underlying23 hy hy0 hy1 hy2 rfl (by omega) u9 j (ts.map sv) rfl (HO5.out.alloc _) (some ⟨w5.heap.size, 0, none⟩) 1 1 [.string (S t)] rfl (cap_some (by omega)) (Sees.one _ _ _) (by simp [Value.oneCell']) (by unfold maxLen; omega) (by omega) (by simp; omega) ?_; intro v6 w6 hown6 hb6)
            rw [sv_snoc] at hown6
            have HO6 := Lib.hid hown6
            clear hown6
            go_roundw
            case rel => exact ⟨j + 1, ts ++ [t], q', by go_num, rfl, HN.out, HO6.out, (HB.out.trans (hb5.mono hzz)).trans (((Below.refl _ _).alloc (by omega) _).trans hb6)⟩
            case measure => simp [intOf]; omega
        · have e1 : decide ((j : Int) < (n : Int)) = false := by simp; omega
          have HN := Lib.hid (HA.out.stop hlt)
          have HL := Lib.hid HA.out.len
          obtain ⟨A, c, rfl, hcap, hsees⟩ := Sees.of_own HO.out
          have HC := Lib.hid hcap
          have HS := Lib.hid hsees
          clear hcap hsees
          go_wp2_with fail
          refine bodyPost_ret (by simp [results, Try.results15, go_sem]; try rfl) rfl ?_
          refine ⟨HB.out, fun h => ?_, fun us s h => ?_⟩
          · rw [HR.out, HN.out] at h; cases h
          · rw [HR.out, HN.out] at h
            injection h with h
            injection h with h1 h2
            subst h1 h2
            rw [HL.out]
            exact ⟨A, c, rfl, HC.out, HS.out⟩
    · have HR := Lib.hid (ts_none2 bs n r hc (by omega))
      have e0 : (r.length : Int) < (n : Int) := by omega
      clear hc ho
      go_enter Try.func15, Try.ntmps15
      go_wp2_with fail
      with_reducible refine (HT _).mono ?_
      rintro e w1 ⟨rfl, hb1⟩
      go_wp2_with fail
      with_reducible refine (hn1 _).mono ?_
      rintro e w' ⟨rfl, rfl⟩
      go_wp2_with fail
      refine bodyPost_ret (by simp [results, Try.results15, go_sem]; try rfl) rfl ?_
      exact TsR_none HR.out rfl hb1
set_option maxRecDepth 100000 in
set_option maxHeartbeats 2000000 in
theorem rtaketexts_c (bs : List UInt8) (hs : bs.length ≤ 150000) (w : World) :
    Calls Try.prog 16 #[.string (S bs)] w fun e w' => TsR (takeTextsL bs) w e w' := by
  obtain ⟨i0, hy, hy0, hy1, hy2⟩ := info_parts str_info
  have HT := rtake_c bs (by omega)
  cases hc : takeL bs with
  | none =>
    have HR := Lib.hid (ts_none1 bs hc)
    rw [hc] at HT
    unfold tkR at HT
    simp only at HT
    clear hc
    go_enter Try.func16, Try.ntmps16
    go_wp2_with fail
    with_reducible refine (HT _).mono ?_
    rintro e w1 ⟨rfl, hb1⟩
    go_wp2_with fail
    refine bodyPost_ret (by simp [results, Try.results16, go_sem]; try rfl) rfl ?_
    exact TsR_none HR.out rfl hb1
  | some p =>
    obtain ⟨n, r⟩ := p
    obtain ⟨ho, hn64⟩ := takeL_own bs n r hc
    have hrl := takeL_short bs n r hc
    rw [hc] at HT
    unfold tkR at HT
    simp only at HT
    have HR := Lib.hid (ts_some bs n r hc)
    clear hc ho
    go_enter Try.func16, Try.ntmps16
    go_wp2_with fail
    with_reducible refine (HT _).mono ?_
    rintro e w1 ⟨rfl, hb1⟩
    have HB1 := Lib.hid hb1
    clear HT hb1
    go_wp2_with fail
    go_loopw [6, 8] (fun x v wr => ∃ (j : Nat) (ts : List (List UInt8)) (q : List UInt8), x = .string (S q) ∧ TkAt n r j ts q ∧ wr.ownsRow w.heap.size 9 1 v j (ts.map sv) ∧ Below w.heap.size w wr) (fun _ v _ => n - (lenOf v))
    case atStart => exact ⟨0, [], r, rfl, TkAt.start n r, World.ownsRow_nil _ _ _ _, HB1.out⟩
    case round =>
      obtain ⟨j, ts, q, rfl, hat, hown, hbw⟩ := hrel
      have hzz := hbw.size
      have hroom := hat.room
      have HA := Lib.hid hat
      obtain ⟨A, c, rfl, hcap, hsees⟩ := Sees.of_own hown
      have HO := Lib.hid hown
      have HB := Lib.hid hbw
      have HC := Lib.hid hcap
      have HS := Lib.hid hsees
      have hle := hat.le
      clear hat hown hbw hcap hsees
      by_cases hlt : j < n
      · have hlt' : (j : Int) < (n : Int) := by omega
        have HC := rtaketext_c q (by omega)
        cases ht : takeTextL q with
        | none =>
          have HN := Lib.hid (HA.out.none hlt ht)
          rw [ht] at HC
          unfold ttR at HC
          simp only at HC
          clear ht
          go_wp2_with fail
          with_reducible refine (HC _).mono ?_
          rintro e w5 ⟨rfl, hb5⟩
          go_wp2_with fail
          refine bodyPost_ret (by simp [results, Try.results16, go_sem]; try rfl) rfl ?_
          exact TsR_none (by rw [HR.out]; exact HN.out) rfl (HB.out.trans (hb5.mono hzz))
        | some p =>
          obtain ⟨t, q'⟩ := p
          have HN := Lib.hid (HA.out.some hlt ht)
          rw [ht] at HC
          unfold ttR at HC
          simp only at HC
          clear ht
          go_wp2_with fail
          with_reducible refine (HC _).mono ?_
          rintro e w5 ⟨rfl, hb5⟩
          have hz5 := hb5.size
          have HO5 := Lib.hid (ownsRow_later HO.out hb5)
          go_wp2_with (at_builtin; refine wpList_app rfl (.tmp 35) (.tmp 37) _ rfl w.heap.size 9 i0 _ 1 16 Try.underlying23 hy hy0 hy1 hy2 rfl (by omega) (.slice A j c) j (ts.map sv) rfl (HO5.out.alloc _) (some ⟨w5.heap.size, 0, none⟩) 1 1 [.string (S t)] rfl (cap_some (by omega)) (Sees.one _ _ _) (by simp [Value.oneCell']) (by unfold maxLen; omega) (by omega) (by simp; omega) ?_; intro v6 w6 hown6 hb6)
          rw [sv_snoc] at hown6
          have HO6 := Lib.hid hown6
          obtain ⟨A', c', rfl, _, _⟩ := Sees.of_own hown6
          clear hown6
          go_roundw
          case rel => exact ⟨j + 1, ts ++ [t], q', rfl, HN.out, HO6.out, (HB.out.trans (hb5.mono hzz)).trans (((Below.refl _ _).alloc (by omega) _).trans hb6)⟩
          case measure => simp [lenOf]; omega
      · have e1 : decide ((j : Int) < (n : Int)) = false := by simp; omega
        have HN := Lib.hid (HA.out.stop hlt)
        have HL := Lib.hid HA.out.len
        go_wp2_with fail
        refine bodyPost_ret (by simp [results, Try.results16, go_sem]; try rfl) rfl ?_
        refine ⟨HB.out, fun h => ?_, fun us s h => ?_⟩
        · rw [HR.out, HN.out] at h; cases h
        · rw [HR.out, HN.out] at h
          injection h with h
          injection h with h1 h2
          subst h1 h2
          rw [HL.out]
          exact ⟨A, c, rfl, HC.out, HS.out⟩
end Go.Proofs.Try
