/- Strings as lists of bytes; their conversions. -/
import Derived.Test.YtfdjgdogcknoiaaDoorOwn
import Derived.Test.YtfdjgdogcknoiaaDoorLaw
import Derived.Test.YtfdjgdogcknoiaaDoorPack
import Derived.Laws.BytesString
import Derived.Laws.Cells
import Derived.Laws.Concat
import Derived.SliceStrings
import Derived.LoopN
import Derived.WalkMore
namespace Go.Proofs.Tryd
open Go.ChangeShapes Go.WideShapes Go.ChangeAt Go.RowKit Go.Joins Go.Deep
set_option linter.unusedVariables false

/-- A string's byte. -/
def byteAt (s : ByteArray) (i : Nat) : Int := (s.data.toList.getD i 0).toNat
theorem byteAt_in (s : ByteArray) (i : Nat) : 0 ≤ byteAt s i ∧ byteAt s i < 256 := by
  unfold byteAt
  have := UInt8.toNat_lt (s.data.toList.getD i 0)
  omega
theorem foldl_push0 : ∀ (l : List UInt8) (acc : ByteArray), (l.map fun x : UInt8 => (x.toNat : Int)).foldl (fun r n => r.push (UInt8.ofNat n.toNat)) acc = ⟨⟨acc.data.toList ++ l⟩⟩
  | [], acc => by simp
  | x :: l, acc => by
    rw [List.map_cons, List.foldl_cons, foldl_push0 l]
    have e : (acc.push (UInt8.ofNat ((x.toNat : Int)).toNat)).data.toList = acc.data.toList ++ [x] := by
      simp [ByteArray.push]
    rw [e]; simp
theorem conv_str (s : ByteArray) (b cap : Nat) (W : World) (h : ∀ j, j < s.size → W.cell? ⟨b, j, none⟩ = some (.int .u8 (byteAt s j))) :
    (convert 34 9 (.slice (some ⟨b, 0, none⟩) s.size cap)).run Tryd.prog W = .ok (.string s) W := by
  rw [run_convert_bytes_string W 34 9 5 _ _ _ Tryd.underlying34 (by kernel_rfl) Tryd.underlying9]
  have hz : s.data.toList.length = s.size := by rw [← Lib.size_eq]
  have hl : (loadCells ⟨b, 0, none⟩ s.size).run Tryd.prog W = .ok ((s.data.toList.map fun x : UInt8 => (x.toNat : Int)).map (Value.int .u8)).toArray W := by
    have := run_loadCells_list (P := Tryd.prog) (w := W) ⟨b, 0, none⟩ ((s.data.toList.map fun x : UInt8 => (x.toNat : Int)).map (Value.int .u8)) (fun j v hv => by
      have hj : j < s.size := by have := (List.getElem?_eq_some_iff.1 hv).1; simp only [List.length_map] at this; omega
      rw [add_plain, Nat.zero_add, h j hj, ← hv, List.getElem?_map, List.getElem?_map, List.getElem?_eq_getElem (by omega)]
      unfold byteAt
      rw [List.getD_eq_getElem?_getD, List.getElem?_eq_getElem (by omega)]; rfl)
    rw [List.length_map, List.length_map, hz] at this
    exact this
  rw [run_bytesToString W ⟨b, 0, none⟩ s.size cap _ hl, foldl_push0]
  simp
/-- The string of these bytes. -/
def S (l : List UInt8) : ByteArray := ⟨l.toArray⟩
theorem S_list (l : List UInt8) : (S l).data.toList = l := by simp [S]
theorem S_size (l : List UInt8) : (S l).size = l.length := by
  have := Lib.size_eq (S l)
  rw [S_list] at this
  omega
theorem S_ext (a b : ByteArray) (h : a.data.toList = b.data.toList) : a = b := by
  cases a; cases b
  congr 1
  exact Array.toList_inj.1 h
theorem S_of (s : ByteArray) : S s.data.toList = s := S_ext _ _ (S_list _)
theorem S_app (a b : List UInt8) : S a ++ S b = S (a ++ b) := S_ext _ _ (by rw [ByteArray.data_append, Array.toList_append, S_list, S_list, S_list])
theorem S_inj {a b : List UInt8} (h : S a = S b) : a = b := by rw [← S_list a, h, S_list]
theorem conv_one0 (a : Int) (h0 : 0 ≤ a) (h1 : a < 256) (W : World) (g c : Nat) (h : W.cell? ⟨g, 0, none⟩ = some (.int .u8 a)) :
    (convert 34 9 (.slice (some ⟨g, 0, none⟩) 1 c)).run Tryd.prog W = .ok (.string (S [UInt8.ofNat a.toNat])) W := by
  have := conv_str (S [UInt8.ofNat a.toNat]) g c W (fun j hj => by
    have hj0 : j = 0 := by rw [S_size] at hj; simpa using hj
    subst hj0
    rw [h]
    unfold byteAt
    rw [S_list]
    have e : (UInt8.ofNat a.toNat).toNat = a.toNat := u8_of _ (by omega)
    show some (Value.int .u8 a) = some (Value.int .u8 ((UInt8.ofNat a.toNat).toNat : Int))
    rw [e, Int.toNat_of_nonneg h0])
  rw [S_size] at this
  exact this
end Go.Proofs.Tryd
