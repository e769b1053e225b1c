/- Contracts of fixed.Mix. -/
import Derived.Test.YtjcclobnpbgmcaaDoorFix
import Derived.Deep.RegionHeld3
import Derived.Deep.RegionWith
import Derived.Deep.DeepCutAuto
namespace Go.Proofs.Tryd
open Go.RowKit
set_option linter.unusedVariables false


theorem mix_math (a b m : Int) (ha : 0 ≤ a) (hb : 0 ≤ b) (ha' : a < 18446744073709551616) (hb' : b < 18446744073709551616) (hm0 : 0 ≤ m) (hm1 : m ≤ 4294967296) :
    aHi 0 0 (a * (4294967296 - m) / 18446744073709551616) (a * (4294967296 - m) % 18446744073709551616) = a * (4294967296 - m) / 18446744073709551616 ∧
    aLo 0 (a * (4294967296 - m) % 18446744073709551616) = a * (4294967296 - m) % 18446744073709551616 ∧
    aHi (a * (4294967296 - m) / 18446744073709551616) (a * (4294967296 - m) % 18446744073709551616) (b * m / 18446744073709551616) (b * m % 18446744073709551616) = (a * (4294967296 - m) + b * m) / 18446744073709551616 ∧
    aLo (a * (4294967296 - m) % 18446744073709551616) (b * m % 18446744073709551616) = (a * (4294967296 - m) + b * m) % 18446744073709551616 ∧
    shLo ((a * (4294967296 - m) + b * m) / 18446744073709551616) ((a * (4294967296 - m) + b * m) % 18446744073709551616) 32 = (a * (4294967296 - m) + b * m) / 4294967296 ∧
    0 ≤ a * (4294967296 - m) ∧ a * (4294967296 - m) < 340282366920938463463374607431768211456 ∧ 0 ≤ a * (4294967296 - m) + b * m ∧ a * (4294967296 - m) + b * m < 340282366920938463463374607431768211456 := by
  have p0 : 0 ≤ a * (4294967296 - m) := Int.mul_nonneg ha (by omega)
  have r0 : 0 ≤ b * m := Int.mul_nonneg hb hm0
  have p1 : a * (4294967296 - m) ≤ 18446744073709551615 * (4294967296 - m) := Int.mul_le_mul_of_nonneg_right (by omega) (by omega)
  have r1 : b * m ≤ 18446744073709551615 * m := Int.mul_le_mul_of_nonneg_right (by omega) (by omega)
  generalize a * (4294967296 - m) = P at *
  generalize b * m = R at *
  unfold aHi aLo shLo wN
  have e : (2 : Int) ^ (32 : Int).toNat = 4294967296 := by decide
  rw [e]
  refine ⟨by omega, by omega, by omega, by omega, by omega, by omega, by omega, by omega, by omega⟩

def mixN (a b w : Int) : Int := (a * (4294967296 - min w 4294967296) + b * min w 4294967296) / 4294967296
end Go.Proofs.Tryd
