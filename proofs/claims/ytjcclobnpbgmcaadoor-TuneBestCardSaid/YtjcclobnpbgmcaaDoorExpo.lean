/- Layer 5, in theory: what is reckoned; that it falls; that of a sum. -/
import Derived.Test.YtjcclobnpbgmcaaDoorBase
namespace Go.Proofs.Tryd
def pw : List Nat := [4611686017353646080, 4611686016279904256, 4611686014132420609, 4611686009837453319, 4611686001247518751, 4611685984067649663, 4611685949707911679, 4611685880988436479, 4611685743549489151, 4611685468671606783, 4611684918915891199, 4611683819404656639, 4611681620382973951, 4611677222342754298, 4611668426274897877, 4611650834189516458, 4611615650220078421, 4611545283086494378, 4611404552040437079, 4611123102832306901, 4610560255948314623, 4609434768280048980, 4607184617107619805, 4602687609541841169, 4593706758521714574, 4575797593107614194, 4540188453729421604, 4469799356029710114, 4332278087304955804, 4069798626954855183, 3591584682430698960, 2797128963144291324, 1696544475317221318, 624123833502197199, 84465975781740359, 1547048310802923, 518976891834]
def pk (k : Nat) : Nat := pw.getD k 0
theorem pk_le (k : Nat) : pk k ≤ 4611686018427387904 := by
  have h : ∀ i : Fin 37, pw.getD i.val 0 ≤ 4611686018427387904 := by decide
  by_cases hk : k < 37
  · exact h ⟨k, hk⟩
  · unfold pk
    rw [List.getD_eq_getElem?_getD, List.getElem?_eq_none (by show 37 ≤ k; omega)]
    simp
/-- What is told, from the highest bit on. -/
def eN (x : Nat) : Nat → Nat
  | 0 => 4611686018427387904
  | i + 1 => if x.testBit (36 - i) then eN x i * pk (36 - i) / 4611686018427387904 else eN x i
theorem eN_le (x : Nat) : ∀ i, eN x i ≤ 4611686018427387904
  | 0 => Nat.le_refl _
  | i + 1 => by
    have ih := eN_le x i
    rw [eN]
    split
    · have h1 := Nat.mul_le_mul ih (pk_le (36 - i))
      exact Nat.div_le_of_le_mul h1
    · exact ih
def est (x : Nat) : Nat := eN x 37
def ofx (x : Nat) : Nat := if 137438953472 ≤ x then 0 else est x / 1073741824
theorem ofx_le (x : Nat) : ofx x ≤ 4294967296 := by
  unfold ofx est
  have := eN_le x 37
  split <;> omega
/-- A factor. -/
def fk (x k : Nat) : Nat := if x.testBit k then pk k else 4611686018427387904
theorem fk_le (x k : Nat) : fk x k ≤ 4611686018427387904 := by
  unfold fk
  split
  · exact pk_le k
  · exact Nat.le_refl _
def hN (x : Nat) : Nat → Nat
  | 0 => 1
  | k + 1 => hN x k * fk x k
def gN (x : Nat) : Nat → Nat
  | 0 => 1
  | i + 1 => gN x i * fk x (36 - i)
theorem g_h (x : Nat) : ∀ i, i ≤ 37 → gN x i * hN x (37 - i) = hN x 37
  | 0, _ => by rw [gN, Nat.one_mul]
  | i + 1, h => by
    have ih := g_h x i (by omega)
    rw [show 37 - i = 36 - i + 1 by omega, hN] at ih
    rw [gN, show 37 - (i + 1) = 36 - i by omega, ← ih, Nat.mul_assoc, Nat.mul_comm (fk x (36 - i))]
theorem e_low (x : Nat) : ∀ i, eN x i * 4611686018427387904 ^ i ≤ 4611686018427387904 * gN x i
  | 0 => Nat.le_refl _
  | i + 1 => by
    have ih := e_low x i
    rw [eN, gN, Nat.pow_succ]
    unfold fk
    split
    · have h1 : eN x i * pk (36 - i) / 4611686018427387904 * 4611686018427387904 ≤ eN x i * pk (36 - i) := Nat.div_mul_le_self _ _
      have h2 := Nat.mul_le_mul_right (pk (36 - i)) ih
      have h3 := Nat.mul_le_mul_right (4611686018427387904 ^ i) h1
      calc eN x i * pk (36 - i) / 4611686018427387904 * (4611686018427387904 ^ i * 4611686018427387904)
          = eN x i * pk (36 - i) / 4611686018427387904 * 4611686018427387904 * 4611686018427387904 ^ i := by rw [Nat.mul_assoc, Nat.mul_comm (4611686018427387904 ^ i)]
        _ ≤ eN x i * pk (36 - i) * 4611686018427387904 ^ i := h3
        _ = eN x i * 4611686018427387904 ^ i * pk (36 - i) := by rw [Nat.mul_assoc, Nat.mul_comm (pk (36 - i)), ← Nat.mul_assoc]
        _ ≤ 4611686018427387904 * gN x i * pk (36 - i) := h2
        _ = 4611686018427387904 * (gN x i * pk (36 - i)) := Nat.mul_assoc _ _ _
    · have h2 := Nat.mul_le_mul_right 4611686018427387904 ih
      rw [← Nat.mul_assoc, ← Nat.mul_assoc]
      exact h2
theorem e_high (x : Nat) : ∀ i, 4611686018427387904 * gN x i ≤ (eN x i + i) * 4611686018427387904 ^ i
  | 0 => Nat.le_refl _
  | i + 1 => by
    have ih := e_high x i
    rw [eN, gN, Nat.pow_succ]
    unfold fk
    split
    · have hp := pk_le (36 - i)
      generalize pk (36 - i) = p at *
      generalize eN x i = n at *
      have h1 : n * p < (n * p / 4611686018427387904 + 1) * 4611686018427387904 := by
        have := Nat.lt_div_mul_add (a := n * p) (b := 4611686018427387904) (by omega)
        omega
      have h4 : (n + i) * p ≤ (n * p / 4611686018427387904 + (i + 1)) * 4611686018427387904 := by
        have := Nat.mul_le_mul_left i hp
        rw [Nat.add_mul]
        omega
      have h2 := Nat.mul_le_mul_right p ih
      have h3 := Nat.mul_le_mul_right (4611686018427387904 ^ i) h4
      calc 4611686018427387904 * (gN x i * p) = 4611686018427387904 * gN x i * p := (Nat.mul_assoc _ _ _).symm
        _ ≤ (n + i) * 4611686018427387904 ^ i * p := h2
        _ = (n + i) * p * 4611686018427387904 ^ i := by rw [Nat.mul_assoc, Nat.mul_comm _ p, ← Nat.mul_assoc]
        _ ≤ (n * p / 4611686018427387904 + (i + 1)) * 4611686018427387904 * 4611686018427387904 ^ i := h3
        _ = (n * p / 4611686018427387904 + (i + 1)) * (4611686018427387904 ^ i * 4611686018427387904) := by rw [Nat.mul_assoc, Nat.mul_comm 4611686018427387904]
    · have h2 := Nat.mul_le_mul_right 4611686018427387904 ih
      rw [← Nat.mul_assoc, ← Nat.mul_assoc]
      refine Nat.le_trans h2 (Nat.mul_le_mul_right _ (Nat.mul_le_mul_right _ (by omega)))
/-- All low bits set. -/
def loN : Nat → Nat
  | 0 => 1
  | k + 1 => loN k * pk k
theorem lo_le : ∀ k : Fin 37, 4611686018427387904 ^ k.val * pk k.val ≤ loN k.val * 4611686018427387904 := by decide +kernel
theorem hN_mod (k : Nat) : ∀ x y, x % 2 ^ k = y % 2 ^ k → hN x k = hN y k := by
  induction k with
  | zero => intro x y _; rfl
  | succ k ih =>
    intro x y h
    have hb : x.testBit k = y.testBit k := by
      have := congrArg (·.testBit k) h
      simpa [Nat.testBit_mod_two_pow] using this
    have hm : x % 2 ^ k = y % 2 ^ k := by
      have := congrArg (· % 2 ^ k) h
      simpa [Nat.mod_mod_of_dvd, Nat.pow_succ, Nat.mod_mul_right_mod] using this
    rw [hN, hN, ih x y hm]
    unfold fk
    rw [hb]
theorem hN_top (x : Nat) : ∀ k, hN x k ≤ 4611686018427387904 ^ k
  | 0 => Nat.le_refl _
  | k + 1 => by
    rw [hN, Nat.pow_succ]
    exact Nat.mul_le_mul (hN_top x k) (fk_le x k)
theorem hN_low (x : Nat) : ∀ k, loN k ≤ hN x k
  | 0 => Nat.le_refl _
  | k + 1 => by
    rw [hN, loN]
    refine Nat.mul_le_mul (hN_low x k) ?_
    unfold fk
    split
    · exact Nat.le_refl _
    · exact pk_le k
theorem hN_mono (k : Nat) : k ≤ 37 → ∀ a b, a ≤ b → b < 2 ^ k → hN b k ≤ hN a k := by
  induction k with
  | zero => intro _ a b _ _; exact Nat.le_refl _
  | succ k ih =>
    intro hk a b hab hb
    have hp : 2 ^ (k + 1) = 2 * 2 ^ k := by rw [Nat.pow_succ, Nat.mul_comm]
    have bit : ∀ x, x < 2 ^ (k + 1) → x.testBit k = decide (2 ^ k ≤ x) := fun x hx => by
      rw [Nat.testBit_eq_decide_div_mod_eq]
      have h0 := Nat.two_pow_pos k
      by_cases h : 2 ^ k ≤ x
      · have : x / 2 ^ k = 1 := by
          apply Nat.div_eq_of_lt_le <;> omega
        simp [this, h]
      · have : x / 2 ^ k = 0 := Nat.div_eq_of_lt (by omega)
        simp [this, h]
    rw [hN, hN]
    unfold fk
    rw [bit a (by omega), bit b hb]
    by_cases h1 : 2 ^ k ≤ a
    · rw [if_pos (by simp; omega), if_pos (by simpa using h1)]
      refine Nat.mul_le_mul_right _ ?_
      rw [hN_mod k a (a - 2 ^ k) (by rw [← Nat.mod_eq_sub_mod h1]), hN_mod k b (b - 2 ^ k) (by rw [← Nat.mod_eq_sub_mod (by omega)])]
      exact ih (by omega) _ _ (by omega) (by omega)
    · by_cases h2 : 2 ^ k ≤ b
      · rw [if_pos (by simpa using h2), if_neg (by simpa using h1)]
        have h3 := lo_le ⟨k, by omega⟩
        exact Nat.le_trans (Nat.mul_le_mul_right _ (hN_top b k)) (Nat.le_trans h3 (Nat.mul_le_mul_right _ (hN_low a k)))
      · rw [if_neg (by simpa using h2), if_neg (by simpa using h1)]
        exact Nat.mul_le_mul_right _ (ih (by omega) a b hab (by omega))
theorem est_falls (a b : Nat) (hab : a ≤ b) (hb : b < 137438953472) : est b ≤ est a + 37 := by
  have h1 := e_low b 37
  have h2 := e_high a 37
  have g1 := g_h a 37 (Nat.le_refl _)
  have g2 := g_h b 37 (Nat.le_refl _)
  rw [show 37 - 37 = 0 from rfl, hN, Nat.mul_one] at g1 g2
  rw [g2] at h1
  rw [g1] at h2
  have h3 := hN_mono 37 (Nat.le_refl _) a b hab hb
  have h4 := Nat.le_trans h1 (Nat.le_trans (Nat.mul_le_mul_left _ h3) h2)
  exact Nat.le_of_mul_le_mul_right h4 (Nat.pow_pos (by omega))
theorem ofx_falls (a b : Nat) (hab : a ≤ b) : ofx b ≤ ofx a + 1 := by
  unfold ofx
  by_cases hb : 137438953472 ≤ b
  · rw [if_pos hb]; omega
  · rw [if_neg hb, if_neg (by omega)]
    have := est_falls a b hab (by omega)
    omega
theorem ofx_zero : ofx 0 = 4294967296 := by
  have : ∀ i, eN 0 i = 4611686018427387904 := by
    intro i
    induction i with
    | zero => rfl
    | succ i ih => rw [eN, Nat.zero_testBit, if_neg (by simp), ih]
  unfold ofx est
  rw [this, if_neg (by omega)]
/-- All factors. -/
def hh (x : Nat) : Int := (hN x 37 : Nat)
theorem hh_nonneg (x : Nat) : 0 ≤ hh x := by unfold hh; omega
theorem hh_top (x : Nat) : hh x ≤ ((4611686018427387904 ^ 37 : Nat) : Int) := by
  unfold hh
  exact Int.ofNat_le.2 (hN_top x 37)
theorem pk_sq : ∀ k : Fin 36, (pk k.val : Int) * pk k.val - pk (k.val + 1) * 4611686018427387904 ≤ 2 * 4611686018427387904 ∧ -(2 * 4611686018427387904) ≤ (pk k.val : Int) * pk k.val - pk (k.val + 1) * 4611686018427387904 := by decide +kernel
/-- A bit that is set makes one factor. -/
theorem hN_set (x k : Nat) (_hb : x.testBit k = false) : ∀ n, n ≤ k → hN (x + 2 ^ k) n = hN x n := fun n hn => hN_mod n _ _ (by
  have : 2 ^ k = 2 ^ n * 2 ^ (k - n) := by rw [← Nat.pow_add]; congr 1; omega
  rw [this, Nat.add_mul_mod_self_left])
theorem add_bit (x k i : Nat) (hb : x.testBit k = false) (hi : i ≠ k) : (x + 2 ^ k).testBit i = x.testBit i := by
  have e : x + 2 ^ k = x ||| 2 ^ k := by
    apply Nat.eq_of_testBit_eq
    intro j
    have hx : x = 2 ^ (k + 1) * (x / 2 ^ (k + 1)) + x % 2 ^ k := by
      have h1 := Nat.div_add_mod x (2 ^ (k + 1))
      have h2 : x % 2 ^ (k + 1) = x % 2 ^ k := by
        rw [Nat.pow_succ, Nat.mod_mul]
        rw [Nat.testBit_eq_decide_div_mod_eq] at hb
        have : x / 2 ^ k % 2 = 0 := by
          have := of_decide_eq_false hb
          omega
        rw [this]; simp
      omega
    have hlt : x % 2 ^ k < 2 ^ k := Nat.mod_lt _ (Nat.two_pow_pos k)
    have hlt2 : 2 ^ k + x % 2 ^ k < 2 ^ (k + 1) := by rw [Nat.pow_succ]; omega
    have e1 : x + 2 ^ k = 2 ^ (k + 1) * (x / 2 ^ (k + 1)) + (2 ^ k + x % 2 ^ k) := by omega
    rw [Nat.testBit_or, Nat.testBit_two_pow]
    conv => lhs; rw [e1, Nat.testBit_two_pow_mul_add _ hlt2]
    conv => rhs; rw [hx, Nat.testBit_two_pow_mul_add _ (Nat.lt_of_lt_of_le hlt (Nat.pow_le_pow_right (by omega) (by omega)))]
    by_cases h1 : j < k + 1
    · rw [if_pos h1, if_pos h1]
      rcases (by omega : j < k ∨ j = k) with h | rfl
      · have : (2 ^ k + x % 2 ^ k).testBit j = (x % 2 ^ k).testBit j := by
          rw [show 2 ^ k + x % 2 ^ k = 2 ^ k * 1 + x % 2 ^ k by omega, Nat.testBit_two_pow_mul_add _ hlt, if_pos h]
        rw [this]
        simp [show ¬ k = j by omega]
      · have : (2 ^ j + x % 2 ^ j).testBit j = true := by
          rw [show 2 ^ j + x % 2 ^ j = 2 ^ j * 1 + x % 2 ^ j by omega, Nat.testBit_two_pow_mul_add _ hlt, if_neg (by omega)]
          simp
        rw [this]
        simp
    · rw [if_neg h1, if_neg h1]
      simp [show ¬ k = j by omega]
  rw [e, Nat.testBit_or, Nat.testBit_two_pow]
  simp [show ¬ k = i from fun h => hi h.symm]
theorem add_bit_self (x k : Nat) (hb : x.testBit k = false) : (x + 2 ^ k).testBit k = true := by
  rw [Nat.testBit_eq_decide_div_mod_eq] at hb ⊢
  have h1 := of_decide_eq_false hb
  rw [Nat.add_div_right _ (Nat.two_pow_pos k)]
  simp
  omega
theorem hN_flip (x k : Nat) (hb : x.testBit k = false) : ∀ n, k < n → hN (x + 2 ^ k) n * 4611686018427387904 = hN x n * pk k
  | 0, h => by omega
  | n + 1, h => by
    rw [hN, hN]
    rcases (by omega : k < n ∨ k = n) with h1 | rfl
    · have ih := hN_flip x k hb n h1
      have hf : fk (x + 2 ^ k) n = fk x n := by unfold fk; rw [add_bit x k n hb (by omega)]
      rw [hf, Nat.mul_assoc, Nat.mul_comm (fk x n), ← Nat.mul_assoc, ih, Nat.mul_assoc, Nat.mul_comm (pk k), ← Nat.mul_assoc]
    · rw [hN_set x k hb k (Nat.le_refl _)]
      have h1 : fk (x + 2 ^ k) k = pk k := by unfold fk; rw [add_bit_self x k hb]; rfl
      have h2 : fk x k = 4611686018427387904 := by unfold fk; rw [hb]; rfl
      rw [h1, h2, Nat.mul_assoc, Nat.mul_assoc, Nat.mul_comm (pk k)]
theorem hh_flip (x k : Nat) (hk : k < 37) (hb : x.testBit k = false) : hh (x + 2 ^ k) * 4611686018427387904 = hh x * (pk k : Int) := by
  unfold hh
  have := hN_flip x k hb 37 hk
  have h2 := congrArg (fun n : Nat => (n : Int)) this
  simpa using h2
/-- A power of two more. -/
theorem hh_add (d : Nat) : ∀ k x, 36 - k = d → k ≤ 36 → x + 2 ^ k < 2 ^ 37 →
    hh (x + 2 ^ k) * 4611686018427387904 - hh x * (pk k : Int) ≤ 2 * (37 - (k : Int)) * ((4611686018427387904 ^ 37 : Nat) : Int) ∧
    -(2 * (37 - (k : Int)) * ((4611686018427387904 ^ 37 : Nat) : Int)) ≤ hh (x + 2 ^ k) * 4611686018427387904 - hh x * (pk k : Int) := by
  induction d with
  | zero =>
    intro k x hd hk hx
    have hk36 : k = 36 := by omega
    subst hk36
    have hb : x.testBit 36 = false := Nat.testBit_lt_two_pow (by
      have : (2 : Nat) ^ 37 = 2 ^ 36 + 2 ^ 36 := by decide
      omega)
    have e := hh_flip x 36 (by omega) hb
    rw [e]
    constructor <;> omega
  | succ d ih =>
    intro k x hd hk hx
    by_cases hb : x.testBit k = true
    · have hge : 2 ^ k ≤ x := by
        rcases Nat.lt_or_ge x (2 ^ k) with h | h
        · rw [Nat.testBit_lt_two_pow h] at hb; cases hb
        · exact h
      obtain ⟨y, rfl⟩ : ∃ y, x = y + 2 ^ k := ⟨x - 2 ^ k, by omega⟩
      have hy : y.testBit k = false := by
        cases h : y.testBit k
        · rfl
        · exfalso
          rw [Nat.testBit_eq_decide_div_mod_eq] at hb h
          have h1 := of_decide_eq_true hb
          have h2 := of_decide_eq_true h
          rw [Nat.add_div_right _ (Nat.two_pow_pos k)] at h1
          omega
      have e1 := hh_flip y k (by omega) hy
      have hp : y + 2 ^ k + 2 ^ k = y + 2 ^ (k + 1) := by rw [Nat.pow_succ]; omega
      rw [hp] at hx ⊢
      obtain ⟨i1, i2⟩ := ih (k + 1) y (by omega) (by omega) hx
      obtain ⟨s1, s2⟩ := pk_sq ⟨k, by omega⟩
      have y0 := hh_nonneg y
      have y1 := hh_top y
      generalize ((4611686018427387904 ^ 37 : Nat) : Int) = T at *
      generalize hh (y + 2 ^ (k + 1)) = A at *
      generalize hh (y + 2 ^ k) = X at *
      generalize hh y = Y at *
      generalize (pk (k + 1) : Int) = q at *
      generalize (pk k : Int) = p at *
      have hT0 : 0 ≤ T := by omega
      have t1 : Y * (p * p - q * 4611686018427387904) ≤ Y * (2 * 4611686018427387904) := Int.mul_le_mul_of_nonneg_left s1 y0
      have t2 : Y * (-(2 * 4611686018427387904)) ≤ Y * (p * p - q * 4611686018427387904) := Int.mul_le_mul_of_nonneg_left s2 y0
      have t3 : Y * (p * p - q * 4611686018427387904) = X * p * 4611686018427387904 - Y * q * 4611686018427387904 := by
        rw [Int.mul_sub, ← Int.mul_assoc, ← e1, ← Int.mul_assoc, Int.mul_assoc X, Int.mul_comm 4611686018427387904 p, ← Int.mul_assoc]
      have hc : ((k + 1 : Nat) : Int) = (k : Int) + 1 := by omega
      rw [hc] at i1 i2
      have u1 : 2 * (37 - ((k : Int) + 1)) * T = 2 * (37 - (k : Int)) * T - 2 * T := by
        rw [show 2 * (37 - ((k : Int) + 1)) = 2 * (37 - (k : Int)) - 2 by omega, Int.sub_mul]
      rw [u1] at i1 i2
      generalize 2 * (37 - (k : Int)) * T = W at *
      generalize Y * q = Yq at *
      generalize X * p = Xp at *
      constructor <;> omega
    · have hb' : x.testBit k = false := by simpa using hb
      have e := hh_flip x k (by omega) hb'
      rw [e, Int.sub_self]
      have hT0 : (0 : Int) ≤ ((4611686018427387904 ^ 37 : Nat) : Int) := by omega
      have h3 := Int.mul_nonneg (show 0 ≤ 2 * (37 - (k : Int)) by omega) hT0
      constructor <;> omega
/-- The factor of b's first j bits. -/
theorem hh_zero : hh 0 = ((4611686018427387904 ^ 37 : Nat) : Int) := by
  have : ∀ k, hN 0 k = 4611686018427387904 ^ k := by
    intro k
    induction k with
    | zero => rfl
    | succ k ih =>
      rw [hN, ih, Nat.pow_succ]
      unfold fk
      rw [Nat.zero_testBit, if_neg (by simp)]
  unfold hh
  rw [this]
theorem mod_bit (b j : Nat) : b % 2 ^ (j + 1) = b % 2 ^ j + (if b.testBit j then 2 ^ j else 0) := by
  rw [Nat.pow_succ, Nat.mod_mul, Nat.testBit_eq_decide_div_mod_eq]
  have h : b / 2 ^ j % 2 < 2 := Nat.mod_lt _ (by omega)
  by_cases h1 : b / 2 ^ j % 2 = 1
  · rw [h1, if_pos (by simp), Nat.mul_one]
  · rw [show b / 2 ^ j % 2 = 0 by omega, if_neg (by simp), Nat.mul_zero]
/-- What is reckoned of a sum, beside the product. -/
theorem hh_sum (a b : Nat) (hab : a + b < 2 ^ 37) : ∀ j : Nat, j ≤ 37 →
    hh (a + b % 2 ^ j) * ((4611686018427387904 ^ 37 : Nat) : Int) - hh a * hh (b % 2 ^ j) ≤ 74 * (j : Int) * ((4611686018427387904 ^ 37 : Nat) : Int) * ((4611686018427387904 ^ 36 : Nat) : Int) ∧
    -(74 * (j : Int) * ((4611686018427387904 ^ 37 : Nat) : Int) * ((4611686018427387904 ^ 36 : Nat) : Int)) ≤ hh (a + b % 2 ^ j) * ((4611686018427387904 ^ 37 : Nat) : Int) - hh a * hh (b % 2 ^ j)
  | 0, _ => by
    rw [Nat.pow_zero, Nat.mod_one, Nat.add_zero, hh_zero]
    simp
  | j + 1, hj => by
    obtain ⟨i1, i2⟩ := hh_sum a b hab j (by omega)
    rw [mod_bit]
    have hT0 : (0 : Int) ≤ ((4611686018427387904 ^ 37 : Nat) : Int) := by omega
    have hR0 : (0 : Int) ≤ ((4611686018427387904 ^ 36 : Nat) : Int) := by omega
    have hTR : ((4611686018427387904 ^ 37 : Nat) : Int) = 4611686018427387904 * ((4611686018427387904 ^ 36 : Nat) : Int) := by
      have : (4611686018427387904 ^ 37 : Nat) = 4611686018427387904 * 4611686018427387904 ^ 36 := by rw [Nat.pow_succ, Nat.mul_comm]
      rw [this, Int.natCast_mul]; rfl
    have hcast : (74 : Int) * ((j + 1 : Nat) : Int) = 74 * (j : Int) + 74 := by omega
    by_cases hb : b.testBit j = true
    · rw [if_pos hb]
      have hlt : (b % 2 ^ j).testBit j = false := Nat.testBit_lt_two_pow (Nat.mod_lt _ (Nat.two_pow_pos j))
      have e2 := hh_flip (b % 2 ^ j) j (by omega) hlt
      have hle : b % 2 ^ (j + 1) ≤ b := Nat.mod_le _ _
      rw [mod_bit, if_pos hb] at hle
      obtain ⟨a1, a2⟩ := hh_add (36 - j) j (a + b % 2 ^ j) rfl (by omega) (by omega)
      rw [← Nat.add_assoc]
      have y0 := hh_nonneg a
      have y1 := hh_top a
      have hp0 : (0 : Int) ≤ (pk j : Int) := by omega
      have hp1 : (pk j : Int) ≤ 4611686018427387904 := by have := pk_le j; omega
      rw [hcast]
      generalize ((4611686018427387904 ^ 37 : Nat) : Int) = T at *
      generalize ((4611686018427387904 ^ 36 : Nat) : Int) = R at *
      generalize hh (a + b % 2 ^ j + 2 ^ j) = S2 at *
      generalize hh (a + b % 2 ^ j) = S1 at *
      generalize hh (b % 2 ^ j + 2 ^ j) = Z2 at *
      generalize hh (b % 2 ^ j) = Z1 at *
      generalize hh a = Y at *
      generalize (pk j : Int) = p at *
      -- (S2 T - Y Z2) M = (S2 M - S1 p) T + (S1 T - Y Z1) p
      have key : (S2 * T - Y * Z2) * 4611686018427387904 = (S2 * 4611686018427387904 - S1 * p) * T + (S1 * T - Y * Z1) * p := by
        rw [Int.sub_mul, Int.sub_mul, Int.sub_mul, Int.mul_assoc Y, e2]
        rw [Int.mul_assoc S2 T, Int.mul_comm T, ← Int.mul_assoc, Int.mul_assoc S1 p T, Int.mul_comm p T, ← Int.mul_assoc S1 T p, ← Int.mul_assoc Y]
        omega
      have m1 : (S2 * 4611686018427387904 - S1 * p) * T ≤ (2 * (37 - (j : Int)) * T) * T := Int.mul_le_mul_of_nonneg_right a1 hT0
      have m2 : -(2 * (37 - (j : Int)) * T) * T ≤ (S2 * 4611686018427387904 - S1 * p) * T := Int.mul_le_mul_of_nonneg_right a2 hT0
      have b1 : (2 * (37 - (j : Int)) * T) * T ≤ 74 * T * T := Int.mul_le_mul_of_nonneg_right (Int.mul_le_mul_of_nonneg_right (by omega) hT0) hT0
      have hE0 : 0 ≤ 74 * (j : Int) * T * R := Int.mul_nonneg (Int.mul_nonneg (by omega) hT0) hR0
      have n1 : (S1 * T - Y * Z1) * p ≤ 74 * (j : Int) * T * R * 4611686018427387904 := Int.le_trans (Int.mul_le_mul_of_nonneg_right i1 hp0) (Int.mul_le_mul_of_nonneg_left hp1 hE0)
      have n2 : -(74 * (j : Int) * T * R * 4611686018427387904) ≤ (S1 * T - Y * Z1) * p := by
        have h1 := Int.mul_le_mul_of_nonneg_right i2 hp0
        have h2 := Int.mul_le_mul_of_nonneg_left hp1 hE0
        rw [Int.neg_mul] at h1
        omega
      have c1 : 74 * T * T = 74 * T * R * 4611686018427387904 := by
        have h1 : 74 * T * T = 74 * T * (4611686018427387904 * R) := by rw [← hTR]
        rw [h1, Int.mul_comm 4611686018427387904 R, ← Int.mul_assoc]
      rw [c1] at b1
      have d1 : (74 * (j : Int) + 74) * T * R = 74 * (j : Int) * T * R + 74 * T * R := by rw [Int.add_mul, Int.add_mul]
      rw [d1]
      rw [Int.neg_mul] at m2
      generalize (2 * (37 - (j : Int)) * T) * T = Q1 at *
      generalize (S2 * 4611686018427387904 - S1 * p) * T = Q2 at *
      generalize (S1 * T - Y * Z1) * p = Q3 at *
      generalize S2 * T - Y * Z2 = Q4 at *
      generalize 74 * (j : Int) * T * R = Q5 at *
      generalize 74 * T * R = Q6 at *
      constructor <;> omega
    · rw [if_neg hb, Nat.add_zero, hcast]
      have h74 : 0 ≤ 74 * ((4611686018427387904 ^ 37 : Nat) : Int) * ((4611686018427387904 ^ 36 : Nat) : Int) := Int.mul_nonneg (Int.mul_nonneg (by omega) hT0) hR0
      rw [Int.add_mul, Int.add_mul]
      constructor <;> omega
theorem ofx_one : ofx 4294967296 = 1580030168 := by decide +kernel
theorem ofx_big (x : Nat) (h : 137438953472 ≤ x) : ofx x = 0 := by unfold ofx; rw [if_pos h]
theorem ofx_in (x : Nat) (h : x < 137438953472) : ofx x = est x / 1073741824 := by unfold ofx; rw [if_neg (by omega)]
theorem est_low (x : Nat) : (est x : Int) * ((4611686018427387904 ^ 37 : Nat) : Int) ≤ 4611686018427387904 * hh x := by
  have h1 := e_low x 37
  have g1 := g_h x 37 (Nat.le_refl _)
  rw [show 37 - 37 = 0 from rfl, hN, Nat.mul_one] at g1
  rw [g1] at h1
  have h2 := Int.ofNat_le.2 h1
  unfold hh est
  simpa using h2
theorem est_high (x : Nat) : 4611686018427387904 * hh x ≤ ((est x : Int) + 37) * ((4611686018427387904 ^ 37 : Nat) : Int) := by
  have h1 := e_high x 37
  have g1 := g_h x 37 (Nat.le_refl _)
  rw [show 37 - 37 = 0 from rfl, hN, Nat.mul_one] at g1
  rw [g1] at h1
  have h2 := Int.ofNat_le.2 h1
  unfold hh est
  simpa using h2
theorem est_sums (a b : Nat) (hab : a + b < 2 ^ 37) :
    4611686018427387904 * (est (a + b) : Int) ≤ ((est a : Int) + 37) * ((est b : Int) + 37) + 2738 * 4611686018427387904 ∧
    (est a : Int) * (est b : Int) ≤ 4611686018427387904 * ((est (a + b) : Int) + 37) + 2738 * 4611686018427387904 := by
  obtain ⟨s1, s2⟩ := hh_sum a b hab 37 (Nat.le_refl _)
  rw [Nat.mod_eq_of_lt (show b < 2 ^ 37 by omega)] at s1 s2
  have a1 := est_low a; have a2 := est_high a
  have b1 := est_low b; have b2 := est_high b
  have c1 := est_low (a + b); have c2 := est_high (a + b)
  have ya := hh_nonneg a
  have yb := hh_nonneg b
  have hTR : ((4611686018427387904 ^ 37 : Nat) : Int) = 4611686018427387904 * ((4611686018427387904 ^ 36 : Nat) : Int) := by
    have : (4611686018427387904 ^ 37 : Nat) = 4611686018427387904 * 4611686018427387904 ^ 36 := by rw [Nat.pow_succ, Nat.mul_comm]
    rw [this, Int.natCast_mul]; rfl
  have hT0 : (0 : Int) < ((4611686018427387904 ^ 37 : Nat) : Int) := Int.ofNat_lt.2 (Nat.pow_pos (by omega))
  have e1 : (0 : Int) ≤ (est a : Int) := by omega
  have e2 : (0 : Int) ≤ (est b : Int) := by omega
  have h37 : (74 : Int) * ((37 : Nat) : Int) = 2738 := by decide
  rw [h37] at s1 s2
  generalize ((4611686018427387904 ^ 37 : Nat) : Int) = T at *
  generalize ((4611686018427387904 ^ 36 : Nat) : Int) = R at *
  generalize hh (a + b) = C at *
  generalize hh a = A at *
  generalize hh b = B at *
  generalize (est (a + b) : Int) = c at *
  generalize (est a : Int) = x at *
  generalize (est b : Int) = y at *
  have hT0' : 0 ≤ T := by omega
  have mr : 2738 * T * R * 4611686018427387904 = 2738 * T * T := by
    rw [Int.mul_assoc (2738 * T), Int.mul_comm R, ← hTR]
  have p1 : (4611686018427387904 * A) * (4611686018427387904 * B) ≤ ((x + 37) * T) * ((y + 37) * T) := Int.mul_le_mul a2 b2 (Int.mul_nonneg (by omega) yb) (Int.mul_nonneg (by omega) hT0')
  have p2 : (x * T) * (y * T) ≤ (4611686018427387904 * A) * (4611686018427387904 * B) := Int.mul_le_mul a1 b1 (Int.mul_nonneg e2 hT0') (Int.mul_nonneg (by omega) ya)
  have q1 : ((x + 37) * T) * ((y + 37) * T) = (x + 37) * (y + 37) * (T * T) := by
    rw [Int.mul_assoc, Int.mul_left_comm T, ← Int.mul_assoc (x + 37)]
  have q2 : (x * T) * (y * T) = x * y * (T * T) := by rw [Int.mul_assoc, Int.mul_left_comm T, ← Int.mul_assoc x]
  have q3 : (4611686018427387904 * A) * (4611686018427387904 * B) = 4611686018427387904 * (4611686018427387904 * (A * B)) := by
    rw [Int.mul_assoc, Int.mul_left_comm A]
  rw [q1, q3] at p1
  rw [q2, q3] at p2
  have hTT : 0 < T * T := Int.mul_pos hT0 hT0
  constructor
  · have r1 : (c * T) * T ≤ (4611686018427387904 * C) * T := Int.mul_le_mul_of_nonneg_right c1 hT0'
    have goal : 4611686018427387904 * c * (T * T) ≤ ((x + 37) * (y + 37) + 2738 * 4611686018427387904) * (T * T) := by
      have t1 : 4611686018427387904 * c * (T * T) = 4611686018427387904 * ((c * T) * T) := by rw [Int.mul_assoc, Int.mul_assoc c]
      have t2 : (4611686018427387904 * C) * T = 4611686018427387904 * (C * T) := Int.mul_assoc _ _ _
      have t3 : ((x + 37) * (y + 37) + 2738 * 4611686018427387904) * (T * T) = (x + 37) * (y + 37) * (T * T) + 2738 * T * T * 4611686018427387904 := by
        rw [Int.add_mul, Int.mul_assoc 2738 4611686018427387904, Int.mul_comm 4611686018427387904 (T * T), ← Int.mul_assoc 2738, ← Int.mul_assoc 2738]
      rw [t1, t3]
      rw [t2] at r1
      rw [← mr]
      generalize (c * T) * T = k1 at *
      generalize C * T = k2 at *
      generalize A * B = k3 at *
      generalize (x + 37) * (y + 37) * (T * T) = k4 at *
      generalize 2738 * T * R = k5 at *
      omega
    exact Int.le_of_mul_le_mul_right goal hTT
  · have r1 : (4611686018427387904 * C) * T ≤ ((c + 37) * T) * T := Int.mul_le_mul_of_nonneg_right c2 hT0'
    have goal : x * y * (T * T) ≤ (4611686018427387904 * (c + 37) + 2738 * 4611686018427387904) * (T * T) := by
      have t2 : (4611686018427387904 * C) * T = 4611686018427387904 * (C * T) := Int.mul_assoc _ _ _
      have t3 : (4611686018427387904 * (c + 37) + 2738 * 4611686018427387904) * (T * T) = 4611686018427387904 * (((c + 37) * T) * T) + 2738 * T * T * 4611686018427387904 := by
        rw [Int.add_mul, Int.mul_assoc 2738 4611686018427387904, Int.mul_comm 4611686018427387904 (T * T), ← Int.mul_assoc 2738, ← Int.mul_assoc 2738, Int.mul_assoc 4611686018427387904 (c + 37), Int.mul_assoc (c + 37) T T]
      rw [t3, ← mr]
      rw [t2] at r1
      generalize ((c + 37) * T) * T = k1 at *
      generalize C * T = k2 at *
      generalize A * B = k3 at *
      generalize x * y * (T * T) = k4 at *
      generalize 2738 * T * R = k5 at *
      omega
    exact Int.le_of_mul_le_mul_right goal hTT
theorem ofx_sums (a b : Nat) (hab : a + b < 137438953472) : ofx (a + b) ≤ ofx a * ofx b / 4294967296 + 256 ∧ ofx a * ofx b / 4294967296 ≤ ofx (a + b) + 256 := by
  obtain ⟨s1, s2⟩ := est_sums a b (by omega)
  rw [ofx_in _ hab, ofx_in a (by omega), ofx_in b (by omega)]
  have la : est a ≤ 4611686018427387904 := eN_le a 37
  have lb : est b ≤ 4611686018427387904 := eN_le b 37
  generalize est (a + b) = c at *
  generalize est a = x at *
  generalize est b = y at *
  have hx : (x : Int) = (x / 1073741824 : Nat) * 1073741824 + (x % 1073741824 : Nat) := by omega
  have hy : (y : Int) = (y / 1073741824 : Nat) * 1073741824 + (y % 1073741824 : Nat) := by omega
  have bx : x / 1073741824 ≤ 4294967296 := by omega
  have by' : y / 1073741824 ≤ 4294967296 := by omega
  have rx : x % 1073741824 < 1073741824 := Nat.mod_lt _ (by omega)
  have ry : y % 1073741824 < 1073741824 := Nat.mod_lt _ (by omega)
  generalize x / 1073741824 = X at *
  generalize y / 1073741824 = Y at *
  generalize x % 1073741824 = u at *
  generalize y % 1073741824 = v at *
  have m1 : X * v ≤ 4294967296 * 1073741824 := Nat.mul_le_mul bx (by omega)
  have m2 : Y * u ≤ 4294967296 * 1073741824 := Nat.mul_le_mul by' (by omega)
  have m3 : u * v ≤ 1073741824 * 1073741824 := Nat.mul_le_mul (by omega) (by omega)
  have e : (x : Int) * (y : Int) = (X * Y : Nat) * 1152921504606846976 + (X * v : Nat) * 1073741824 + (Y * u : Nat) * 1073741824 + (u * v : Nat) := by
    rw [hx, hy, Int.add_mul, Int.mul_add, Int.mul_add]
    simp only [Int.natCast_mul]
    have t1 : (X : Int) * 1073741824 * ((Y : Int) * 1073741824) = (X : Int) * (Y : Int) * 1152921504606846976 := by
      rw [Int.mul_assoc, Int.mul_left_comm 1073741824, ← Int.mul_assoc (X : Int)]; rfl
    have t2 : (X : Int) * 1073741824 * (v : Int) = (X : Int) * (v : Int) * 1073741824 := by rw [Int.mul_assoc, Int.mul_comm 1073741824, ← Int.mul_assoc]
    have t3 : (u : Int) * ((Y : Int) * 1073741824) = (Y : Int) * (u : Int) * 1073741824 := by rw [← Int.mul_assoc, Int.mul_comm (u : Int)]
    rw [t1, t2, t3]
    omega
  have e2 : ((x : Int) + 37) * ((y : Int) + 37) = (x : Int) * (y : Int) + 37 * (x : Int) + 37 * (y : Int) + 1369 := by
    rw [Int.add_mul, Int.mul_add, Int.mul_add]; omega
  rw [e2] at s1
  rw [e] at s1 s2
  generalize X * Y = Z at *
  generalize X * v = k1 at *
  generalize Y * u = k2 at *
  generalize u * v = k3 at *
  constructor <;> omega
end Go.Proofs.Tryd
