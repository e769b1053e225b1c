/- ExpoNear, in theory: the row of e to the minus x in rationals: T (-x) 24; products (tri: the binomial theorem by divided powers); five squares; the table; what the bounds are. -/
import Derived.Test.YtighjibggjjieaaDoorExpo
namespace Go.Proofs.Tryd.Near
open Go.Proofs.Tryd
set_option linter.unusedVariables false
/-- sums -/
def sm (f : Nat → Rat) : Nat → Rat
  | 0 => f 0
  | n + 1 => sm f n + f (n + 1)
theorem sm_shift (f : Nat → Rat) : ∀ n, sm f (n + 1) = f 0 + sm (fun i => f (i + 1)) n
  | 0 => rfl
  | n + 1 => by
    show sm f (n + 1) + f (n + 2) = f 0 + (sm (fun i => f (i + 1)) n + f (n + 2))
    rw [sm_shift f n]
    grind
theorem sm_congr (f g : Nat → Rat) : ∀ n, (∀ i, i ≤ n → f i = g i) → sm f n = sm g n
  | 0, h => h 0 (Nat.le_refl _)
  | n + 1, h => by
    rw [sm, sm, sm_congr f g n (fun i hi => h i (by omega)), h (n + 1) (Nat.le_refl _)]
theorem sm_add (f g : Nat → Rat) : ∀ n, sm f n + sm g n = sm (fun i => f i + g i) n
  | 0 => rfl
  | n + 1 => by
    have := sm_add f g n
    simp only [sm]
    grind
theorem sm_mul (c : Rat) (f : Nat → Rat) : ∀ n, c * sm f n = sm (fun i => c * f i) n
  | 0 => rfl
  | n + 1 => by
    have := sm_mul c f n
    simp only [sm]
    grind
def te (a : Rat) : Nat → Rat
  | 0 => 1
  | n + 1 => te a n * a / ((n + 1 : Nat) : Rat)
theorem ne0 (n : Nat) : ((n + 1 : Nat) : Rat) ≠ 0 := by
  intro h
  have : ((n + 1 : Nat) : Rat) = ((0 : Nat) : Rat) := h
  have := Rat.natCast_inj.1 this
  omega
theorem te_succ (a : Rat) (n : Nat) : ((n + 1 : Nat) : Rat) * te a (n + 1) = a * te a n := by
  have h := ne0 n
  rw [te]
  grind
def T (a : Rat) (n : Nat) : Rat := sm (te a) n
def dd (a b : Rat) (m : Nat) : Rat := sm (fun i => te a i * te b (m - i)) m
theorem dd_rec (a b : Rat) (m : Nat) : ((m + 1 : Nat) : Rat) * dd a b (m + 1) = (a + b) * dd a b m := by
  have e1 : sm (fun i => ((i : Nat) : Rat) * (te a i * te b (m + 1 - i))) (m + 1) = a * dd a b m := by
    rw [sm_shift, dd, sm_mul]
    have : sm (fun i => (((i + 1 : Nat)) : Rat) * (te a (i + 1) * te b (m + 1 - (i + 1)))) m = sm (fun i => a * (te a i * te b (m - i))) m := by
      apply sm_congr
      intro i hi
      rw [show m + 1 - (i + 1) = m - i by omega]
      have := te_succ a i
      grind
    rw [this]
    simp
    grind
  have e2 : sm (fun i => ((m + 1 - i : Nat) : Rat) * (te a i * te b (m + 1 - i))) (m + 1) = b * dd a b m := by
    rw [sm, dd, sm_mul]
    have : sm (fun i => ((m + 1 - i : Nat) : Rat) * (te a i * te b (m + 1 - i))) m = sm (fun i => b * (te a i * te b (m - i))) m := by
      apply sm_congr
      intro i hi
      rw [show m + 1 - i = (m - i) + 1 by omega]
      have := te_succ b (m - i)
      grind
    rw [this, Nat.sub_self]
    simp
    grind
  have e3 : ((m + 1 : Nat) : Rat) * dd a b (m + 1) = sm (fun i => ((i : Nat) : Rat) * (te a i * te b (m + 1 - i))) (m + 1) + sm (fun i => ((m + 1 - i : Nat) : Rat) * (te a i * te b (m + 1 - i))) (m + 1) := by
    rw [sm_add, dd, sm_mul]
    apply sm_congr
    intro i hi
    have : ((m + 1 : Nat) : Rat) = ((i : Nat) : Rat) + ((m + 1 - i : Nat) : Rat) := by
      rw [← Rat.natCast_add]
      congr 1
      omega
    rw [this]
    grind
  rw [e3, e1, e2]
  grind
theorem dd_eq (a b : Rat) : ∀ m, dd a b m = te (a + b) m
  | 0 => by simp [dd, sm, te]
  | m + 1 => by
    have h1 := dd_rec a b m
    rw [dd_eq a b m, ← te_succ] at h1
    have h := ne0 m
    grind
theorem tri (a b : Rat) : ∀ N, sm (fun i => te a i * T b (N - i)) N = T (a + b) N
  | 0 => by simp [T, sm, te]
  | N + 1 => by
    rw [T, sm]
    show _ = T (a + b) N + te (a + b) (N + 1)
    rw [← tri a b N, ← dd_eq, dd, sm, ← Rat.add_assoc, sm_add]
    congr 1
    · apply sm_congr
      intro i hi
      rw [show N + 1 - i = (N - i) + 1 by omega, T, sm]
      show te a i * (T b (N - i) + te b (N - i + 1)) = _
      grind
    · simp [T, sm]
def Ab (z c : Rat) : Prop := -c ≤ z ∧ z ≤ c
theorem Ab.nn {z c : Rat} (h : Ab z c) : 0 ≤ c := by unfold Ab at h; grind
theorem mul_nn {a b : Rat} (ha : 0 ≤ a) (hb : 0 ≤ b) : 0 ≤ a * b := Rat.mul_nonneg ha hb
theorem Ab.mul {z c w d : Rat} (h : Ab z c) (g : Ab w d) : Ab (z * w) (c * d) := by
  unfold Ab at *
  have h1 := mul_nn (a := c - z) (b := d + w) (by grind) (by grind)
  have h2 := mul_nn (a := c + z) (b := d - w) (by grind) (by grind)
  have h3 := mul_nn (a := c - z) (b := d - w) (by grind) (by grind)
  have h4 := mul_nn (a := c + z) (b := d + w) (by grind) (by grind)
  grind
theorem Ab.add {z c w d : Rat} (h : Ab z c) (g : Ab w d) : Ab (z + w) (c + d) := by unfold Ab at *; grind
theorem Ab.mono {z c d : Rat} (h : Ab z c) (g : c ≤ d) : Ab z d := by unfold Ab at *; grind
theorem Ab.zero {c : Rat} (h : 0 ≤ c) : Ab 0 c := by unfold Ab; grind
theorem pos1 (n : Nat) : (0 : Rat) < ((n + 1 : Nat) : Rat) := by
  have := Rat.natCast_lt_natCast.2 (show 0 < n + 1 by omega)
  exact this
theorem Ab.div {z c : Rat} (h : Ab z c) (n : Nat) : Ab (z / ((n + 1 : Nat) : Rat)) (c / ((n + 1 : Nat) : Rat)) := by
  have hp := pos1 n
  have hi : (0 : Rat) ≤ (((n + 1 : Nat) : Rat))⁻¹ := Rat.le_of_lt (Rat.inv_pos.2 hp)
  have : Ab (((n + 1 : Nat) : Rat))⁻¹ (((n + 1 : Nat) : Rat))⁻¹ := by unfold Ab; grind
  have := h.mul this
  rw [Rat.div_def, Rat.div_def]
  exact this
theorem te_ab {a : Rat} (h : Ab a 1) : ∀ n, Ab (te a n) (te 1 n)
  | 0 => by unfold Ab te; grind
  | n + 1 => by
    rw [te, te]
    exact ((te_ab h n).mul h).div n
theorem T_ab {b : Rat} (h : Ab b 1) (k : Nat) : ∀ j, Ab (T b (k + j) - T b k) (T 1 (k + j) - T 1 k)
  | 0 => by unfold Ab; grind
  | j + 1 => by
    have h1 := T_ab h k j
    have h2 := (te_ab h (k + j + 1))
    have e1 : T b (k + (j + 1)) = T b (k + j) + te b (k + j + 1) := rfl
    have e2 : T 1 (k + (j + 1)) = T 1 (k + j) + te 1 (k + j + 1) := rfl
    rw [e1, e2]
    unfold Ab at *
    grind
theorem sm_ab (f g : Nat → Rat) : ∀ n, (∀ i, i ≤ n → Ab (f i) (g i)) → Ab (sm f n) (sm g n)
  | 0, h => h 0 (Nat.le_refl _)
  | n + 1, h => by
    rw [sm, sm]
    exact (sm_ab f g n (fun i hi => h i (by omega))).add (h (n + 1) (Nat.le_refl _))
def rho (N : Nat) : Rat := sm (fun i => te 1 i * (T 1 N - T 1 (N - i))) N
theorem sq_ab {a b : Rat} (ha : Ab a 1) (hb : Ab b 1) (N : Nat) : Ab (T a N * T b N - T (a + b) N) (rho N) := by
  have e : T a N * T b N - T (a + b) N = sm (fun i => te a i * (T b N - T b (N - i))) N := by
    rw [← tri a b N]
    have e1 : T a N * T b N = sm (fun i => T b N * te a i) N := by
      rw [← sm_mul, Rat.mul_comm]; rfl
    have e2 := sm_add (fun i => te a i * (T b N - T b (N - i))) (fun i => te a i * T b (N - i)) N
    have e3 : sm (fun i => te a i * (T b N - T b (N - i)) + te a i * T b (N - i)) N = sm (fun i => T b N * te a i) N := by
      apply sm_congr
      intro i hi
      grind
    grind
  rw [e]
  apply sm_ab
  intro i hi
  have := T_ab hb (N - i) i
  rw [show N - i + i = N by omega] at this
  exact (te_ab ha i).mul this
theorem rho24 : rho 24 ≤ 1 / 144115188075855872 := by decide +kernel
theorem sq_lip {z w c : Rat} (hz : Ab z 1) (hw : Ab w 1) (h : Ab (z - w) c) : Ab (z * z - w * w) (2 * c) := by
  have := (hz.add hw).mul h
  have e : z * z - w * w = (z + w) * (z - w) := by grind
  rw [e]
  have e2 : (1 + 1) * c = 2 * c := by grind
  rw [e2] at this
  exact this
theorem ab_one {z : Rat} (h : Ab z 1) : Ab (z * z) 1 := by
  have := h.mul h
  have e : (1 : Rat) * 1 = 1 := by grind
  rwa [e] at this
def sqn : Nat → Rat → Rat
  | 0, z => z
  | n + 1, z => sqn n z * sqn n z
theorem sqn_one {z : Rat} (h : Ab z 1) : ∀ n, Ab (sqn n z) 1
  | 0 => h
  | n + 1 => ab_one (sqn_one h n)
theorem sqn_mul (z w : Rat) : ∀ n, sqn n (z * w) = sqn n z * sqn n w
  | 0 => rfl
  | n + 1 => by
    rw [sqn, sqn, sqn, sqn_mul z w n]
    grind
theorem sqn_lip {z w c : Rat} (hz : Ab z 1) (hw : Ab w 1) (h : Ab (z - w) c) : ∀ n, Ab (sqn n z - sqn n w) (((2 ^ n : Nat) : Rat) * c)
  | 0 => by
    have : ((2 ^ 0 : Nat) : Rat) * c = c := by simp
    rw [this]; exact h
  | n + 1 => by
    have := sq_lip (sqn_one hz n) (sqn_one hw n) (sqn_lip hz hw h n)
    have e : ((2 ^ (n + 1) : Nat) : Rat) * c = 2 * (((2 ^ n : Nat) : Rat) * c) := by
      rw [Nat.pow_succ, Rat.natCast_mul]
      grind
    rw [e]
    exact this
theorem te_nn {x : Rat} (h0 : 0 ≤ x) : ∀ n, 0 ≤ te x n
  | 0 => by unfold te; grind
  | n + 1 => by
    have h1 := mul_nn (te_nn h0 n) h0
    have hi : (0 : Rat) ≤ (((n + 1 : Nat) : Rat))⁻¹ := Rat.le_of_lt (Rat.inv_pos.2 (pos1 n))
    have := mul_nn h1 hi
    rw [te, Rat.div_def]
    exact this
theorem te_dec {x : Rat} (h0 : 0 ≤ x) (h1 : x ≤ 1) (n : Nat) : te x (n + 1) ≤ te x n := by
  have hs := te_succ x n
  have hn := te_nn h0 n
  have hn1 := te_nn h0 (n + 1)
  have a1 := mul_nn hn (show 0 ≤ 1 - x by grind)
  have e : ((n + 1 : Nat) : Rat) = (n : Rat) + 1 := by rw [Rat.natCast_add]; rfl
  have hp : (0 : Rat) ≤ (n : Rat) := by
    have := Rat.natCast_le_natCast.2 (show 0 ≤ n by omega)
    exact this
  have a2 := mul_nn hp hn1
  rw [e] at hs
  grind
theorem te_neg (x : Rat) : ∀ k, te (-x) (2 * k) = te x (2 * k) ∧ te (-x) (2 * k + 1) = - te x (2 * k + 1)
  | 0 => by simp [te, Rat.div_def]; grind
  | k + 1 => by
    obtain ⟨h1, h2⟩ := te_neg x k
    have e : te (-x) (2 * (k + 1)) = te x (2 * (k + 1)) := by
      rw [show 2 * (k + 1) = 2 * k + 1 + 1 by omega]
      have u1 : te (-x) (2 * k + 1 + 1) = te (-x) (2 * k + 1) * -x / ((2 * k + 1 + 1 : Nat) : Rat) := rfl
      have u2 : te x (2 * k + 1 + 1) = te x (2 * k + 1) * x / ((2 * k + 1 + 1 : Nat) : Rat) := rfl
      rw [u1, u2, h2]
      congr 1
      grind
    refine ⟨e, ?_⟩
    have u1 : te (-x) (2 * (k + 1) + 1) = te (-x) (2 * (k + 1)) * -x / ((2 * (k + 1) + 1 : Nat) : Rat) := rfl
    have u2 : te x (2 * (k + 1) + 1) = te x (2 * (k + 1)) * x / ((2 * (k + 1) + 1 : Nat) : Rat) := rfl
    rw [u1, u2, e, Rat.div_def, Rat.div_def]
    grind
theorem T_odd (x : Rat) (k : Nat) : T (-x) (2 * k + 1) = T (-x) (2 * k) - te x (2 * k + 1) := by
  show T (-x) (2 * k) + te (-x) (2 * k + 1) = _
  rw [(te_neg x k).2]
  grind
theorem T_even (x : Rat) (k : Nat) : T (-x) (2 * k + 2) = T (-x) (2 * k + 1) + te x (2 * k + 2) := by
  show T (-x) (2 * k + 1) + te (-x) (2 * k + 1 + 1) = _
  rw [show 2 * k + 1 + 1 = 2 * (k + 1) by omega, (te_neg x (k + 1)).1]
theorem T_alt {x : Rat} (h0 : 0 ≤ x) (h1 : x ≤ 1) : ∀ k, te x (2 * k) ≤ T (-x) (2 * k) ∧ T (-x) (2 * k) ≤ 1
  | 0 => by simp [T, sm, te]
  | k + 1 => by
    obtain ⟨i1, i2⟩ := T_alt h0 h1 k
    have o := T_odd x k
    have e := T_even x k
    have d1 := te_dec h0 h1 (2 * k)
    have d2 := te_dec h0 h1 (2 * k + 1)
    rw [show 2 * (k + 1) = 2 * k + 2 by omega]
    have d2' : te x (2 * k + 2) ≤ te x (2 * k + 1) := d2
    grind
theorem T_in {x : Rat} (h0 : 0 ≤ x) (h1 : x ≤ 1) (n : Nat) : 0 ≤ T (-x) n ∧ T (-x) n ≤ 1 := by
  rcases Nat.mod_two_eq_zero_or_one n with h | h
  · obtain ⟨i1, i2⟩ := T_alt h0 h1 (n / 2)
    have := te_nn h0 (2 * (n / 2))
    rw [show 2 * (n / 2) = n by omega] at i1 i2 this
    grind
  · obtain ⟨i1, i2⟩ := T_alt h0 h1 (n / 2)
    have o := T_odd x (n / 2)
    have d1 := te_dec h0 h1 (2 * (n / 2))
    have := te_nn h0 (2 * (n / 2) + 1)
    rw [show 2 * (n / 2) + 1 = n by omega] at o d1 this
    grind
/-- e to the minus Y / 2^32, nearly. -/
def Fq (Y : Nat) : Rat := sqn 5 (T (-((Y : Rat) / 137438953472)) 24)
theorem nat_nn (n : Nat) : (0 : Rat) ≤ (n : Rat) := Rat.natCast_le_natCast.2 (show 0 ≤ n by omega)
theorem frac_in (Y : Nat) (h : Y ≤ 137438953472) : (0 : Rat) ≤ (Y : Rat) / 137438953472 ∧ (Y : Rat) / 137438953472 ≤ 1 := by
  have h1 := nat_nn Y
  have h2 : (Y : Rat) ≤ ((137438953472 : Nat) : Rat) := Rat.natCast_le_natCast.2 h
  have h3 : ((137438953472 : Nat) : Rat) = 137438953472 := rfl
  grind
theorem Fq_in (Y : Nat) (h : Y ≤ 137438953472) : 0 ≤ Fq Y ∧ Fq Y ≤ 1 := by
  obtain ⟨a, b⟩ := frac_in Y h
  have t := T_in a b 24
  have : Ab (T (-((Y : Rat) / 137438953472)) 24) 1 := by unfold Ab; grind
  refine ⟨?_, (sqn_one this 5).2⟩
  have nn : ∀ n, 0 ≤ sqn n (T (-((Y : Rat) / 137438953472)) 24) := by
    intro n
    induction n with
    | zero => exact t.1
    | succ n ih => exact mul_nn ih ih
  exact nn 5
theorem Fq_mul (X Y : Nat) (h : X + Y ≤ 137438953472) : Ab (Fq X * Fq Y - Fq (X + Y)) (32 / 144115188075855872) := by
  obtain ⟨a, b⟩ := frac_in X (by omega)
  obtain ⟨c, d⟩ := frac_in Y (by omega)
  obtain ⟨e, f⟩ := frac_in (X + Y) h
  have t1 := T_in a b 24
  have t2 := T_in c d 24
  have t3 := T_in e f 24
  unfold Fq
  rw [← sqn_mul]
  have hx : -((X : Rat) / 137438953472) + -((Y : Rat) / 137438953472) = -(((X + Y : Nat) : Rat) / 137438953472) := by
    rw [Rat.natCast_add]
    grind
  have q := sq_ab (a := -((X : Rat) / 137438953472)) (b := -((Y : Rat) / 137438953472)) (by unfold Ab; grind) (by unfold Ab; grind) 24
  rw [hx] at q
  have q := q.mono rho24
  have l := sqn_lip (z := T (-((X : Rat) / 137438953472)) 24 * T (-((Y : Rat) / 137438953472)) 24) (w := T (-(((X + Y : Nat) : Rat) / 137438953472)) 24) (by
      have := Ab.mul (z := T (-((X : Rat) / 137438953472)) 24) (c := 1) (w := T (-((Y : Rat) / 137438953472)) 24) (d := 1) (by unfold Ab; grind) (by unfold Ab; grind)
      exact this.mono (by grind)) (by unfold Ab; grind) q 5
  refine l.mono ?_
  have : ((2 ^ 5 : Nat) : Rat) = 32 := rfl
  rw [this]
  grind
theorem tab_ok : ∀ k, k < 37 → ((-2 : Rat) ≤ (pk k : Rat) - 4611686018427387904 * Fq (2 ^ k) ∧ (pk k : Rat) - 4611686018427387904 * Fq (2 ^ k) ≤ 2) := by decide +kernel
def pre (x i : Nat) : Nat := x / 2 ^ (37 - i) * 2 ^ (37 - i)
theorem pre_succ (x i : Nat) (hi : i < 37) : pre x (i + 1) = pre x i + (if x.testBit (36 - i) then 2 ^ (36 - i) else 0) := by
  unfold pre
  obtain ⟨P, hP⟩ : ∃ P, 36 - i = P := ⟨_, rfl⟩
  rw [show 37 - (i + 1) = P by omega, show 37 - i = P + 1 by omega, hP, Nat.testBit_eq_decide_div_mod_eq]
  have h1 : x / 2 ^ (P + 1) = x / 2 ^ P / 2 := by rw [Nat.pow_succ, Nat.div_div_eq_div_mul]
  rw [h1, Nat.pow_succ]
  obtain ⟨A, hA⟩ : ∃ A, 2 ^ P = A := ⟨_, rfl⟩
  obtain ⟨q, hq⟩ : ∃ q, x / A = q := ⟨_, rfl⟩
  rw [hA, hq]
  rcases Nat.mod_two_eq_zero_or_one q with h | h
  · rw [h]
    have : q = q / 2 * 2 := by omega
    simp
    have e : q * A = q / 2 * 2 * A := by rw [← this]
    rw [e, Nat.mul_assoc, Nat.mul_comm 2 A]
  · rw [h]
    have : q = q / 2 * 2 + 1 := by omega
    simp
    have e : q * A = (q / 2 * 2 + 1) * A := by rw [← this]
    rw [e, Nat.add_mul, Nat.mul_assoc, Nat.mul_comm 2 A, Nat.one_mul]
theorem pre_le (x i : Nat) : pre x i ≤ x := Nat.div_mul_le_self _ _
theorem div_in (m d : Nat) (hd : 0 < d) : ((m / d : Nat) : Rat) * (d : Rat) ≤ (m : Rat) ∧ (m : Rat) ≤ ((m / d : Nat) : Rat) * (d : Rat) + (d : Rat) := by
  have h1 := Nat.div_mul_le_self m d
  have h2 : m ≤ m / d * d + d := by
    have a := Nat.mod_lt m hd
    have b := Nat.div_add_mod m d
    rw [Nat.mul_comm] at b
    omega
  constructor
  · have := Rat.natCast_le_natCast.2 h1
    rwa [Rat.natCast_mul] at this
  · have := Rat.natCast_le_natCast.2 h2
    rwa [Rat.natCast_add, Rat.natCast_mul] at this
theorem step_near (n p q : Nat) (f g h c : Rat) (hq : n * p / 4611686018427387904 = q) (hp : p ≤ 4611686018427387904)
    (h1 : Ab ((n : Rat) - 4611686018427387904 * f) c) (h2 : (-2 : Rat) ≤ (p : Rat) - 4611686018427387904 * g ∧ (p : Rat) - 4611686018427387904 * g ≤ 2)
    (h3 : 0 ≤ f ∧ f ≤ 1) (h4 : Ab (f * g - h) (32 / 144115188075855872)) : Ab ((q : Rat) - 4611686018427387904 * h) (c + 1100) := by
  obtain ⟨d1, d2⟩ := div_in (n * p) 4611686018427387904 (by omega)
  rw [hq, Rat.natCast_mul] at d1 d2
  have hM : ((4611686018427387904 : Nat) : Rat) = 4611686018427387904 := rfl
  rw [hM] at d1 d2
  have p0 := nat_nn p
  have p1 : (p : Rat) ≤ 4611686018427387904 := by
    have := Rat.natCast_le_natCast.2 hp
    rwa [hM] at this
  have a1 := Ab.mul (z := (p : Rat)) (c := 4611686018427387904) (by unfold Ab; grind) h1
  have a2 := Ab.mul (z := f) (c := 1) (w := (p : Rat) - 4611686018427387904 * g) (d := 2) (by unfold Ab; grind) (by unfold Ab; grind)
  unfold Ab at *
  have e1 : (p : Rat) * ((n : Rat) - 4611686018427387904 * f) = (n : Rat) * (p : Rat) - 4611686018427387904 * (f * (p : Rat)) := by grind
  have e2 : f * ((p : Rat) - 4611686018427387904 * g) = f * (p : Rat) - 4611686018427387904 * (f * g) := by grind
  rw [e1] at a1
  rw [e2] at a2
  generalize (n : Rat) * (p : Rat) = np at *
  generalize f * (p : Rat) = fp at *
  generalize f * g = fg at *
  grind
theorem e_near (x : Nat) (hx : x < 137438953472) : ∀ i, i ≤ 37 → Ab ((eN x i : Rat) - 4611686018427387904 * Fq (pre x i)) (1100 * (i : Rat))
  | 0, _ => by
    have e : pre x 0 = 0 := by
      unfold pre
      rw [Nat.div_eq_of_lt (show x < 2 ^ (37 - 0) by simpa using hx), Nat.zero_mul]
    rw [e]
    have : Fq 0 = 1 := by decide +kernel
    rw [this]
    unfold eN Ab
    have h0 : ((0 : Nat) : Rat) = 0 := rfl
    have h1 : ((4611686018427387904 : Nat) : Rat) = 4611686018427387904 := rfl
    rw [h0, h1]
    grind
  | i + 1, hi => by
    have ih := e_near x hx i (by omega)
    have ps := pre_succ x i (by omega)
    have pl := pre_le x i
    have pl2 := pre_le x (i + 1)
    have e : 1100 * ((i + 1 : Nat) : Rat) = 1100 * (i : Rat) + 1100 := by
      rw [Rat.natCast_add]
      have : ((1 : Nat) : Rat) = 1 := rfl
      rw [this]
      grind
    rw [e]
    by_cases hb : x.testBit (36 - i) = true
    · rw [if_pos hb] at ps
      rw [ps]
      refine step_near (eN x i) (pk (36 - i)) _ (Fq (pre x i)) (Fq (2 ^ (36 - i))) _ _ ?_ (pk_le _) ih (tab_ok _ (by omega)) (Fq_in _ (by omega)) (Fq_mul _ _ (by omega))
      rw [eN, if_pos hb]
    · rw [if_neg hb, Nat.add_zero] at ps
      rw [ps, eN, if_neg hb]
      refine ih.mono ?_
      grind
theorem est_near (x : Nat) (hx : x < 137438953472) : Ab ((eN x 37 : Rat) - 4611686018427387904 * Fq x) 40700 := by
  have h := e_near x hx 37 (Nat.le_refl _)
  have e : pre x 37 = x := by unfold pre; simp
  rw [e] at h
  refine h.mono ?_
  have : ((37 : Nat) : Rat) = 37 := rfl
  rw [this]
  grind
def tmD (a b : Nat) : Nat := a * b / 4611686018427387904
def tmU (a b : Nat) : Nat := a * b / 4611686018427387904 + (if 0 < a * b % 4611686018427387904 then 1 else 0)
def laN (t : Nat) : Nat → Nat
  | 0 => 4611686018427387904
  | n + 1 => tmU (laN t n) t / (n + 1) + 1
def fiN (t : Nat) : Nat → Nat
  | 0 => 4611686018427387904
  | n + 1 => tmD (fiN t n) t / (n + 1)
def lowN (t : Nat) : Nat → Nat
  | 0 => 4611686018427387904
  | n + 1 => if (n + 1) % 2 = 1 then lowN t n - laN t (n + 1) else lowN t n + fiN t (n + 1)
def higN (t : Nat) : Nat → Nat
  | 0 => 4611686018427387904
  | n + 1 => if (n + 1) % 2 = 1 then higN t n - fiN t (n + 1) else higN t n + laN t (n + 1)
theorem tmU_le (a b : Nat) : tmU a b ≤ tmD a b + 1 := by unfold tmU tmD; split <;> omega
theorem tmD_leU (a b : Nat) : tmD a b ≤ tmU a b := by unfold tmU tmD; omega
theorem tmU_ge (a b : Nat) : a * b ≤ tmU a b * 4611686018427387904 := by unfold tmU; split <;> omega
theorem tmU_small (a b : Nat) (hb : b ≤ 4611686018427387904) : tmU a b ≤ a := by
  have h := Nat.mul_le_mul_left a hb
  unfold tmU
  generalize a * b = z at *
  split <;> omega
theorem div_add_le (z w d : Nat) (hd : 0 < d) : (z + w) / d ≤ z / d + w / d + 1 := by
  have h1 := Nat.div_add_mod z d
  have h2 := Nat.div_add_mod w d
  have m1 := Nat.mod_lt z hd
  have m2 := Nat.mod_lt w hd
  have : (z + w) / d < z / d + w / d + 2 := by
    rw [Nat.div_lt_iff_lt_mul hd, Nat.add_mul, Nat.add_mul, Nat.mul_comm (z / d), Nat.mul_comm (w / d)]
    omega
  omega
theorem gap (t : Nat) (ht : t ≤ 4611686018427387904) : ∀ n, laN t n ≤ fiN t n + 5 ∧ (n = 0 → laN t n = fiN t n)
  | 0 => ⟨by unfold laN fiN; omega, fun _ => rfl⟩
  | n + 1 => by
    obtain ⟨h1, h2⟩ := gap t ht n
    refine ⟨?_, by omega⟩
    rw [laN, fiN]
    have key : ∀ g, laN t n ≤ fiN t n + g → tmU (laN t n) t ≤ tmD (fiN t n) t + (g + 2) := by
      intro g hg
      have a1 := tmU_le (laN t n) t
      have a2 : tmD (laN t n) t ≤ tmD (fiN t n) t + g + 1 := by
        unfold tmD
        have b1 := Nat.mul_le_mul_right t hg
        have b2 := Nat.mul_le_mul_left g ht
        rw [Nat.add_mul] at b1
        generalize laN t n * t = u at *
        generalize fiN t n * t = v at *
        generalize g * t = y at *
        omega
      omega
    by_cases hn : n = 0
    · have k := key 0 (by rw [h2 hn]; omega)
      subst hn
      simp
      omega
    · have k : tmU (laN t n) t ≤ tmD (fiN t n) t + 7 := key 5 h1
      have d1 := Nat.div_le_div_right (c := n + 1) k
      have d2 := div_add_le (tmD (fiN t n) t) 7 (n + 1) (by omega)
      have d3 : 7 / (n + 1) ≤ 7 / 2 := Nat.div_le_div_left (by omega) (by omega)
      omega
def Lb : Nat → Nat
  | 0 => 4611686018427387904
  | n + 1 => Lb n / (n + 1) + 1
theorem la_Lb (t : Nat) (ht : t ≤ 4611686018427387904) : ∀ n, laN t n ≤ Lb n
  | 0 => Nat.le_refl _
  | n + 1 => by
    rw [laN, Lb]
    have h1 := tmU_small (laN t n) t ht
    have h2 := la_Lb t ht n
    have := Nat.div_le_div_right (c := n + 1) (Nat.le_trans h1 h2)
    omega
theorem Lb24 : Lb 24 ≤ 2 := by decide +kernel
theorem Lb_le : ∀ n, n ≤ 24 → Lb n ≤ 4611686018427387905 := by decide +kernel
theorem wid (t : Nat) (ht : t ≤ 4611686018427387904) : ∀ n, higN t n ≤ lowN t n + 5 * n
  | 0 => Nat.le_refl _
  | n + 1 => by
    have h := wid t ht n
    have g := (gap t ht (n + 1)).1
    rw [higN, lowN]
    split <;> omega
theorem cancel {c z : Rat} (hc : 0 < c) (h : 0 ≤ c * z) : 0 ≤ z := by
  have hi : (0 : Rat) ≤ c⁻¹ := Rat.le_of_lt (Rat.inv_pos.2 hc)
  have := mul_nn hi h
  have e : c⁻¹ * (c * z) = z := by
    have : c ≠ 0 := by grind
    grind
  rwa [e] at this
theorem castM : ((4611686018427387904 : Nat) : Rat) = 4611686018427387904 := rfl
theorem cast_le {a b : Nat} (h : a ≤ b) : (a : Rat) ≤ (b : Rat) := Rat.natCast_le_natCast.2 h
theorem la_te (t : Nat) (x : Rat) (h0 : 0 ≤ x) (hx : (t : Rat) = 4611686018427387904 * x) : ∀ n, 4611686018427387904 * te x n ≤ (laN t n : Rat)
  | 0 => by unfold te laN; rw [castM]; grind
  | n + 1 => by
    have ih := la_te t x h0 hx n
    have a1 := cast_le (tmU_ge (laN t n) t)
    rw [Rat.natCast_mul, Rat.natCast_mul, castM, hx] at a1
    have a2 : tmU (laN t n) t ≤ laN t (n + 1) * (n + 1) := by
      rw [laN, Nat.add_mul, Nat.one_mul]
      have b1 := Nat.div_add_mod (tmU (laN t n) t) (n + 1)
      have b2 := Nat.mod_lt (tmU (laN t n) t) (show 0 < n + 1 by omega)
      rw [Nat.mul_comm] at b1
      omega
    have a2 := cast_le a2
    rw [Rat.natCast_mul] at a2
    have hs := te_succ x n
    have a3 := mul_nn (a := (laN t n : Rat) - 4611686018427387904 * te x n) (b := x) (by grind) h0
    have : 0 ≤ ((n + 1 : Nat) : Rat) * ((laN t (n + 1) : Rat) - 4611686018427387904 * te x (n + 1)) := by
      generalize ((n + 1 : Nat) : Rat) = N at *
      generalize (laN t (n + 1) : Rat) = A at *
      generalize (tmU (laN t n) t : Rat) = U at *
      generalize (laN t n : Rat) = B at *
      have e1 : N * (A - 4611686018427387904 * te x (n + 1)) = A * N - 4611686018427387904 * (x * te x n) := by grind
      rw [e1]
      have e2 : (B - 4611686018427387904 * te x n) * x = B * x - 4611686018427387904 * (x * te x n) := by grind
      rw [e2] at a3
      have e3 : B * (4611686018427387904 * x) = 4611686018427387904 * (B * x) := by grind
      rw [e3] at a1
      grind
    have := cancel (pos1 n) this
    grind
theorem fi_te (t : Nat) (x : Rat) (h0 : 0 ≤ x) (hx : (t : Rat) = 4611686018427387904 * x) : ∀ n, (fiN t n : Rat) ≤ 4611686018427387904 * te x n
  | 0 => by unfold te fiN; rw [castM]; grind
  | n + 1 => by
    have ih := fi_te t x h0 hx n
    have a1 := cast_le (Nat.div_mul_le_self (fiN t n * t) 4611686018427387904)
    rw [Rat.natCast_mul, Rat.natCast_mul, castM, hx] at a1
    have a2 := cast_le (Nat.div_mul_le_self (tmD (fiN t n) t) (n + 1))
    rw [Rat.natCast_mul] at a2
    have hd : fiN t n * t / 4611686018427387904 = tmD (fiN t n) t := rfl
    rw [hd] at a1
    have hf : tmD (fiN t n) t / (n + 1) = fiN t (n + 1) := rfl
    rw [hf] at a2
    have hs := te_succ x n
    have a3 := mul_nn (a := 4611686018427387904 * te x n - (fiN t n : Rat)) (b := x) (by grind) h0
    have : 0 ≤ ((n + 1 : Nat) : Rat) * (4611686018427387904 * te x (n + 1) - (fiN t (n + 1) : Rat)) := by
      generalize ((n + 1 : Nat) : Rat) = N at *
      generalize (fiN t (n + 1) : Rat) = A at *
      generalize (tmD (fiN t n) t : Rat) = U at *
      generalize (fiN t n : Rat) = B at *
      have e1 : N * (4611686018427387904 * te x (n + 1) - A) = 4611686018427387904 * (x * te x n) - A * N := by grind
      rw [e1]
      have e2 : (4611686018427387904 * te x n - B) * x = 4611686018427387904 * (x * te x n) - B * x := by grind
      rw [e2] at a3
      have e3 : B * (4611686018427387904 * x) = 4611686018427387904 * (B * x) := by grind
      rw [e3] at a1
      grind
    have := cancel (pos1 n) this
    grind
theorem sub_cast (a b : Nat) : (a : Rat) - (b : Rat) ≤ ((a - b : Nat) : Rat) ∧ (((a - b : Nat) : Rat) = (a : Rat) - (b : Rat) ∨ ((a - b : Nat) : Rat) = 0) := by
  rcases Nat.le_total b a with h | h
  · have : ((a - b : Nat) : Rat) + (b : Rat) = (a : Rat) := by
      rw [← Rat.natCast_add]; congr 1; omega
    grind
  · have e : a - b = 0 := by omega
    rw [e]
    have h1 := cast_le h
    have : ((0 : Nat) : Rat) = 0 := rfl
    rw [this]
    grind
theorem lo_T (t : Nat) (x : Rat) (h0 : 0 ≤ x) (h1 : x ≤ 1) (hx : (t : Rat) = 4611686018427387904 * x) : ∀ n, (lowN t n : Rat) ≤ 4611686018427387904 * T (-x) n ∧ 4611686018427387904 * T (-x) n ≤ (higN t n : Rat)
  | 0 => by unfold lowN higN T sm te; rw [castM]; grind
  | n + 1 => by
    obtain ⟨i1, i2⟩ := lo_T t x h0 h1 hx n
    have l := la_te t x h0 hx (n + 1)
    have f := fi_te t x h0 hx (n + 1)
    have tn := T_in h0 h1 (n + 1)
    rw [lowN, higN]
    by_cases hp : (n + 1) % 2 = 1
    · rw [if_pos hp, if_pos hp]
      have o := T_odd x (n / 2)
      rw [show 2 * (n / 2) = n by omega] at o
      have s1 := sub_cast (lowN t n) (laN t (n + 1))
      have s2 := sub_cast (higN t n) (fiN t (n + 1))
      grind
    · rw [if_neg hp, if_neg hp]
      have o := T_even x (n / 2)
      rw [show 2 * (n / 2) + 2 = n + 1 by omega, show 2 * (n / 2) + 1 = n by omega] at o
      rw [Rat.natCast_add, Rat.natCast_add]
      grind
theorem fi_hi (t : Nat) (x : Rat) (h0 : 0 ≤ x) (h1 : x ≤ 1) (hx : (t : Rat) = 4611686018427387904 * x) (n : Nat) (hp : (n + 1) % 2 = 1) : fiN t (n + 1) ≤ higN t n := by
  have i := (lo_T t x h0 h1 hx n).2
  have f := fi_te t x h0 hx (n + 1)
  have tn := T_in h0 h1 (n + 1)
  have o := T_odd x (n / 2)
  rw [show 2 * (n / 2) = n by omega] at o
  have : (fiN t (n + 1) : Rat) ≤ (higN t n : Rat) := by grind
  exact Rat.natCast_le_natCast.1 this
theorem low_le (t : Nat) (x : Rat) (h0 : 0 ≤ x) (h1 : x ≤ 1) (hx : (t : Rat) = 4611686018427387904 * x) (n : Nat) : lowN t n ≤ 4611686018427387904 := by
  have i := (lo_T t x h0 h1 hx n).1
  have tn := T_in h0 h1 n
  have : (lowN t n : Rat) ≤ ((4611686018427387904 : Nat) : Rat) := by rw [castM]; grind
  exact Rat.natCast_le_natCast.1 this
def loE (t : Nat) : Nat := lowN t 24 - laN t 24
def hiE (t : Nat) : Nat := min (higN t 24 + laN t 24) 4611686018427387904
def loS (t : Nat) : Nat → Nat
  | 0 => loE t
  | k + 1 => tmD (loS t k) (loS t k)
def hiS (t : Nat) : Nat → Nat
  | 0 => hiE t
  | k + 1 => tmU (hiS t k) (hiS t k)
def wd : Nat → Nat
  | 0 => 124
  | k + 1 => 2 * wd k + 2
theorem sq_all (t : Nat) (x : Rat) (h0 : 0 ≤ x) (h1 : x ≤ 1) (hx : (t : Rat) = 4611686018427387904 * x) (ht : t ≤ 4611686018427387904) : ∀ k, (loS t k : Rat) ≤ 4611686018427387904 * sqn k (T (-x) 24) ∧ 4611686018427387904 * sqn k (T (-x) 24) ≤ (hiS t k : Rat) ∧ 0 ≤ sqn k (T (-x) 24) ∧ hiS t k ≤ 4611686018427387904 ∧ loS t k ≤ hiS t k ∧ hiS t k ≤ loS t k + wd k
  | 0 => by
    obtain ⟨i1, i2⟩ := lo_T t x h0 h1 hx 24
    have tn := T_in h0 h1 24
    have w := wid t ht 24
    have l24 := Nat.le_trans (la_Lb t ht 24) Lb24
    have p1 : (loS t 0 : Rat) ≤ 4611686018427387904 * sqn 0 (T (-x) 24) := by
      have : loS t 0 ≤ lowN t 24 := by show lowN t 24 - laN t 24 ≤ _; omega
      have := cast_le this
      show _ ≤ 4611686018427387904 * T (-x) 24
      grind
    have p2 : 4611686018427387904 * sqn 0 (T (-x) 24) ≤ (hiS t 0 : Rat) := by
      show 4611686018427387904 * T (-x) 24 ≤ ((min (higN t 24 + laN t 24) 4611686018427387904 : Nat) : Rat)
      rcases Nat.le_total (higN t 24 + laN t 24) 4611686018427387904 with h | h
      · rw [Nat.min_eq_left h]
        have := cast_le (show higN t 24 ≤ higN t 24 + laN t 24 by omega)
        grind
      · rw [Nat.min_eq_right h, castM]
        grind
    refine ⟨p1, p2, tn.1, ?_, ?_, ?_⟩
    · show min (higN t 24 + laN t 24) 4611686018427387904 ≤ _; omega
    · have : (loS t 0 : Rat) ≤ (hiS t 0 : Rat) := by grind
      exact Rat.natCast_le_natCast.1 this
    · show min (higN t 24 + laN t 24) 4611686018427387904 ≤ lowN t 24 - laN t 24 + 124
      omega
  | k + 1 => by
    obtain ⟨i1, i2, i3, i4, i5, i6⟩ := sq_all t x h0 h1 hx ht k
    have e1 : loS t (k + 1) = tmD (loS t k) (loS t k) := rfl
    have e2 : hiS t (k + 1) = tmU (hiS t k) (hiS t k) := rfl
    have e3 : sqn (k + 1) (T (-x) 24) = sqn k (T (-x) 24) * sqn k (T (-x) 24) := rfl
    have e4 : wd (k + 1) = 2 * wd k + 2 := rfl
    rw [e1, e2, e3, e4]
    generalize sqn k (T (-x) 24) = s at *
    generalize loS t k = l at *
    generalize hiS t k = h at *
    generalize wd k = W at *
    have ln := nat_nn l
    have hn := nat_nn h
    have p1 : (tmD l l : Rat) ≤ 4611686018427387904 * (s * s) := by
      have a1 := cast_le (Nat.div_mul_le_self (l * l) 4611686018427387904)
      rw [Rat.natCast_mul, Rat.natCast_mul, castM] at a1
      have hd : l * l / 4611686018427387904 = tmD l l := rfl
      rw [hd] at a1
      have m1 := mul_nn (a := 4611686018427387904 * s - (l : Rat)) (b := (l : Rat)) (by grind) ln
      have m2 := mul_nn (a := 4611686018427387904 * s - (l : Rat)) (b := s) (by grind) i3
      grind
    have p2 : 4611686018427387904 * (s * s) ≤ (tmU h h : Rat) := by
      have a1 := cast_le (tmU_ge h h)
      rw [Rat.natCast_mul, Rat.natCast_mul, castM] at a1
      have m1 := mul_nn (a := (h : Rat) - 4611686018427387904 * s) (b := (h : Rat)) (by grind) hn
      have m2 := mul_nn (a := (h : Rat) - 4611686018427387904 * s) (b := s) (by grind) i3
      grind
    refine ⟨p1, p2, mul_nn i3 i3, Nat.le_trans (tmU_small h h i4) i4, ?_, ?_⟩
    · have : (tmD l l : Rat) ≤ (tmU h h : Rat) := by grind
      exact Rat.natCast_le_natCast.1 this
    · have q1 := tmU_le h h
      have q2 : tmD h h ≤ tmD l l + 2 * W + 1 := by
        unfold tmD
        have b1 := Nat.mul_le_mul_right h i6
        have b2 := Nat.mul_le_mul_left l i6
        have b3 := Nat.mul_le_mul_left W i4
        have b4 := Nat.mul_le_mul_left W (Nat.le_trans i5 i4)
        rw [Nat.add_mul] at b1
        rw [Nat.mul_add, Nat.mul_comm l W] at b2
        generalize h * h = hh at *
        generalize l * l = ll at *
        generalize l * h = lh at *
        generalize W * h = Wh at *
        generalize W * l = Wl at *
        omega
      omega
theorem wd5 : wd 5 < 274877906944 := by decide
theorem t_of (Y : Nat) : ((Y * 33554432 : Nat) : Rat) = 4611686018427387904 * ((Y : Rat) / 137438953472) := by
  rw [Rat.natCast_mul]
  have : ((33554432 : Nat) : Rat) = 33554432 := rfl
  rw [this]
  grind
theorem near_all (Y : Nat) (hY : Y < 137438953472) : loS (Y * 33554432) 5 ≤ hiS (Y * 33554432) 5 ∧ hiS (Y * 33554432) 5 - loS (Y * 33554432) 5 < 274877906944 ∧ hiS (Y * 33554432) 5 ≤ 4611686018427387904 ∧
    eN Y 37 / 1073741824 ≤ hiS (Y * 33554432) 5 / 1073741824 + 1 ∧ loS (Y * 33554432) 5 / 1073741824 + 1 ≤ eN Y 37 / 1073741824 + 256 := by
  obtain ⟨a, b⟩ := frac_in Y (by omega)
  obtain ⟨s1, s2, s3, s4, s5, s6⟩ := sq_all (Y * 33554432) _ a b (t_of Y) (by omega) 5
  have e := est_near Y hY
  have hF : sqn 5 (T (-((Y : Rat) / 137438953472)) 24) = Fq Y := rfl
  rw [hF] at s1 s2 s3
  unfold Ab at e
  have k1 : eN Y 37 ≤ hiS (Y * 33554432) 5 + 40700 := by
    have : (eN Y 37 : Rat) ≤ ((hiS (Y * 33554432) 5 + 40700 : Nat) : Rat) := by
      rw [Rat.natCast_add]
      have : ((40700 : Nat) : Rat) = 40700 := rfl
      rw [this]
      grind
    exact Rat.natCast_le_natCast.1 this
  have k2 : loS (Y * 33554432) 5 ≤ eN Y 37 + 40700 := by
    have : (loS (Y * 33554432) 5 : Rat) ≤ ((eN Y 37 + 40700 : Nat) : Rat) := by
      rw [Rat.natCast_add]
      have : ((40700 : Nat) : Rat) = 40700 := rfl
      rw [this]
      grind
    exact Rat.natCast_le_natCast.1 this
  have := wd5
  refine ⟨s5, by omega, s4, by omega, by omega⟩
end Go.Proofs.Tryd.Near
