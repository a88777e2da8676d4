/-
  The plain mathematics of words of 32 bits: numbers with a sign, the logical operations and sums. No Go in it.
  More of the plain mathematics of words: division with signs, shifts, fields, counted bits, turns. No Go in it.
  More of the plain mathematics of words: fields and signs that are drawn out. No Go in it.
  Contracts of alu's Do and Test, one for each operation.
-/
import Derived.Test.YtegkodgondlcmaaDoorBase
namespace FerryAlu

/-- The number with a sign that the word stands for. -/
def sg (b : Nat) : Int := if b < 2147483648 then (b : Int) else (b : Int) - 4294967296
/-- The word of a number. -/
def un (z : Int) : Nat := (z % 4294967296).toNat

theorem un_lt (z : Int) : un z < 4294967296 := by unfold un; omega
theorem un_cast (z : Int) : ((un z : Nat) : Int) = z % 4294967296 := by unfold un; omega
theorem un_sg {b : Nat} (h : b < 4294967296) : un (sg b) = b := by unfold un sg; split <;> omega
theorem sg_ge (b : Nat) : -2147483648 ≤ sg b := by unfold sg; split <;> omega
theorem sg_le {b : Nat} (h : b < 4294967296) : sg b ≤ 2147483647 := by unfold sg; split <;> omega
theorem sg_inj {a b : Nat} (ha : a < 4294967296) (hb : b < 4294967296) (h : sg a = sg b) : a = b := by
  rw [← un_sg ha, ← un_sg hb, h]
theorem sg_zero {b : Nat} (hb : b < 4294967296) : sg b = 0 ↔ b = 0 := by unfold sg; split <;> omega
theorem sg_un {z : Int} (h1 : -2147483648 ≤ z) (h2 : z ≤ 2147483647) : sg (un z) = z := by unfold un sg; split <;> omega

theorem and_bit (a b : Nat) : (a &&& b) % 2 = (a % 2) * (b % 2) := by
  have h : ((a &&& b) % 2 = 1) ↔ (a % 2 = 1 ∧ b % 2 = 1) := Nat.and_mod_two_eq_one
  rcases Nat.mod_two_eq_zero_or_one a with ha | ha <;> rcases Nat.mod_two_eq_zero_or_one b with hb | hb <;> rcases Nat.mod_two_eq_zero_or_one (a &&& b) with hc | hc <;> simp [ha, hb, hc] at h ⊢
theorem or_bit (a b : Nat) : (a ||| b) % 2 = a % 2 + b % 2 - (a % 2) * (b % 2) := by
  have h : ((a ||| b) % 2 = 1) ↔ (a % 2 = 1 ∨ b % 2 = 1) := Nat.or_mod_two_eq_one
  rcases Nat.mod_two_eq_zero_or_one a with ha | ha <;> rcases Nat.mod_two_eq_zero_or_one b with hb | hb <;> rcases Nat.mod_two_eq_zero_or_one (a ||| b) with hc | hc <;> simp [ha, hb, hc] at h ⊢
theorem xor_bit (a b : Nat) : (a ^^^ b) % 2 = a % 2 + b % 2 - 2 * ((a % 2) * (b % 2)) := by
  have h : ((a ^^^ b) % 2 = 1) ↔ ¬ ((a % 2 = 1) ↔ (b % 2 = 1)) := Nat.xor_mod_two_eq_one
  rcases Nat.mod_two_eq_zero_or_one a with ha | ha <;> rcases Nat.mod_two_eq_zero_or_one b with hb | hb <;> rcases Nat.mod_two_eq_zero_or_one (a ^^^ b) with hc | hc <;> simp [ha, hb, hc] at h ⊢

theorem or_is (a b : Nat) : (a ||| b) = (a &&& b) + (a ^^^ b) := by
  induction a using Nat.strongRecOn generalizing b with
  | ind a ih =>
    by_cases h0 : a = 0
    · subst h0; simp
    · have := ih (a / 2) (by omega) (b / 2)
      rw [← Nat.or_div_two, ← Nat.and_div_two, ← Nat.xor_div_two] at this
      have h1 := and_bit a b
      have h2 := or_bit a b
      have h3 := xor_bit a b
      rcases Nat.mod_two_eq_zero_or_one a with ha | ha <;> rcases Nat.mod_two_eq_zero_or_one b with hb | hb <;> simp only [ha, hb] at h1 h2 h3 <;> omega

theorem sum_is (a b : Nat) : a + b = 2 * (a &&& b) + (a ^^^ b) := by
  induction a using Nat.strongRecOn generalizing b with
  | ind a ih =>
    by_cases h0 : a = 0
    · subst h0; simp
    · have := ih (a / 2) (by omega) (b / 2)
      rw [← Nat.and_div_two, ← Nat.xor_div_two] at this
      have h1 := and_bit a b
      have h3 := xor_bit a b
      rcases Nat.mod_two_eq_zero_or_one a with ha | ha <;> rcases Nat.mod_two_eq_zero_or_one b with hb | hb <;> simp only [ha, hb] at h1 h3 <;> omega

theorem and_xor (a b : Nat) : (a &&& b) &&& (a ^^^ b) = 0 := by
  apply Nat.eq_of_testBit_eq
  intro i
  simp only [Nat.testBit_and, Nat.testBit_xor, Nat.zero_testBit]
  cases a.testBit i <;> cases b.testBit i <;> rfl
theorem xor_xor (a b : Nat) : (a ^^^ b) ^^^ b = a := by rw [Nat.xor_assoc, Nat.xor_self, Nat.xor_zero]

end FerryAlu
namespace FerryAlu

theorem un_add (x y : Int) : (un x + un y) % 4294967296 = un (x + y) := by unfold un; omega
theorem un_nat {b : Nat} (h : b < 4294967296) : un (b : Int) = b := by unfold un; omega
theorem un_mod (b : Nat) : un (b : Int) = b % 4294967296 := by unfold un; omega
theorem un_congr {x y : Int} (h : x % 4294967296 = y % 4294967296) : un x = un y := by unfold un; rw [h]
theorem sg_mod (b : Nat) : sg b % 4294967296 = (b : Int) % 4294967296 := by unfold sg; split <;> omega

theorem un_mul (x : Int) (c : Nat) : (un x * c) % 4294967296 = un (x * sg c) := by
  have h : ((un x * c : Nat) : Int) % 4294967296 = (x * sg c) % 4294967296 := by
    rw [Int.natCast_mul, un_cast, Int.mul_emod, Int.emod_emod, ← Int.mul_emod, Int.mul_emod x (sg c), sg_mod, ← Int.mul_emod]
  rw [← un_mod]
  exact un_congr h

theorem divs_back {b : Nat} (c : Nat) (hb : b < 4294967296) : (un ((sg b).tdiv (sg c)) * c % 4294967296 + un ((sg b).tmod (sg c))) % 4294967296 = b := by
  rw [un_mul, un_add, Int.tdiv_mul_add_tmod, un_sg hb]

theorem tmod_size {a b : Int} (hb : b ≠ 0) : a.tmod b < (b.natAbs : Int) ∧ -(b.natAbs : Int) < a.tmod b := by
  have h := Int.natAbs_tmod a b
  have h2 : a.natAbs % b.natAbs < b.natAbs := Nat.mod_lt _ (by omega)
  omega
theorem tmod_sign {a b : Int} (h : a.tmod b ≠ 0) : a.tmod b < 0 ↔ a < 0 := by
  by_cases ha : 0 ≤ a
  · have := Int.tmod_nonneg b ha
    omega
  · have h1 := Int.neg_tmod (a := a) (b := b)
    have h2 := Int.tmod_nonneg b (show 0 ≤ -a by omega)
    omega
theorem tmod_range {a b : Int} (h1 : -2147483648 ≤ a) (h2 : a ≤ 2147483647) : -2147483648 ≤ a.tmod b ∧ a.tmod b ≤ 2147483647 := by
  have h := Int.natAbs_tmod a b
  have h3 : a.natAbs % b.natAbs ≤ a.natAbs := Nat.mod_le _ _
  by_cases ha : 0 ≤ a
  · have := Int.tmod_nonneg b ha
    omega
  · have h4 := Int.neg_tmod (a := a) (b := b)
    have h5 := Int.tmod_nonneg b (show 0 ≤ -a by omega)
    omega

/-- How many bits are 1. -/
def pop : Nat → Nat → Nat
  | 0, _ => 0
  | k + 1, n => n % 2 + pop k (n / 2)
theorem pop_add (j k a b : Nat) (hb : b < 2 ^ j) : pop (j + k) (a * 2 ^ j + b) = pop j b + pop k a := by
  induction j generalizing b with
  | zero => simp at hb; subst hb; simp [pop]
  | succ j ih =>
    rw [show j + 1 + k = (j + k) + 1 by omega, pop, pop, Nat.pow_succ]
    have e1 : (a * (2 ^ j * 2) + b) % 2 = b % 2 := by rw [← Nat.mul_assoc]; omega
    have e2 : (a * (2 ^ j * 2) + b) / 2 = a * 2 ^ j + b / 2 := by rw [← Nat.mul_assoc]; omega
    rw [e1, e2, ih (b / 2) (by rw [Nat.pow_succ] at hb; omega)]
    omega
theorem pop_cut (j k n : Nat) : pop (j + k) n = pop j (n % 2 ^ j) + pop k (n / 2 ^ j) := by
  have h := pop_add j k (n / 2 ^ j) (n % 2 ^ j) (Nat.mod_lt _ (Nat.two_pow_pos j))
  rw [Nat.mul_comm, Nat.div_add_mod] at h
  exact h
theorem pop_comm (j k a b : Nat) (hb : b < 2 ^ j) (ha : a < 2 ^ k) : pop (j + k) (a * 2 ^ j + b) = pop (k + j) (b * 2 ^ k + a) := by
  rw [pop_add j k a b hb, pop_add k j b a ha, Nat.add_comm]
theorem pop_le (k n : Nat) : pop k n ≤ k := by
  induction k generalizing n with
  | zero => simp [pop]
  | succ k ih => rw [pop]; have := ih (n / 2); omega

/-- The word turned to the left by j bits, j from 0 to 32. -/
def rot (x j : Nat) : Nat := x % 2 ^ (32 - j) * 2 ^ j + x / 2 ^ (32 - j)
theorem div_lt_of {x a b : Nat} (h : x < a * b) : x / a < b := by
  rcases Nat.eq_zero_or_pos a with h0 | h0
  · subst h0; simp at h
  · exact (Nat.div_lt_iff_lt_mul h0).2 (by rw [Nat.mul_comm]; exact h)
theorem two_split {j : Nat} (hj : j ≤ 32) : 2 ^ (32 - j) * 2 ^ j = 4294967296 := by
  rw [← Nat.pow_add, show 32 - j + j = 32 by omega]
theorem high_lt {x j : Nat} (hx : x < 4294967296) (hj : j ≤ 32) : x / 2 ^ (32 - j) < 2 ^ j :=
  div_lt_of (by rw [two_split hj]; exact hx)
theorem rot_lt {x j : Nat} (hx : x < 4294967296) (hj : j ≤ 32) : rot x j < 4294967296 := by
  unfold rot
  have h1 : x % 2 ^ (32 - j) < 2 ^ (32 - j) := Nat.mod_lt _ (Nat.two_pow_pos _)
  have h2 := high_lt hx hj
  have h3 : (x % 2 ^ (32 - j) + 1) * 2 ^ j ≤ 2 ^ (32 - j) * 2 ^ j := Nat.mul_le_mul_right _ h1
  rw [two_split hj, Nat.add_mul] at h3
  omega
theorem rot_zero {x : Nat} (hx : x < 4294967296) : rot x 0 = x := by
  unfold rot
  rw [Nat.mod_eq_of_lt (by simpa using hx), Nat.div_eq_of_lt (by simpa using hx)]
  simp
theorem rot_back {x j : Nat} (hx : x < 4294967296) (hj : j ≤ 32) : rot (rot x j) (32 - j) = x := by
  have h2 := high_lt hx hj
  have e : rot (rot x j) (32 - j) = rot x j % 2 ^ j * 2 ^ (32 - j) + rot x j / 2 ^ j := by
    show rot x j % 2 ^ (32 - (32 - j)) * 2 ^ (32 - j) + rot x j / 2 ^ (32 - (32 - j)) = _
    rw [show 32 - (32 - j) = j by omega]
  rw [e]
  have e1 : rot x j % 2 ^ j = x / 2 ^ (32 - j) := by
    unfold rot
    rw [Nat.mul_add_mod_self_right, Nat.mod_eq_of_lt h2]
  have e2 : rot x j / 2 ^ j = x % 2 ^ (32 - j) := by
    unfold rot
    rw [Nat.mul_comm, Nat.mul_add_div (Nat.two_pow_pos j), Nat.div_eq_of_lt h2, Nat.add_zero]
  rw [e1, e2, Nat.mul_comm, Nat.div_add_mod]
theorem rot_pop {x j : Nat} (hx : x < 4294967296) (hj : j ≤ 32) : pop 32 (rot x j) = pop 32 x := by
  have h2 := high_lt hx hj
  have h1 : x % 2 ^ (32 - j) < 2 ^ (32 - j) := Nat.mod_lt _ (Nat.two_pow_pos _)
  have h := pop_comm j (32 - j) _ _ h2 h1
  rw [show j + (32 - j) = 32 by omega, show 32 - j + j = 32 by omega, Nat.mul_comm (x / 2 ^ (32 - j)), Nat.div_add_mod] at h
  exact h
end FerryAlu
namespace FerryAlu

/-- n bits of x from bit lo on. -/
def fld (x lo n : Nat) : Nat := x / 2 ^ lo % 2 ^ n
/-- x with v in the n bits from bit lo on. -/
def plc (x lo n v : Nat) : Nat := 2 ^ lo * (2 ^ n * (x / 2 ^ lo / 2 ^ n) + v) + x % 2 ^ lo

theorem two_pow_le {n : Nat} (h : n ≤ 32) : 2 ^ n ≤ 4294967296 := Nat.pow_le_pow_right (n := 2) (j := 32) (by decide) h
theorem fld_lt (x lo n : Nat) : fld x lo n < 2 ^ n := Nat.mod_lt _ (Nat.two_pow_pos n)
theorem fld_lt32 (x lo : Nat) {n : Nat} (h : n ≤ 32) : fld x lo n < 4294967296 := Nat.lt_of_lt_of_le (fld_lt x lo n) (two_pow_le h)
theorem plc_high (x lo n v : Nat) : plc x lo n v / 2 ^ lo = 2 ^ n * (x / 2 ^ lo / 2 ^ n) + v := by
  unfold plc
  rw [Nat.mul_add_div (Nat.two_pow_pos lo), Nat.div_eq_of_lt (Nat.mod_lt _ (Nat.two_pow_pos lo)), Nat.add_zero]
theorem plc_low (x lo n v : Nat) : plc x lo n v % 2 ^ lo = x % 2 ^ lo := by
  unfold plc
  rw [Nat.mul_add_mod, Nat.mod_mod]
theorem fld_plc {x lo n v : Nat} (hv : v < 2 ^ n) : fld (plc x lo n v) lo n = v := by
  unfold fld
  rw [plc_high, Nat.mul_add_mod, Nat.mod_eq_of_lt hv]
theorem plc_fld (x lo n : Nat) : plc x lo n (fld x lo n) = x := by
  unfold plc fld
  rw [Nat.div_add_mod, Nat.div_add_mod]
theorem plc_plc {x lo n v u : Nat} (hv : v < 2 ^ n) : plc (plc x lo n v) lo n u = plc x lo n u := by
  have e : plc x lo n v / 2 ^ lo / 2 ^ n = x / 2 ^ lo / 2 ^ n := by
    rw [plc_high, Nat.mul_add_div (Nat.two_pow_pos n), Nat.div_eq_of_lt hv, Nat.add_zero]
  rw [plc, e, plc_low]
  rfl
theorem plc_testBit {x lo n v : Nat} (hv : v < 2 ^ n) (i : Nat) : (plc x lo n v).testBit i = if i < lo then x.testBit i else if i < lo + n then v.testBit (i - lo) else x.testBit i := by
  unfold plc
  rw [Nat.testBit_two_pow_mul_add _ (Nat.mod_lt _ (Nat.two_pow_pos lo))]
  by_cases h : i < lo
  · rw [if_pos h, if_pos h, Nat.testBit_mod_two_pow]; simp [h]
  · rw [if_neg h, if_neg h, Nat.testBit_two_pow_mul_add _ hv]
    by_cases h2 : i < lo + n
    · rw [if_pos (by omega), if_pos h2]
    · rw [if_neg (by omega), if_neg h2, Nat.testBit_div_two_pow, Nat.testBit_div_two_pow]
      congr 1
      omega
theorem plc_lt {x lo n v : Nat} (hx : x < 4294967296) (hv : v < 2 ^ n) (h : lo + n ≤ 32) : plc x lo n v < 4294967296 := by
  apply Nat.lt_pow_two_of_testBit (n := 32)
  intro i hi
  rw [plc_testBit hv, if_neg (by omega), if_neg (by omega)]
  exact Nat.testBit_lt_two_pow (Nat.lt_of_lt_of_le hx (Nat.pow_le_pow_right (n := 2) (by decide) hi))
theorem or_place (x lo n v : Nat) (hv : v < 2 ^ n) : plc x lo n 0 ||| (v * 2 ^ lo) = plc x lo n v := by
  apply Nat.eq_of_testBit_eq
  intro i
  rw [Nat.testBit_or, plc_testBit hv, plc_testBit (Nat.two_pow_pos n), Nat.mul_comm, Nat.testBit_two_pow_mul]
  by_cases h : i < lo
  · simp [h, show ¬ lo ≤ i by omega]
  · by_cases h2 : i < lo + n
    · simp [h, h2, show lo ≤ i by omega]
    · have : v.testBit (i - lo) = false := Nat.testBit_lt_two_pow (Nat.lt_of_lt_of_le hv (Nat.pow_le_pow_right (by decide) (by omega)))
      simp [h, h2, this]
theorem and_place (x lo n v : Nat) (hv : v < 2 ^ n) : plc x lo n 0 &&& (v * 2 ^ lo) = 0 := by
  apply Nat.eq_of_testBit_eq
  intro i
  rw [Nat.testBit_and, plc_testBit (Nat.two_pow_pos n), Nat.mul_comm, Nat.testBit_two_pow_mul]
  by_cases h : i < lo
  · simp [h, show ¬ lo ≤ i by omega]
  · by_cases h2 : i < lo + n
    · simp [h, h2]
    · have : v.testBit (i - lo) = false := Nat.testBit_lt_two_pow (Nat.lt_of_lt_of_le hv (Nat.pow_le_pow_right (by decide) (by omega)))
      simp [this]
/-- The lowest n bits, the highest of them repeated above. -/
def sxt (x n : Nat) : Nat := un (sg (x * 2 ^ (32 - n) % 4294967296) / (2 ^ (32 - n) : Nat))
theorem pow_parts {n : Nat} (h1 : 1 ≤ n) (h2 : n ≤ 32) : 2 ^ (n - 1) * 2 ^ (32 - n) = 2147483648 ∧ 2 ^ n * 2 ^ (32 - n) = 4294967296 ∧ 2 ^ n = 2 * 2 ^ (n - 1) := by
  refine ⟨?_, ?_, ?_⟩
  · rw [← Nat.pow_add, show n - 1 + (32 - n) = 31 by omega]
  · rw [← Nat.pow_add, show n + (32 - n) = 32 by omega]
  · rw [← Nat.pow_succ', show (n - 1).succ = n by omega]
theorem sxt_small {x n : Nat} (h1 : 1 ≤ n) (h2 : n ≤ 32) (hx : x < 2 ^ n) : sxt x n = if x < 2 ^ (n - 1) then x else x + (4294967296 - 2 ^ n) := by
  obtain ⟨p1, p2, p3⟩ := pow_parts h1 h2
  have hs : 0 < 2 ^ (32 - n) := Nat.two_pow_pos _
  have hp : 0 < 2 ^ (n - 1) := Nat.two_pow_pos _
  have hle := two_pow_le h2
  have hlt : x * 2 ^ (32 - n) < 4294967296 := by rw [← p2]; exact Nat.mul_lt_mul_of_pos_right hx hs
  unfold sxt
  rw [Nat.mod_eq_of_lt hlt]
  by_cases h : x < 2 ^ (n - 1)
  · have hl : x * 2 ^ (32 - n) < 2147483648 := by rw [← p1]; exact Nat.mul_lt_mul_of_pos_right h hs
    rw [if_pos h, sg, if_pos hl, ← Int.natCast_ediv, Nat.mul_div_cancel _ hs, un_nat (by omega)]
  · have hl : ¬ x * 2 ^ (32 - n) < 2147483648 := by rw [← p1]; intro hc; exact h (Nat.lt_of_mul_lt_mul_right hc)
    rw [if_neg h, sg, if_neg hl]
    have e : ((x * 2 ^ (32 - n) : Nat) : Int) - 4294967296 = ((x : Int) - ((2 ^ n : Nat) : Int)) * ((2 ^ (32 - n) : Nat) : Int) := by
      rw [Int.sub_mul, ← Int.natCast_mul, ← Int.natCast_mul, p2]
      rfl
    rw [e, Int.mul_ediv_cancel _ (by omega)]
    unfold un
    omega
theorem sxt_lt (x n : Nat) : sxt x n < 4294967296 := un_lt _
theorem sxt_low {x n : Nat} (h1 : 1 ≤ n) (h2 : n ≤ 32) (hx : x < 2 ^ n) : fld (sxt x n) 0 n = x := by
  obtain ⟨p1, p2, p3⟩ := pow_parts h1 h2
  have hle := two_pow_le h2
  unfold fld
  rw [sxt_small h1 h2 hx, Nat.pow_zero, Nat.div_one]
  split
  · exact Nat.mod_eq_of_lt hx
  · obtain ⟨k, hk⟩ : ∃ k, 4294967296 - 2 ^ n = 2 ^ n * k := by
      refine ⟨2 ^ (32 - n) - 1, ?_⟩
      rw [Nat.mul_sub, p2, Nat.mul_one]
    rw [hk, Nat.add_mul_mod_self_left]
    exact Nat.mod_eq_of_lt hx
theorem sxt_sign {x n : Nat} (h1 : 1 ≤ n) (h2 : n ≤ 32) (hx : x < 2 ^ n) : sg (sxt x n) < 0 ↔ fld x (n - 1) 1 = 1 := by
  obtain ⟨p1, p2, p3⟩ := pow_parts h1 h2
  have hle := two_pow_le h2
  have hp : 0 < 2 ^ (n - 1) := Nat.two_pow_pos _
  unfold fld
  rw [sxt_small h1 h2 hx, Nat.pow_one]
  split
  · rename_i h
    rw [Nat.div_eq_of_lt h]
    unfold sg
    have : 2 ^ (n - 1) ≤ 2147483648 := Nat.pow_le_pow_right (n := 2) (j := 31) (by decide) (by omega)
    rw [if_pos (by omega)]
    omega
  · rename_i h
    have e : x / 2 ^ (n - 1) = 1 := by
      apply (Nat.div_eq_iff hp).2
      omega
    rw [e]
    have : 2 ^ n ≤ 4294967296 := hle
    have : 2 ^ (n - 1) ≤ 2147483648 := Nat.pow_le_pow_right (n := 2) (j := 31) (by decide) (by omega)
    unfold sg
    rw [if_neg (by omega)]
    omega
theorem mask_is {n : Nat} (h1 : n ≤ 32) : 4294967295 / 2 ^ (32 - n) = 2 ^ n - 1 := by
  have h : 2 ^ n * 2 ^ (32 - n) = 4294967296 := by rw [← Nat.pow_add, show n + (32 - n) = 32 by omega]
  have hs : 0 < 2 ^ (32 - n) := Nat.two_pow_pos _
  have hn : 0 < 2 ^ n := Nat.two_pow_pos _
  apply Nat.div_eq_of_lt_le
  · rw [Nat.sub_mul, h]; omega
  · rw [show 2 ^ n - 1 + 1 = 2 ^ n by omega, h]; decide
theorem field_is (x lo n : Nat) : (x / 2 ^ lo) &&& (2 ^ n - 1) = fld x lo n := by
  unfold fld
  rw [Nat.and_two_pow_sub_one_eq_mod]
theorem mask_bit (n lo i : Nat) : ((2 ^ n - 1) * 2 ^ lo).testBit i = (decide (lo ≤ i) && decide (i < lo + n)) := by
  rw [Nat.mul_comm, Nat.testBit_two_pow_mul, Nat.testBit_two_pow_sub_one]
  by_cases h : lo ≤ i
  · simp only [h, decide_true, Bool.true_and]
    congr 1
    apply propext
    omega
  · simp [h]
end FerryAlu
namespace Go.Proofs.YtegkodgondlcmaaDoor
open Go.RowKit FerryAlu
set_option linter.unusedVariables false

theorem ret_w {a b : Int} (h : a = b) : Ending.returned (.tuple #[.int .u32 a, .nilIface]) = .returned (.tuple #[.int .u32 b, .nilIface]) := by rw [h]
theorem ret_t {a b : Bool} (h : a = b) : Ending.returned (.tuple #[.bool a, .nilIface]) = .returned (.tuple #[.bool b, .nilIface]) := by rw [h]
theorem div_mod {b : Nat} (c : Nat) (hb : b < 4294967296) : (b : Int) / (c : Int) % 4294967296 = ((b / c : Nat) : Int) := by
  rw [← Int.natCast_ediv]
  have := Nat.div_le_self b c
  generalize b / c = q at *
  omega
theorem w32 {b : Nat} (h : b < 4294967296) : wrap32 (b : Int) = sg b := by unfold wrap32 sg; split <;> omega

theorem do_add (b c : Nat) (w : World) (hb : b < 4294967296) (hc : c < 4294967296) :
    Calls Tryd.prog 69 #[.int .i64 1, .int .u32 (b : Int), .int .u32 (c : Int)] w fun e w' => e = .returned (.tuple #[.int .u32 (((b + c) % 4294967296 : Nat) : Int), .nilIface]) ∧ w = w' := by
  go_enter Tryd.func69, Tryd.ntmps69
  go_wp2
  go_ret2
  refine ⟨ret_w ?_, rfl⟩
  omega

theorem do_sub (b c : Nat) (w : World) (hb : b < 4294967296) (hc : c < 4294967296) :
    Calls Tryd.prog 69 #[.int .i64 2, .int .u32 (b : Int), .int .u32 (c : Int)] w fun e w' => e = .returned (.tuple #[.int .u32 (((b + 4294967296 - c) % 4294967296 : Nat) : Int), .nilIface]) ∧ w = w' := by
  go_enter Tryd.func69, Tryd.ntmps69
  go_wp2
  go_ret2
  refine ⟨ret_w ?_, rfl⟩
  omega

theorem do_and (b c : Nat) (w : World) (hb : b < 4294967296) (hc : c < 4294967296) :
    Calls Tryd.prog 69 #[.int .i64 3, .int .u32 (b : Int), .int .u32 (c : Int)] w fun e w' => e = .returned (.tuple #[.int .u32 ((b &&& c : Nat) : Int), .nilIface]) ∧ w = w' := by
  go_enter Tryd.func69, Tryd.ntmps69
  go_wp2
  go_ret2
  refine ⟨ret_w ?_, rfl⟩
  exact u32_and_nat b c hb hc

theorem do_or (b c : Nat) (w : World) (hb : b < 4294967296) (hc : c < 4294967296) :
    Calls Tryd.prog 69 #[.int .i64 4, .int .u32 (b : Int), .int .u32 (c : Int)] w fun e w' => e = .returned (.tuple #[.int .u32 ((b ||| c : Nat) : Int), .nilIface]) ∧ w = w' := by
  go_enter Tryd.func69, Tryd.ntmps69
  go_wp2
  go_ret2
  refine ⟨ret_w ?_, rfl⟩
  exact u32_or_nat b c hb hc

theorem do_xor (b c : Nat) (w : World) (hb : b < 4294967296) (hc : c < 4294967296) :
    Calls Tryd.prog 69 #[.int .i64 5, .int .u32 (b : Int), .int .u32 (c : Int)] w fun e w' => e = .returned (.tuple #[.int .u32 ((b ^^^ c : Nat) : Int), .nilIface]) ∧ w = w' := by
  go_enter Tryd.func69, Tryd.ntmps69
  go_wp2
  go_ret2
  refine ⟨ret_w ?_, rfl⟩
  exact u32_xor_nat b c hb hc

theorem do_shl (b c : Nat) (w : World) (hb : b < 4294967296) (hc : c < 4294967296) :
    Calls Tryd.prog 69 #[.int .i64 6, .int .u32 (b : Int), .int .u32 (c : Int)] w fun e w' => e = .returned (.tuple #[.int .u32 ((b * 2 ^ (c % 32) % 4294967296 : Nat) : Int), .nilIface]) ∧ w = w' := by
  go_enter Tryd.func69, Tryd.ntmps69
  go_wp2
  go_ret2
  refine ⟨ret_w ?_, rfl⟩
  simp

theorem do_shr (b c : Nat) (w : World) (hb : b < 4294967296) (hc : c < 4294967296) :
    Calls Tryd.prog 69 #[.int .i64 7, .int .u32 (b : Int), .int .u32 (c : Int)] w fun e w' => e = .returned (.tuple #[.int .u32 ((b / 2 ^ (c % 32) : Nat) : Int), .nilIface]) ∧ w = w' := by
  go_enter Tryd.func69, Tryd.ntmps69
  go_wp2
  go_ret2
  refine ⟨ret_w ?_, rfl⟩
  simp

theorem do_sar (b c : Nat) (w : World) (hb : b < 4294967296) (hc : c < 4294967296) :
    Calls Tryd.prog 69 #[.int .i64 8, .int .u32 (b : Int), .int .u32 (c : Int)] w fun e w' => e = .returned (.tuple #[.int .u32 ((un (sg b / (2 ^ (c % 32) : Nat)) : Nat) : Int), .nilIface]) ∧ w = w' := by
  go_enter Tryd.func69, Tryd.ntmps69
  go_wp2
  go_ret2
  refine ⟨ret_w ?_, rfl⟩
  rw [w32 hb, un_cast]; simp

theorem do_mul (b c : Nat) (w : World) (hb : b < 4294967296) (hc : c < 4294967296) :
    Calls Tryd.prog 69 #[.int .i64 9, .int .u32 (b : Int), .int .u32 (c : Int)] w fun e w' => e = .returned (.tuple #[.int .u32 ((b * c % 4294967296 : Nat) : Int), .nilIface]) ∧ w = w' := by
  go_enter Tryd.func69, Tryd.ntmps69
  go_wp2
  go_ret2
  refine ⟨ret_w ?_, rfl⟩
  simp

theorem do_divu (b c : Nat) (w : World) (hb : b < 4294967296) (hc : c < 4294967296) (h0 : c ≠ 0) :
    Calls Tryd.prog 69 #[.int .i64 10, .int .u32 (b : Int), .int .u32 (c : Int)] w fun e w' => e = .returned (.tuple #[.int .u32 ((b / c : Nat) : Int), .nilIface]) ∧ w = w' := by
  have e0 : ((c : Int) == 0) = false := by simp; omega
  have e1 : (c : Int) ≠ 0 := by omega
  have e2 := w32 hb
  have e3 := w32 hc
  have e4 : (sg c == 0) = false := by have := sg_zero hc; simp; omega
  have e5 : sg c ≠ 0 := by have := sg_zero hc; omega
  go_enter Tryd.func69, Tryd.ntmps69
  go_wp2
  all_goals (go_ret2; refine ⟨ret_w ?_, rfl⟩; exact div_mod c hb)

theorem do_divs (b c : Nat) (w : World) (hb : b < 4294967296) (hc : c < 4294967296) (h0 : c ≠ 0) :
    Calls Tryd.prog 69 #[.int .i64 11, .int .u32 (b : Int), .int .u32 (c : Int)] w fun e w' => e = .returned (.tuple #[.int .u32 ((un ((sg b).tdiv (sg c)) : Nat) : Int), .nilIface]) ∧ w = w' := by
  have e0 : ((c : Int) == 0) = false := by simp; omega
  have e1 : (c : Int) ≠ 0 := by omega
  have e2 := w32 hb
  have e3 := w32 hc
  have e4 : (sg c == 0) = false := by have := sg_zero hc; simp; omega
  have e5 : sg c ≠ 0 := by have := sg_zero hc; omega
  go_enter Tryd.func69, Tryd.ntmps69
  go_wp2
  all_goals (go_ret2; refine ⟨ret_w ?_, rfl⟩; rw [un_cast]; unfold wrap32; omega)

theorem do_remu (b c : Nat) (w : World) (hb : b < 4294967296) (hc : c < 4294967296) (h0 : c ≠ 0) :
    Calls Tryd.prog 69 #[.int .i64 12, .int .u32 (b : Int), .int .u32 (c : Int)] w fun e w' => e = .returned (.tuple #[.int .u32 ((b % c : Nat) : Int), .nilIface]) ∧ w = w' := by
  have e0 : ((c : Int) == 0) = false := by simp; omega
  have e1 : (c : Int) ≠ 0 := by omega
  have e2 := w32 hb
  have e3 := w32 hc
  have e4 : (sg c == 0) = false := by have := sg_zero hc; simp; omega
  have e5 : sg c ≠ 0 := by have := sg_zero hc; omega
  go_enter Tryd.func69, Tryd.ntmps69
  go_wp2
  all_goals (go_ret2; refine ⟨ret_w ?_, rfl⟩; simp)

theorem do_rems (b c : Nat) (w : World) (hb : b < 4294967296) (hc : c < 4294967296) (h0 : c ≠ 0) :
    Calls Tryd.prog 69 #[.int .i64 13, .int .u32 (b : Int), .int .u32 (c : Int)] w fun e w' => e = .returned (.tuple #[.int .u32 ((un ((sg b).tmod (sg c)) : Nat) : Int), .nilIface]) ∧ w = w' := by
  have e0 : ((c : Int) == 0) = false := by simp; omega
  have e1 : (c : Int) ≠ 0 := by omega
  have e2 := w32 hb
  have e3 := w32 hc
  have e4 : (sg c == 0) = false := by have := sg_zero hc; simp; omega
  have e5 : sg c ≠ 0 := by have := sg_zero hc; omega
  go_enter Tryd.func69, Tryd.ntmps69
  go_wp2
  all_goals (go_ret2; refine ⟨ret_w ?_, rfl⟩; rw [un_cast])

theorem do_sltu (b c : Nat) (w : World) (hb : b < 4294967296) (hc : c < 4294967296) :
    Calls Tryd.prog 69 #[.int .i64 14, .int .u32 (b : Int), .int .u32 (c : Int)] w fun e w' => e = .returned (.tuple #[.int .u32 (((decide (b < c)).toNat : Nat) : Int), .nilIface]) ∧ w = w' := by
  have e2 := w32 hb
  have e3 := w32 hc
  go_enter Tryd.func69, Tryd.ntmps69
  go_wp2
  all_goals (go_ret2; refine ⟨ret_w ?_, rfl⟩; rename_i h; first | (rw [decide_eq_true (by omega)]; rfl) | (rw [decide_eq_false (by omega)]; rfl))

theorem do_slts (b c : Nat) (w : World) (hb : b < 4294967296) (hc : c < 4294967296) :
    Calls Tryd.prog 69 #[.int .i64 15, .int .u32 (b : Int), .int .u32 (c : Int)] w fun e w' => e = .returned (.tuple #[.int .u32 (((decide (sg b < sg c)).toNat : Nat) : Int), .nilIface]) ∧ w = w' := by
  have e2 := w32 hb
  have e3 := w32 hc
  go_enter Tryd.func69, Tryd.ntmps69
  go_wp2
  all_goals (go_ret2; refine ⟨ret_w ?_, rfl⟩; rename_i h; first | (rw [decide_eq_true (by omega)]; rfl) | (rw [decide_eq_false (by omega)]; rfl))

theorem test_eq (b c : Nat) (w : World) (hb : b < 4294967296) (hc : c < 4294967296) :
    Calls Tryd.prog 68 #[.int .i64 48, .int .u32 (b : Int), .int .u32 (c : Int)] w fun e w' => e = .returned (.tuple #[.bool ((b : Int) == (c : Int)), .nilIface]) ∧ w = w' := by
  have e2 := w32 hb
  have e3 := w32 hc
  go_enter Tryd.func68, Tryd.ntmps68
  go_wp2
  go_ret2
  exact ⟨rfl, rfl⟩

theorem test_ne (b c : Nat) (w : World) (hb : b < 4294967296) (hc : c < 4294967296) :
    Calls Tryd.prog 68 #[.int .i64 49, .int .u32 (b : Int), .int .u32 (c : Int)] w fun e w' => e = .returned (.tuple #[.bool ((b : Int) != (c : Int)), .nilIface]) ∧ w = w' := by
  have e2 := w32 hb
  have e3 := w32 hc
  go_enter Tryd.func68, Tryd.ntmps68
  go_wp2
  go_ret2
  exact ⟨rfl, rfl⟩

theorem test_ltu (b c : Nat) (w : World) (hb : b < 4294967296) (hc : c < 4294967296) :
    Calls Tryd.prog 68 #[.int .i64 50, .int .u32 (b : Int), .int .u32 (c : Int)] w fun e w' => e = .returned (.tuple #[.bool (decide (b < c)), .nilIface]) ∧ w = w' := by
  have e2 := w32 hb
  have e3 := w32 hc
  go_enter Tryd.func68, Tryd.ntmps68
  go_wp2
  go_ret2
  exact ⟨rfl, rfl⟩

theorem test_lts (b c : Nat) (w : World) (hb : b < 4294967296) (hc : c < 4294967296) :
    Calls Tryd.prog 68 #[.int .i64 51, .int .u32 (b : Int), .int .u32 (c : Int)] w fun e w' => e = .returned (.tuple #[.bool (decide (sg b < sg c)), .nilIface]) ∧ w = w' := by
  have e2 := w32 hb
  have e3 := w32 hc
  go_enter Tryd.func68, Tryd.ntmps68
  go_wp2
  go_ret2
  exact ⟨rfl, rfl⟩

theorem test_geu (b c : Nat) (w : World) (hb : b < 4294967296) (hc : c < 4294967296) :
    Calls Tryd.prog 68 #[.int .i64 52, .int .u32 (b : Int), .int .u32 (c : Int)] w fun e w' => e = .returned (.tuple #[.bool (decide (c ≤ b)), .nilIface]) ∧ w = w' := by
  have e2 := w32 hb
  have e3 := w32 hc
  go_enter Tryd.func68, Tryd.ntmps68
  go_wp2
  go_ret2
  exact ⟨rfl, rfl⟩

theorem test_ges (b c : Nat) (w : World) (hb : b < 4294967296) (hc : c < 4294967296) :
    Calls Tryd.prog 68 #[.int .i64 53, .int .u32 (b : Int), .int .u32 (c : Int)] w fun e w' => e = .returned (.tuple #[.bool (decide (sg c ≤ sg b)), .nilIface]) ∧ w = w' := by
  have e2 := w32 hb
  have e3 := w32 hc
  go_enter Tryd.func68, Tryd.ntmps68
  go_wp2
  go_ret2
  exact ⟨rfl, rfl⟩

end Go.Proofs.YtegkodgondlcmaaDoor
