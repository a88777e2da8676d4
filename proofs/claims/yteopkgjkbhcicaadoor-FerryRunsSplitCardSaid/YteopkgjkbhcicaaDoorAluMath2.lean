/-
  More of the plain mathematics of words: division with signs, shifts, fields, counted bits, turns. No Go in it.
-/
import Derived.Test.YteopkgjkbhcicaaDoorAluMath
namespace FerryAlu

theorem un_add (x y : Int) : (un x + un y) % 4294967296 = un (x + y) := by unfold un; omega
theorem un_nat {b : Nat} (h : b < 4294967296) : un (b : Int) = b := by unfold un; omega
theorem un_mod (b : Nat) : un (b : Int) = b % 4294967296 := by unfold un; omega
theorem un_congr {x y : Int} (h : x % 4294967296 = y % 4294967296) : un x = un y := by unfold un; rw [h]
theorem sg_mod (b : Nat) : sg b % 4294967296 = (b : Int) % 4294967296 := by unfold sg; split <;> omega

theorem un_mul (x : Int) (c : Nat) : (un x * c) % 4294967296 = un (x * sg c) := by
  have h : ((un x * c : Nat) : Int) % 4294967296 = (x * sg c) % 4294967296 := by
    rw [Int.natCast_mul, un_cast, Int.mul_emod, Int.emod_emod, ← Int.mul_emod, Int.mul_emod x (sg c), sg_mod, ← Int.mul_emod]
  rw [← un_mod]
  exact un_congr h

theorem divs_back {b : Nat} (c : Nat) (hb : b < 4294967296) : (un ((sg b).tdiv (sg c)) * c % 4294967296 + un ((sg b).tmod (sg c))) % 4294967296 = b := by
  rw [un_mul, un_add, Int.tdiv_mul_add_tmod, un_sg hb]

theorem tmod_size {a b : Int} (hb : b ≠ 0) : a.tmod b < (b.natAbs : Int) ∧ -(b.natAbs : Int) < a.tmod b := by
  have h := Int.natAbs_tmod a b
  have h2 : a.natAbs % b.natAbs < b.natAbs := Nat.mod_lt _ (by omega)
  omega
theorem tmod_sign {a b : Int} (h : a.tmod b ≠ 0) : a.tmod b < 0 ↔ a < 0 := by
  by_cases ha : 0 ≤ a
  · have := Int.tmod_nonneg b ha
    omega
  · have h1 := Int.neg_tmod (a := a) (b := b)
    have h2 := Int.tmod_nonneg b (show 0 ≤ -a by omega)
    omega
theorem tmod_range {a b : Int} (h1 : -2147483648 ≤ a) (h2 : a ≤ 2147483647) : -2147483648 ≤ a.tmod b ∧ a.tmod b ≤ 2147483647 := by
  have h := Int.natAbs_tmod a b
  have h3 : a.natAbs % b.natAbs ≤ a.natAbs := Nat.mod_le _ _
  by_cases ha : 0 ≤ a
  · have := Int.tmod_nonneg b ha
    omega
  · have h4 := Int.neg_tmod (a := a) (b := b)
    have h5 := Int.tmod_nonneg b (show 0 ≤ -a by omega)
    omega

/-- How many bits are 1. -/
def pop : Nat → Nat → Nat
  | 0, _ => 0
  | k + 1, n => n % 2 + pop k (n / 2)
theorem pop_add (j k a b : Nat) (hb : b < 2 ^ j) : pop (j + k) (a * 2 ^ j + b) = pop j b + pop k a := by
  induction j generalizing b with
  | zero => simp at hb; subst hb; simp [pop]
  | succ j ih =>
    rw [show j + 1 + k = (j + k) + 1 by omega, pop, pop, Nat.pow_succ]
    have e1 : (a * (2 ^ j * 2) + b) % 2 = b % 2 := by rw [← Nat.mul_assoc]; omega
    have e2 : (a * (2 ^ j * 2) + b) / 2 = a * 2 ^ j + b / 2 := by rw [← Nat.mul_assoc]; omega
    rw [e1, e2, ih (b / 2) (by rw [Nat.pow_succ] at hb; omega)]
    omega
theorem pop_cut (j k n : Nat) : pop (j + k) n = pop j (n % 2 ^ j) + pop k (n / 2 ^ j) := by
  have h := pop_add j k (n / 2 ^ j) (n % 2 ^ j) (Nat.mod_lt _ (Nat.two_pow_pos j))
  rw [Nat.mul_comm, Nat.div_add_mod] at h
  exact h
theorem pop_comm (j k a b : Nat) (hb : b < 2 ^ j) (ha : a < 2 ^ k) : pop (j + k) (a * 2 ^ j + b) = pop (k + j) (b * 2 ^ k + a) := by
  rw [pop_add j k a b hb, pop_add k j b a ha, Nat.add_comm]
theorem pop_le (k n : Nat) : pop k n ≤ k := by
  induction k generalizing n with
  | zero => simp [pop]
  | succ k ih => rw [pop]; have := ih (n / 2); omega

/-- The word turned to the left by j bits, j from 0 to 32. -/
def rot (x j : Nat) : Nat := x % 2 ^ (32 - j) * 2 ^ j + x / 2 ^ (32 - j)
theorem div_lt_of {x a b : Nat} (h : x < a * b) : x / a < b := by
  rcases Nat.eq_zero_or_pos a with h0 | h0
  · subst h0; simp at h
  · exact (Nat.div_lt_iff_lt_mul h0).2 (by rw [Nat.mul_comm]; exact h)
theorem two_split {j : Nat} (hj : j ≤ 32) : 2 ^ (32 - j) * 2 ^ j = 4294967296 := by
  rw [← Nat.pow_add, show 32 - j + j = 32 by omega]
theorem high_lt {x j : Nat} (hx : x < 4294967296) (hj : j ≤ 32) : x / 2 ^ (32 - j) < 2 ^ j :=
  div_lt_of (by rw [two_split hj]; exact hx)
theorem rot_lt {x j : Nat} (hx : x < 4294967296) (hj : j ≤ 32) : rot x j < 4294967296 := by
  unfold rot
  have h1 : x % 2 ^ (32 - j) < 2 ^ (32 - j) := Nat.mod_lt _ (Nat.two_pow_pos _)
  have h2 := high_lt hx hj
  have h3 : (x % 2 ^ (32 - j) + 1) * 2 ^ j ≤ 2 ^ (32 - j) * 2 ^ j := Nat.mul_le_mul_right _ h1
  rw [two_split hj, Nat.add_mul] at h3
  omega
theorem rot_zero {x : Nat} (hx : x < 4294967296) : rot x 0 = x := by
  unfold rot
  rw [Nat.mod_eq_of_lt (by simpa using hx), Nat.div_eq_of_lt (by simpa using hx)]
  simp
theorem rot_back {x j : Nat} (hx : x < 4294967296) (hj : j ≤ 32) : rot (rot x j) (32 - j) = x := by
  have h2 := high_lt hx hj
  have e : rot (rot x j) (32 - j) = rot x j % 2 ^ j * 2 ^ (32 - j) + rot x j / 2 ^ j := by
    show rot x j % 2 ^ (32 - (32 - j)) * 2 ^ (32 - j) + rot x j / 2 ^ (32 - (32 - j)) = _
    rw [show 32 - (32 - j) = j by omega]
  rw [e]
  have e1 : rot x j % 2 ^ j = x / 2 ^ (32 - j) := by
    unfold rot
    rw [Nat.mul_add_mod_self_right, Nat.mod_eq_of_lt h2]
  have e2 : rot x j / 2 ^ j = x % 2 ^ (32 - j) := by
    unfold rot
    rw [Nat.mul_comm, Nat.mul_add_div (Nat.two_pow_pos j), Nat.div_eq_of_lt h2, Nat.add_zero]
  rw [e1, e2, Nat.mul_comm, Nat.div_add_mod]
theorem rot_pop {x j : Nat} (hx : x < 4294967296) (hj : j ≤ 32) : pop 32 (rot x j) = pop 32 x := by
  have h2 := high_lt hx hj
  have h1 : x % 2 ^ (32 - j) < 2 ^ (32 - j) := Nat.mod_lt _ (Nat.two_pow_pos _)
  have h := pop_comm j (32 - j) _ _ h2 h1
  rw [show j + (32 - j) = 32 by omega, show 32 - j + j = 32 by omega, Nat.mul_comm (x / 2 ^ (32 - j)), Nat.div_add_mod] at h
  exact h
end FerryAlu
