/-
  The plain mathematics of words of 32 bits: numbers with a sign, the logical operations and sums. No Go in it.
-/
namespace FerryAlu

/-- The number with a sign that the word stands for. -/
def sg (b : Nat) : Int := if b < 2147483648 then (b : Int) else (b : Int) - 4294967296
/-- The word of a number. -/
def un (z : Int) : Nat := (z % 4294967296).toNat

theorem un_lt (z : Int) : un z < 4294967296 := by unfold un; omega
theorem un_cast (z : Int) : ((un z : Nat) : Int) = z % 4294967296 := by unfold un; omega
theorem un_sg {b : Nat} (h : b < 4294967296) : un (sg b) = b := by unfold un sg; split <;> omega
theorem sg_ge (b : Nat) : -2147483648 ≤ sg b := by unfold sg; split <;> omega
theorem sg_le {b : Nat} (h : b < 4294967296) : sg b ≤ 2147483647 := by unfold sg; split <;> omega
theorem sg_inj {a b : Nat} (ha : a < 4294967296) (hb : b < 4294967296) (h : sg a = sg b) : a = b := by
  rw [← un_sg ha, ← un_sg hb, h]
theorem sg_zero {b : Nat} (hb : b < 4294967296) : sg b = 0 ↔ b = 0 := by unfold sg; split <;> omega
theorem sg_un {z : Int} (h1 : -2147483648 ≤ z) (h2 : z ≤ 2147483647) : sg (un z) = z := by unfold un sg; split <;> omega

theorem and_bit (a b : Nat) : (a &&& b) % 2 = (a % 2) * (b % 2) := by
  have h : ((a &&& b) % 2 = 1) ↔ (a % 2 = 1 ∧ b % 2 = 1) := Nat.and_mod_two_eq_one
  rcases Nat.mod_two_eq_zero_or_one a with ha | ha <;> rcases Nat.mod_two_eq_zero_or_one b with hb | hb <;> rcases Nat.mod_two_eq_zero_or_one (a &&& b) with hc | hc <;> simp [ha, hb, hc] at h ⊢
theorem or_bit (a b : Nat) : (a ||| b) % 2 = a % 2 + b % 2 - (a % 2) * (b % 2) := by
  have h : ((a ||| b) % 2 = 1) ↔ (a % 2 = 1 ∨ b % 2 = 1) := Nat.or_mod_two_eq_one
  rcases Nat.mod_two_eq_zero_or_one a with ha | ha <;> rcases Nat.mod_two_eq_zero_or_one b with hb | hb <;> rcases Nat.mod_two_eq_zero_or_one (a ||| b) with hc | hc <;> simp [ha, hb, hc] at h ⊢
theorem xor_bit (a b : Nat) : (a ^^^ b) % 2 = a % 2 + b % 2 - 2 * ((a % 2) * (b % 2)) := by
  have h : ((a ^^^ b) % 2 = 1) ↔ ¬ ((a % 2 = 1) ↔ (b % 2 = 1)) := Nat.xor_mod_two_eq_one
  rcases Nat.mod_two_eq_zero_or_one a with ha | ha <;> rcases Nat.mod_two_eq_zero_or_one b with hb | hb <;> rcases Nat.mod_two_eq_zero_or_one (a ^^^ b) with hc | hc <;> simp [ha, hb, hc] at h ⊢

theorem or_is (a b : Nat) : (a ||| b) = (a &&& b) + (a ^^^ b) := by
  induction a using Nat.strongRecOn generalizing b with
  | ind a ih =>
    by_cases h0 : a = 0
    · subst h0; simp
    · have := ih (a / 2) (by omega) (b / 2)
      rw [← Nat.or_div_two, ← Nat.and_div_two, ← Nat.xor_div_two] at this
      have h1 := and_bit a b
      have h2 := or_bit a b
      have h3 := xor_bit a b
      rcases Nat.mod_two_eq_zero_or_one a with ha | ha <;> rcases Nat.mod_two_eq_zero_or_one b with hb | hb <;> simp only [ha, hb] at h1 h2 h3 <;> omega

theorem sum_is (a b : Nat) : a + b = 2 * (a &&& b) + (a ^^^ b) := by
  induction a using Nat.strongRecOn generalizing b with
  | ind a ih =>
    by_cases h0 : a = 0
    · subst h0; simp
    · have := ih (a / 2) (by omega) (b / 2)
      rw [← Nat.and_div_two, ← Nat.xor_div_two] at this
      have h1 := and_bit a b
      have h3 := xor_bit a b
      rcases Nat.mod_two_eq_zero_or_one a with ha | ha <;> rcases Nat.mod_two_eq_zero_or_one b with hb | hb <;> simp only [ha, hb] at h1 h3 <;> omega

theorem and_xor (a b : Nat) : (a &&& b) &&& (a ^^^ b) = 0 := by
  apply Nat.eq_of_testBit_eq
  intro i
  simp only [Nat.testBit_and, Nat.testBit_xor, Nat.zero_testBit]
  cases a.testBit i <;> cases b.testBit i <;> rfl
theorem xor_xor (a b : Nat) : (a ^^^ b) ^^^ b = a := by rw [Nat.xor_assoc, Nat.xor_self, Nat.xor_zero]

end FerryAlu
