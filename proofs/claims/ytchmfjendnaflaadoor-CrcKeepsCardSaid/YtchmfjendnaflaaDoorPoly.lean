/-
  More of the plain mathematics: the product of two registers as polynomials, bit by bit; that moving on by many bits is such a product; the measure of its loop.
-/
import Derived.Test.YtchmfjendnaflaaDoorBits
namespace FerryCrc

/-- The product's first k summands: the power i is bit 31 - i. -/
def T : Nat → Nat → Nat → Nat
  | 0, _, _ => 0
  | k + 1, a, b => T k a b ^^^ (if b.testBit (31 - k) then bitsN k a else 0)
def tms (a b : Nat) : Nat := T 32 a b

theorem T_xor_right (k a b c : Nat) : T k a (b ^^^ c) = T k a b ^^^ T k a c := by
  induction k with
  | zero => simp [T]
  | succ k ih =>
    rw [T, T, T, ih, Nat.testBit_xor]
    generalize T k a b = x
    generalize T k a c = y
    generalize bitsN k a = z
    cases b.testBit (31 - k) <;> cases c.testBit (31 - k) <;> simp
    · rw [Nat.xor_assoc]
    · rw [Nat.xor_assoc, Nat.xor_comm y, ← Nat.xor_assoc]
    · rw [Nat.xor_assoc, Nat.xor_comm z (y ^^^ z), Nat.xor_assoc y, Nat.xor_self, Nat.xor_zero]

theorem T_xor_left (k a b c : Nat) : T k (a ^^^ b) c = T k a c ^^^ T k b c := by
  induction k with
  | zero => simp [T]
  | succ k ih =>
    rw [T, T, T, ih, bitsN_xor]
    generalize T k a c = x
    generalize T k b c = y
    cases c.testBit (31 - k) <;> simp
    rw [Nat.xor_assoc, ← Nat.xor_assoc y, Nat.xor_comm y, Nat.xor_assoc (bitsN k a), ← Nat.xor_assoc x]

theorem T_zero_left (k b : Nat) : T k 0 b = 0 := by
  have h := T_xor_left k 0 0 b
  simp at h
  exact h
theorem T_zero_right (k a : Nat) : T k a 0 = 0 := by
  have h := T_xor_right k a 0 0
  simp at h
  exact h

theorem ext32 (f g : Nat → Nat) (hf : ∀ x y, f (x ^^^ y) = f x ^^^ f y) (hg : ∀ x y, g (x ^^^ y) = g x ^^^ g y) (h : ∀ j, j < 32 → f (2 ^ j) = g (2 ^ j)) :
    ∀ x, x < 4294967296 → f x = g x := by
  have f0 : f 0 = 0 := by have := hf 0 0; simp at this; exact this
  have g0 : g 0 = 0 := by have := hg 0 0; simp at this; exact this
  have key : ∀ k, k ≤ 32 → ∀ x, f (x % 2 ^ k) = g (x % 2 ^ k) := by
    intro k
    induction k with
    | zero => intro _ x; rw [Nat.pow_zero, Nat.mod_one, f0, g0]
    | succ k ih =>
      intro hk x
      rw [mod_succ_bit, hf, hg, ih (by omega) x]
      split
      · rw [h k (by omega)]
      · rw [f0, g0]
  intro x hx
  have := key 32 (Nat.le_refl _) x
  rwa [Nat.mod_eq_of_lt (show x < 2 ^ 32 from hx)] at this

theorem T_pow (k a j : Nat) (hj : j < 32) (hk : k ≤ 32) : T k a (2 ^ j) = if 31 - j < k then bitsN (31 - j) a else 0 := by
  induction k with
  | zero => simp [T]
  | succ k ih =>
    rw [T, ih (by omega), Nat.testBit_two_pow]
    by_cases h2 : j = 31 - k
    · have e : 31 - j = k := by omega
      rw [e]
      simp [h2]
    · have h3 : decide (j = 31 - k) = false := by simp [h2]
      rw [h3]
      by_cases h1 : 31 - j < k
      · rw [if_pos h1, if_pos (by omega : 31 - j < k + 1)]
        simp
      · rw [if_neg h1, if_neg (by omega : ¬ 31 - j < k + 1)]
        simp

theorem tms_pow (a j : Nat) (hj : j < 32) : tms a (2 ^ j) = bitsN (31 - j) a := by
  unfold tms
  rw [T_pow 32 a j hj (Nat.le_refl _), if_pos (by omega)]

theorem bit1_pow (j : Nat) : bit1 (2 ^ (j + 1)) = 2 ^ j := by
  rw [Nat.pow_succ, Nat.mul_comm]
  exact bit1_two _
theorem bit1_one : bit1 1 = poly := by decide

theorem tms_poly_basis : ∀ m, m < 32 → tms (2 ^ m) poly = bitsN 32 (2 ^ m) := by decide +kernel

theorem tms_poly (a : Nat) (h : a < 4294967296) : tms a poly = bitsN 32 a :=
  ext32 (fun a => tms a poly) (fun a => bitsN 32 a) (fun x y => T_xor_left 32 x y poly) (fun x y => bitsN_xor 32 x y) tms_poly_basis a h

theorem tms_bit1 (a b : Nat) (ha : a < 4294967296) (hb : b < 4294967296) : tms a (bit1 b) = bit1 (tms a b) := by
  refine ext32 (fun b => tms a (bit1 b)) (fun b => bit1 (tms a b)) ?_ ?_ ?_ b hb
  · intro x y; show tms a (bit1 (x ^^^ y)) = _; rw [bit1_xor]; exact T_xor_right 32 a _ _
  · intro x y
    show bit1 (T 32 a (x ^^^ y)) = bit1 (T 32 a x) ^^^ bit1 (T 32 a y)
    rw [T_xor_right, bit1_xor]
  · intro j hj
    show tms a (bit1 (2 ^ j)) = bit1 (tms a (2 ^ j))
    rw [tms_pow a j hj, ← bitsN_succ]
    cases j with
    | zero => rw [Nat.pow_zero, bit1_one, tms_poly a ha]
    | succ j => rw [bit1_pow, tms_pow a j (by omega), show 31 - (j + 1) + 1 = 31 - j by omega]

theorem tms_bitsN (s a b : Nat) (ha : a < 4294967296) (hb : b < 4294967296) : tms a (bitsN s b) = bitsN s (tms a b) := by
  induction s generalizing b with
  | zero => rfl
  | succ s ih => rw [bitsN, ih _ (bit1_lt hb), tms_bit1 a b ha hb]; rfl

/-- The register that multiplies by the power s. -/
def pw (s : Nat) : Nat := bitsN s 2147483648
theorem pw_lt (s : Nat) : pw s < 4294967296 := bitsN_lt (by decide)
theorem tms_pw (s a : Nat) (ha : a < 4294967296) : tms a (pw s) = bitsN s a := by
  unfold pw
  rw [tms_bitsN s a _ ha (by decide)]
  congr 1
  exact tms_pow a 31 (by decide)
theorem pw_pw (s : Nat) : tms (pw s) (pw s) = pw (2 * s) := by
  rw [tms_pw s _ (pw_lt s)]
  unfold pw
  rw [← bitsN_add]
  congr 1
  omega
theorem pw_eight : pw 8 = 8388608 := by decide

/-- How many rounds the product's loop still takes. -/
def stp : Nat → Nat → Nat
  | 0, _ => 0
  | f + 1, b => if b = 0 then 0 else 1 + stp f (b * 2 % 4294967296)
theorem stp_more (f c : Nat) (hc : c < 4294967296) (h : c * 2 ^ f % 4294967296 = 0) : stp (f + 1) c = stp f c := by
  induction f generalizing c with
  | zero => simp at h; have : c = 0 := by omega
            subst this; rfl
  | succ f ih =>
    rw [stp]
    by_cases h0 : c = 0
    · subst h0; simp [stp]
    · rw [if_neg h0]
      conv => rhs; rw [stp]
      rw [if_neg h0, ih (c * 2 % 4294967296) (by omega)]
      rw [Nat.mod_mul_mod, Nat.mul_assoc, ← Nat.pow_succ']
      exact h
def mu (b : Nat) : Nat := stp 33 b
theorem mu_less (b : Nat) (h0 : b ≠ 0) : mu (b * 2 % 4294967296) < mu b := by
  unfold mu
  have h : stp 33 b = 1 + stp 32 (b * 2 % 4294967296) := by rw [stp, if_neg h0]
  rw [h, stp_more 32 _ (by omega) (by simp)]
  omega

theorem top_bit (b k : Nat) (hk : k < 32) : (b * 2 ^ k % 4294967296 / 2147483648 = 1) ↔ b.testBit (31 - k) = true := by
  have e : b * 2 ^ k % 4294967296 / 2147483648 = (b / 2 ^ (31 - k)) % 2 := by
    have h1 : b * 2 ^ k % 4294967296 / 2147483648 = b * 2 ^ k / 2147483648 % 2 := by omega
    rw [h1, show (2147483648 : Nat) = 2 ^ k * 2 ^ (31 - k) by rw [← Nat.pow_add, show k + (31 - k) = 31 by omega], ← Nat.div_div_eq_div_mul, Nat.mul_div_cancel _ (Nat.two_pow_pos k)]
  rw [e, Nat.testBit_eq_decide_div_mod_eq]
  simp

theorem T_rest (a b k : Nat) (hk : k ≤ 32) (h0 : b * 2 ^ k % 4294967296 = 0) : T 32 a b = T k a b := by
  have key : ∀ j, k + j ≤ 32 → T (k + j) a b = T k a b := by
    intro j
    induction j with
    | zero => intro _; rfl
    | succ j ih =>
      intro hj
      rw [show k + (j + 1) = (k + j) + 1 by omega, T, ih (by omega)]
      have hz : b * 2 ^ (k + j) % 4294967296 = 0 := by
        rw [Nat.pow_add, ← Nat.mul_assoc, ← Nat.mod_mul_mod, h0]
        simp
      have hn : b.testBit (31 - (k + j)) = false := by
        have := top_bit b (k + j) (by omega)
        rw [hz] at this
        simpa using this
      rw [hn]
      simp
  have := key (32 - k) (by omega)
  rwa [show k + (32 - k) = 32 by omega] at this

theorem T_lt {k a b : Nat} (ha : a < 4294967296) : T k a b < 4294967296 := by
  induction k with
  | zero => simp [T]
  | succ k ih =>
    rw [T]
    refine xor_lt32 ih ?_
    split
    · exact bitsN_lt ha
    · decide

end FerryCrc
