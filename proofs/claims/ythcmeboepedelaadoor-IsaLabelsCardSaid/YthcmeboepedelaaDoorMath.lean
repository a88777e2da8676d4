/-
  The plain mathematics of the check sum, over natural numbers: one bit's move, eight of them, and that the table's way is the bit's way. No Go in it.
-/
namespace FerryCrc

def poly : Nat := 3988292384
def bit1 (r : Nat) : Nat := if r % 2 = 1 then (r / 2) ^^^ poly else r / 2
def bitsN : Nat → Nat → Nat
  | 0, r => r
  | n + 1, r => bitsN n (bit1 r)
def mv (r c : Nat) : Nat := bitsN 8 (r ^^^ c)
def mvs (r : Nat) (l : List Nat) : Nat := l.foldl mv r
def tab (i : Nat) : Nat := bitsN 8 i

theorem bitsN_succ (n r : Nat) : bitsN (n + 1) r = bit1 (bitsN n r) := by
  induction n generalizing r with
  | zero => rfl
  | succ n ih => rw [bitsN, ih]; rfl

theorem xor_lt32 {a b : Nat} (ha : a < 4294967296) (hb : b < 4294967296) : a ^^^ b < 4294967296 :=
  Nat.xor_lt_two_pow (n := 32) ha hb

theorem bit1_lt {r : Nat} (h : r < 4294967296) : bit1 r < 4294967296 := by
  unfold bit1
  split
  · exact xor_lt32 (by omega) (by decide)
  · omega

theorem bitsN_lt {n r : Nat} (h : r < 4294967296) : bitsN n r < 4294967296 := by
  induction n generalizing r with
  | zero => exact h
  | succ n ih => exact ih (bit1_lt h)

theorem mv_lt {r c : Nat} (h : r < 4294967296) (hc : c < 256) : mv r c < 4294967296 :=
  bitsN_lt (xor_lt32 h (by omega))

theorem mvs_lt {r : Nat} {l : List Nat} (h : r < 4294967296) (hl : ∀ c ∈ l, c < 256) : mvs r l < 4294967296 := by
  induction l generalizing r with
  | nil => exact h
  | cons c l ih => exact ih (mv_lt h (hl c (by simp))) (fun x hx => hl x (by simp [hx]))

theorem xor_mod2 (a b : Nat) : (a ^^^ b) % 2 = (a % 2 + b % 2) % 2 := by
  have h : ((a ^^^ b) % 2 = 1) ↔ ¬ ((a % 2 = 1) ↔ (b % 2 = 1)) := Nat.xor_mod_two_eq_one
  omega

theorem bit1_xor (a b : Nat) : bit1 (a ^^^ b) = bit1 a ^^^ bit1 b := by
  unfold bit1
  rw [Nat.xor_div_two, xor_mod2]
  rcases Nat.mod_two_eq_zero_or_one a with ha | ha <;> rcases Nat.mod_two_eq_zero_or_one b with hb | hb <;> simp [ha, hb]
  · rw [Nat.xor_assoc]
  · rw [Nat.xor_assoc, Nat.xor_assoc, Nat.xor_comm poly]
  · rw [Nat.xor_assoc, Nat.xor_comm poly (b / 2 ^^^ poly), Nat.xor_assoc, Nat.xor_self, Nat.xor_zero]

theorem bitsN_xor (n a b : Nat) : bitsN n (a ^^^ b) = bitsN n a ^^^ bitsN n b := by
  induction n generalizing a b with
  | zero => rfl
  | succ n ih => rw [bitsN, bitsN, bitsN, bit1_xor, ih]

theorem bit1_two (m : Nat) : bit1 (2 * m) = m := by
  unfold bit1
  rw [if_neg (by omega)]
  omega

theorem bitsN_pow (n m : Nat) : bitsN n (2 ^ n * m) = m := by
  induction n with
  | zero => simp [bitsN]
  | succ n ih => rw [bitsN, Nat.pow_succ, show 2 ^ n * 2 * m = 2 * (2 ^ n * m) by rw [Nat.mul_comm (2 ^ n) 2, Nat.mul_assoc], bit1_two, ih]

theorem low_high (r : Nat) : r = (r % 256) ^^^ (256 * (r / 256)) := by
  apply Nat.eq_of_testBit_eq
  intro i
  rw [Nat.testBit_xor, show (256 : Nat) = 2 ^ 8 by decide, Nat.testBit_mod_two_pow, Nat.testBit_two_pow_mul, Nat.testBit_div_two_pow]
  by_cases h : i < 8
  · simp [h, show ¬ 8 ≤ i by omega]
  · simp [h, show 8 ≤ i by omega]

theorem tab_way (r c : Nat) : tab ((r % 256) ^^^ c) ^^^ (r / 256) = mv r c := by
  unfold tab mv
  have e : r ^^^ c = ((r % 256) ^^^ c) ^^^ (2 ^ 8 * (r / 256)) := by
    have h := low_high r
    rw [Nat.xor_assoc, Nat.xor_comm c, ← Nat.xor_assoc]
    show r ^^^ c = (r % 256 ^^^ 256 * (r / 256)) ^^^ c
    rw [← h]
  rw [e, bitsN_xor 8 (r % 256 ^^^ c), bitsN_pow]

theorem mvs_snoc (r : Nat) (l : List Nat) (c : Nat) : mvs r (l ++ [c]) = mv (mvs r l) c := by
  simp [mvs]

end FerryCrc
