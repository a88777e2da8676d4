/-
  More of the plain mathematics: bytes as one number, lowest byte first; the sum as moves of that number; a turned bit; that one burst never leaves the sum as it was.
-/
import Derived.Test.YthcmeboepedelaaDoorMath
namespace FerryCrc

def num : List Nat → Nat
  | [] => 0
  | c :: l => c ^^^ (num l <<< 8)

theorem bitsN_add (m n r : Nat) : bitsN (m + n) r = bitsN n (bitsN m r) := by
  induction m generalizing r with
  | zero => simp [bitsN]
  | succ m ih => rw [show m + 1 + n = (m + n) + 1 by omega, bitsN, ih]; rfl

theorem bitsN_shift (n m : Nat) : bitsN n (m <<< n) = m := by
  rw [Nat.shiftLeft_eq, Nat.mul_comm]
  exact bitsN_pow n m

theorem mvs_num (r : Nat) (l : List Nat) : mvs r l = bitsN (8 * l.length) (r ^^^ num l) := by
  induction l generalizing r with
  | nil => simp [mvs, bitsN, num]
  | cons c l ih =>
    have h : mvs r (c :: l) = mvs (mv r c) l := rfl
    rw [h, ih, List.length_cons, show 8 * (l.length + 1) = 8 + 8 * l.length by omega, bitsN_add]
    congr 1
    rw [num, ← Nat.xor_assoc, bitsN_xor, bitsN_shift]
    rfl

theorem bit1_zero {r : Nat} (h : r < 4294967296) (e : bit1 r = 0) : r = 0 := by
  unfold bit1 at e
  split at e
  · have h1 : r / 2 = poly := by
      have := congrArg (fun x => x ^^^ poly) e
      simpa [Nat.xor_assoc] using this
    have h2 : poly = 3988292384 := rfl
    omega
  · omega

theorem bitsN_zero {n r : Nat} (h : r < 4294967296) (e : bitsN n r = 0) : r = 0 := by
  induction n generalizing r with
  | zero => exact e
  | succ n ih => exact bit1_zero h (ih (bit1_lt h) e)

/-- The bytes with bit p turned. -/
def flipB (l : List Nat) (p : Nat) : List Nat := l.set (p / 8) (l[p / 8]?.getD 0 ^^^ 2 ^ (p % 8))

theorem flip_length (l : List Nat) (p : Nat) : (flipB l p).length = l.length := by simp [flipB]

theorem pow_lt8 (p : Nat) : 2 ^ (p % 8) < 2 ^ 8 := Nat.pow_lt_pow_right (by decide) (by omega)

theorem flip_small {l : List Nat} {p : Nat} (h : ∀ c ∈ l, c < 256) : ∀ c ∈ flipB l p, c < 256 := by
  intro c hc
  unfold flipB at hc
  rcases List.mem_or_eq_of_mem_set hc with hc | hc
  · exact h c hc
  · subst hc
    have h0 : l[p / 8]?.getD 0 < 2 ^ 8 := by
      cases e : l[p / 8]? with
      | none => simp
      | some x => exact h x (List.mem_of_getElem? e)
    exact Nat.xor_lt_two_pow h0 (pow_lt8 p)

theorem num_flip (l : List Nat) (p : Nat) (hp : p < 8 * l.length) : num (flipB l p) = num l ^^^ 2 ^ p := by
  induction l generalizing p with
  | nil => simp at hp
  | cons c l ih =>
    by_cases h : p < 8
    · have e1 : p / 8 = 0 := by omega
      have e2 : p % 8 = p := by omega
      simp [flipB, e1, e2, num]
      rw [Nat.xor_assoc, Nat.xor_comm (2 ^ p), ← Nat.xor_assoc]
    · have e1 : p / 8 = (p - 8) / 8 + 1 := by omega
      have e2 : p % 8 = (p - 8) % 8 := by omega
      have e3 : flipB (c :: l) p = c :: flipB l (p - 8) := by simp [flipB, e1, e2]
      have e4 : 2 ^ p = (2 ^ (p - 8)) <<< 8 := by
        rw [Nat.shiftLeft_eq, ← Nat.pow_add]
        congr 1
        omega
      rw [e3, num, ih (p - 8) (by simp at hp; omega), num, Nat.shiftLeft_xor_distrib, e4, Nat.xor_assoc]

/-- The bytes with the first k bits of the mask turned, from bit 'at' on. -/
def turnTo (l : List Nat) (pos mask : Nat) : Nat → List Nat
  | 0 => l
  | k + 1 => if mask.testBit k then flipB (turnTo l pos mask k) (pos + k) else turnTo l pos mask k

theorem turnTo_length (l : List Nat) (pos mask k : Nat) : (turnTo l pos mask k).length = l.length := by
  induction k with
  | zero => rfl
  | succ k ih => rw [turnTo]; split <;> simp [flip_length, ih]

theorem turnTo_small {l : List Nat} (pos mask k : Nat) (h : ∀ c ∈ l, c < 256) : ∀ c ∈ turnTo l pos mask k, c < 256 := by
  induction k with
  | zero => exact h
  | succ k ih => rw [turnTo]; split; exact flip_small ih; exact ih

theorem mod_succ_bit (m k : Nat) : m % 2 ^ (k + 1) = (m % 2 ^ k) ^^^ (if m.testBit k then 2 ^ k else 0) := by
  apply Nat.eq_of_testBit_eq
  intro i
  rw [Nat.testBit_xor, Nat.testBit_mod_two_pow, Nat.testBit_mod_two_pow]
  by_cases h : m.testBit k
  · rw [if_pos h, Nat.testBit_two_pow]
    by_cases e : k = i
    · subst e; simp [h]
    · by_cases h1 : i < k
      · simp [h1, show i < k + 1 by omega, e]
      · simp [h1, show ¬ i < k + 1 by omega, e]
  · rw [if_neg h]
    by_cases e : i = k
    · subst e; simp at h; simp [h]
    · by_cases h1 : i < k
      · simp [h1, show i < k + 1 by omega]
      · simp [h1, show ¬ i < k + 1 by omega]

theorem num_turnTo (l : List Nat) (pos mask k : Nat) (h : ∀ i, i < k → mask.testBit i = true → pos + i < 8 * l.length) :
    num (turnTo l pos mask k) = num l ^^^ ((mask % 2 ^ k) <<< pos) := by
  induction k with
  | zero => simp [turnTo, Nat.mod_one]
  | succ k ih =>
    have ih' := ih (fun i hi => h i (by omega))
    rw [turnTo, mod_succ_bit, Nat.shiftLeft_xor_distrib]
    by_cases hb : mask.testBit k
    · rw [if_pos hb, if_pos hb, num_flip _ _ (by rw [turnTo_length]; exact h k (by omega) hb), ih', Nat.xor_assoc]
      congr 2
      rw [Nat.shiftLeft_eq, ← Nat.pow_add, Nat.add_comm]
    · rw [if_neg hb, if_neg hb, ih']
      simp

def sumOf (l : List Nat) : Nat := mvs 4294967295 l ^^^ 4294967295
def moreOf (r : Nat) (l : List Nat) : Nat := mvs (r ^^^ 4294967295) l ^^^ 4294967295

theorem xor_cancel {a b c : Nat} (h : a ^^^ c = b ^^^ c) : a = b := by
  have := congrArg (fun x => x ^^^ c) h
  simpa [Nat.xor_assoc] using this

/-- Two lists that differ by one burst have unlike sums. -/
theorem apart {l l' : List Nat} {pos mask : Nat} (hl : l'.length = l.length) (hn : num l' = num l ^^^ (mask <<< pos)) (h0 : mask ≠ 0) (hm : mask < 4294967296) (hp : pos ≤ 8 * l.length) :
    sumOf l' ≠ sumOf l := by
  intro e
  have e1 := xor_cancel e
  rw [mvs_num, mvs_num, hl, hn, ← Nat.xor_assoc, bitsN_xor] at e1
  have e2 : bitsN (8 * l.length) (mask <<< pos) = 0 := by
    have := congrArg (fun x => bitsN (8 * l.length) (4294967295 ^^^ num l) ^^^ x) e1
    simp only [← Nat.xor_assoc, Nat.xor_self, Nat.zero_xor] at this
    exact this
  rw [show 8 * l.length = pos + (8 * l.length - pos) by omega, bitsN_add, bitsN_shift] at e2
  exact h0 (bitsN_zero hm e2)

end FerryCrc
