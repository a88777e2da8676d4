/-
  The plain mathematics of Burst: bytes as one number, bit by bit.
-/
import Derived.Test.YtchmfjendnaflaaDoorBurst
import Derived.Test.YtchmfjendnaflaaDoorTurn
namespace FerryCrc

theorem num_bit {l : List Nat} (h : ∀ c ∈ l, c < 256) (i j : Nat) (hj : j < 8) : (num l).testBit (8 * i + j) = (l[i]?.getD 0).testBit j := by
  induction l generalizing i with
  | nil => simp [num]
  | cons c l ih =>
    have hc : c < 256 := h c (by simp)
    rw [num, Nat.testBit_xor, Nat.testBit_shiftLeft]
    cases i with
    | zero =>
      have : ¬ (8 ≤ j) := by omega
      simp [this]
    | succ i =>
      rw [Nat.testBit_lt_two_pow (Nat.lt_of_lt_of_le (show c < 2 ^ 8 from hc) (Nat.pow_le_pow_right (by decide) (by omega)))]
      have e : 8 * (i + 1) + j - 8 = 8 * i + j := by omega
      rw [e, ih (fun c hc => h c (by simp [hc]))]
      have : 8 ≤ 8 * (i + 1) + j := by omega
      simp [this]

theorem split8 (q : Nat) : q = 8 * (q / 8) + q % 8 := by omega

theorem dif_bit {l r : List Nat} (hl : ∀ c ∈ l, c < 256) (hr : ∀ c ∈ r, c < 256) (q : Nat) : (num l ^^^ num r).testBit q = (dif l r (q / 8)).testBit (q % 8) := by
  have h8 : q % 8 < 8 := Nat.mod_lt _ (by decide)
  rw [Nat.testBit_xor]
  unfold dif
  rw [Nat.testBit_xor, ← num_bit hl _ _ h8, ← num_bit hr _ _ h8, ← split8]

theorem num_inj {l r : List Nat} (hl : ∀ c ∈ l, c < 256) (hr : ∀ c ∈ r, c < 256) (hn : l.length = r.length) (h : num l = num r) : l = r := by
  apply List.ext_getElem? 
  intro i
  by_cases hi : i < l.length
  · have hi2 : i < r.length := by omega
    rw [List.getElem?_eq_getElem hi, List.getElem?_eq_getElem hi2]
    congr 1
    have l1 : l[i] < 256 := hl _ (List.getElem_mem hi)
    have l2 : r[i] < 256 := hr _ (List.getElem_mem hi2)
    apply Nat.eq_of_testBit_eq
    intro j
    by_cases hj : j < 8
    · have a := num_bit hl i j hj
      have b := num_bit hr i j hj
      rw [List.getElem?_eq_getElem hi] at a
      rw [List.getElem?_eq_getElem hi2] at b
      simp only [Option.getD_some] at a b
      rw [← a, ← b, h]
    · rw [Nat.testBit_lt_two_pow (Nat.lt_of_lt_of_le (show l[i] < 2 ^ 8 from l1) (Nat.pow_le_pow_right (by decide) (by omega))), Nat.testBit_lt_two_pow (Nat.lt_of_lt_of_le (show r[i] < 2 ^ 8 from l2) (Nat.pow_le_pow_right (by decide) (by omega)))]
  · rw [List.getElem?_eq_none (by omega), List.getElem?_eq_none (by omega)]

theorem gat_bit {l r : List Nat} (hl : ∀ c ∈ l, c < 256) (hr : ∀ c ∈ r, c < 256) (f k q : Nat) : (gat l r f k).testBit q = (decide (q / 8 < k) && (dif l r (f + q / 8)).testBit (q % 8)) := by
  induction k with
  | zero => simp [gat]
  | succ k ih =>
    rw [gat, Nat.testBit_xor, ih, Nat.testBit_shiftLeft]
    by_cases h1 : q / 8 < k
    · have a1 : ¬ q ≥ 8 * k := by omega
      have a2 : q / 8 < k + 1 := by omega
      simp [h1, a1, a2]
    · by_cases h2 : q / 8 = k
      · have a1 : q ≥ 8 * k := by omega
        have e : q - 8 * k = q % 8 := by omega
        rw [e]
        subst h2
        simp [a1]
      · have a2 : ¬ q / 8 < k + 1 := by omega
        have a3 : 8 ≤ q - 8 * k := by omega
        rw [Nat.testBit_lt_two_pow (Nat.lt_of_lt_of_le (show dif l r (f + k) < 2 ^ 8 from dif_lt hl hr _) (Nat.pow_le_pow_right (by decide) a3))]
        simp [h1, a2]

/-- What the first and the last unlike byte say of the difference as one number. -/
structure Marks (l r : List Nat) (n f t : Nat) : Prop where
  le : f ≤ t
  lt : t < n
  first : l[f]? ≠ r[f]?
  last : l[t]? ≠ r[t]?
  before : ∀ i, i < f → l[i]? = r[i]?
  behind : ∀ i, t < i → i < n → l[i]? = r[i]?

theorem dif_zero {l r : List Nat} {i : Nat} (h : l[i]? = r[i]?) : dif l r i = 0 := by unfold dif; rw [h]; exact Nat.xor_self _
theorem dif_ne {l r : List Nat} {n i : Nat} (hl : l.length = n) (hr : r.length = n) (hi : i < n) (h : l[i]? ≠ r[i]?) : dif l r i ≠ 0 := by
  intro e
  apply h
  unfold dif at e
  rw [List.getElem?_eq_getElem (by omega), List.getElem?_eq_getElem (by omega)] at *
  simp only [Option.getD_some] at e
  have : l[i] = r[i] := by
    have h2 := congrArg (fun x => x ^^^ r[i]) e
    simpa [Nat.xor_assoc] using h2
  rw [this]

theorem Marks.zero {l r : List Nat} {n f t : Nat} (m : Marks l r n f t) (hl : l.length = n) (hr : r.length = n) (i : Nat) (hi : i < f ∨ t < i) : dif l r i = 0 := by
  rcases hi with hi | hi
  · exact dif_zero (m.before i hi)
  · by_cases h : i < n
    · exact dif_zero (m.behind i hi h)
    · unfold dif
      rw [List.getElem?_eq_none (by omega), List.getElem?_eq_none (by omega)]
      rfl

theorem Marks.low {l r : List Nat} {n f t : Nat} (m : Marks l r n f t) (hl : l.length = n) (hr : r.length = n) (sl : ∀ c ∈ l, c < 256) (sr : ∀ c ∈ r, c < 256) :
    (num l ^^^ num r).testBit (8 * f + low8 (dif l r f)) = true ∧ ∀ q, q < 8 * f + low8 (dif l r f) → (num l ^^^ num r).testBit q = false := by
  have hf : f < n := by have := m.le; have := m.lt; omega
  obtain ⟨a, b, c⟩ := low8_fin ⟨dif l r f, dif_lt sl sr f⟩ (dif_ne hl hr hf m.first)
  simp only at a b c
  generalize low8 (dif l r f) = z at *
  constructor
  · rw [dif_bit sl sr, show (8 * f + z) / 8 = f by omega, show (8 * f + z) % 8 = z by omega]
    exact b
  · intro q hq
    rw [dif_bit sl sr]
    by_cases h : q / 8 = f
    · rw [h]
      exact c ⟨q % 8, by omega⟩ (by show q % 8 < z; omega)
    · rw [m.zero hl hr _ (.inl (by omega))]
      simp

theorem Marks.top {l r : List Nat} {n f t : Nat} (m : Marks l r n f t) (hl : l.length = n) (hr : r.length = n) (sl : ∀ c ∈ l, c < 256) (sr : ∀ c ∈ r, c < 256) :
    lenOf (num l ^^^ num r) = 8 * t + lenOf (dif l r t) := by
  have h0 := dif_ne hl hr m.lt m.last
  have hd := dif_lt sl sr t
  have hp : 0 < lenOf (dif l r t) := by unfold lenOf; rw [if_neg h0]; omega
  have h8 : lenOf (dif l r t) ≤ 8 := lenOf_le (k := 8) hd
  have ht := lenOf_top h0
  have hs := lenOf_spec (dif l r t)
  generalize lenOf (dif l r t) = e at *
  have hbit : (num l ^^^ num r).testBit (8 * t + e - 1) = true := by
    rw [dif_bit sl sr, show (8 * t + e - 1) / 8 = t by omega, show (8 * t + e - 1) % 8 = e - 1 by omega]
    exact ht
  have hlt : num l ^^^ num r < 2 ^ (8 * t + e) := by
    apply Nat.lt_pow_two_of_testBit
    intro q hq
    rw [dif_bit sl sr]
    by_cases h : q / 8 = t
    · rw [h]
      exact Nat.testBit_lt_two_pow (Nat.lt_of_lt_of_le hs (Nat.pow_le_pow_right (by decide) (by omega)))
    · rw [m.zero hl hr _ (.inr (by omega))]
      simp
  have := lenOf_uniq (n := 8 * t + e - 1) (Nat.ge_two_pow_of_testBit hbit) (by rw [show 8 * t + e - 1 + 1 = 8 * t + e by omega]; exact hlt)
  rw [this]
  omega

theorem Marks.mask {l r : List Nat} {n f t : Nat} (m : Marks l r n f t) (hl : l.length = n) (hr : r.length = n) (sl : ∀ c ∈ l, c < 256) (sr : ∀ c ∈ r, c < 256) (z : Nat) :
    gat l r f (t + 1 - f) / 2 ^ z = (num l ^^^ num r) / 2 ^ (8 * f + z) := by
  apply Nat.eq_of_testBit_eq
  intro q
  rw [← Nat.shiftRight_eq_div_pow, ← Nat.shiftRight_eq_div_pow, Nat.testBit_shiftRight, Nat.testBit_shiftRight, gat_bit sl sr, dif_bit sl sr]
  rw [show (8 * f + z + q) / 8 = f + (z + q) / 8 by omega, show (8 * f + z + q) % 8 = (z + q) % 8 by omega]
  by_cases h : (z + q) / 8 < t + 1 - f
  · simp [h]
  · rw [m.zero hl hr (f + (z + q) / 8) (.inr (by have := m.le; omega))]
    simp [h]
end FerryCrc
