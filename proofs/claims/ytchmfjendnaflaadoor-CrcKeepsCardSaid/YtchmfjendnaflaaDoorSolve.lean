/-
  Elimination over 32 columns of bits: a pivot is always found, and what is found makes what is wanted.
-/
import Derived.Test.YtchmfjendnaflaaDoorBits
import Derived.Test.YtchmfjendnaflaaDoorPoly
namespace FerryCrc
/-- A reading of numbers that takes exclusive or to exclusive or. -/
def Lin (f : Nat → Bool) : Prop := ∀ a b, f (a ^^^ b) = (f a ^^ f b)
/-- No such reading but the empty one is blind to all the columns. -/
def Full (C : Nat → Nat) : Prop := ∀ f, Lin f → (∀ i, i < 32 → f (C i) = false) → ∀ v, v < 4294967296 → f v = false
theorem lin_bit (k : Nat) : Lin fun v => v.testBit k := fun _ _ => Nat.testBit_xor ..
/-- The reading that is blind to the columns from k - s on, and still sees bit k. -/
def see (C : Nat → Nat) (k : Nat) : Nat → Nat → Bool
  | 0, v => v.testBit k
  | s + 1, v => see C k s v ^^ (v.testBit (k - 1 - s) && see C k s (C (k - 1 - s)))
theorem see_lin (C : Nat → Nat) (k s : Nat) : Lin (see C k s) := by
  induction s with
  | zero => exact lin_bit k
  | succ s ih =>
    intro a b
    simp only [see, ih a b, Nat.testBit_xor]
    cases see C k s a <;> cases see C k s b <;> cases a.testBit (k - 1 - s) <;> cases b.testBit (k - 1 - s) <;> cases see C k s (C (k - 1 - s)) <;> rfl
theorem see_pow (C : Nat → Nat) (k s : Nat) (h : s ≤ k) : see C k s (2 ^ k) = true := by
  induction s with
  | zero => simp [see]
  | succ s ih => simp [see, ih (by omega), Nat.testBit_two_pow_of_ne (show k ≠ k - 1 - s by omega)]
structure Inv (L : Nat → Nat) (goal k : Nat) (C V : Nat → Nat) (wn an : Nat) : Prop where
  cl : ∀ i, i < 32 → C i < 4294967296
  vl : ∀ i, i < 32 → V i < 4294967296
  lw : ∀ i, i < 32 → L (V i) = C i
  wl : wn < 4294967296
  al : an < 4294967296
  go : L an ^^^ wn = goal
  wz : ∀ j, j < k → wn.testBit j = false
  up : ∀ i, i < 32 → ∀ j, j < k → j < i → (C i).testBit j = false
  dg : ∀ i, i < k → (C i).testBit i = true
  nd : Full C
theorem pivot {L : Nat → Nat} {goal k : Nat} {C V : Nat → Nat} {wn an : Nat} (h : Inv L goal k C V wn an) (hk : k < 32) : ∃ p, k ≤ p ∧ p < 32 ∧ (C p).testBit k = true := by
  refine Classical.byContradiction fun hno => ?_
  have hz : ∀ i, i < 32 → k ≤ i → (C i).testBit k = false := fun i hi hki => by
    cases e : (C i).testBit k with
    | false => rfl
    | true => exact absurd ⟨i, hki, hi, e⟩ hno
  have key : ∀ s, s ≤ k → ∀ i, i < 32 → k - s ≤ i → see C k s (C i) = false := by
    intro s
    induction s with
    | zero => intro _ i hi hki; exact hz i hi (by omega)
    | succ s ih =>
      intro hs i hi hki
      simp only [see]
      by_cases e : i = k - 1 - s
      · subst e
        rw [h.dg _ (by omega)]
        cases see C k s (C (k - 1 - s)) <;> rfl
      · rw [ih (by omega) i hi (by omega), h.up i hi (k - 1 - s) (by omega) (by omega)]
        rfl
  have := h.nd (see C k k) (see_lin C k k) (fun i hi => key k (Nat.le_refl _) i hi (by omega)) (2 ^ k) (Nat.pow_lt_pow_right (a := 2) (n := 32) (by decide) hk)
  rw [see_pow C k k (Nat.le_refl _)] at this
  cases this
/-- A row with two of its places changed about. -/
def swp (C : Nat → Nat) (p k i : Nat) : Nat := if i = k then C p else if i = p then C k else C i
/-- A row behind m of the inner loop's places. -/
def stpC (C : Nat → Nat) (p k m i : Nat) : Nat := if k < i ∧ i < m ∧ (swp C p k i).testBit k = true then swp C p k i ^^^ C p else swp C p k i
def stpV (C V : Nat → Nat) (p k m i : Nat) : Nat := if k < i ∧ i < m ∧ (swp C p k i).testBit k = true then swp V p k i ^^^ V p else swp V p k i
theorem elim_step {L : Nat → Nat} {goal k : Nat} {C V : Nat → Nat} {wn an p : Nat} (hL : ∀ a b, L (a ^^^ b) = L a ^^^ L b) (h : Inv L goal k C V wn an) (hk : k ≤ p) (hp : p < 32) (hb : (C p).testBit k = true) :
    Inv L goal (k + 1) (stpC C p k 32) (stpV C V p k 32) (if wn.testBit k = true then wn ^^^ C p else wn) (if wn.testBit k = true then an ^^^ V p else an) := by
  have sl : ∀ i, i < 32 → swp C p k i < 4294967296 := fun i hi => by
    unfold swp
    split
    · exact h.cl p hp
    · split
      · exact h.cl k (by omega)
      · exact h.cl i hi
  have sv : ∀ i, i < 32 → swp V p k i < 4294967296 := fun i hi => by
    unfold swp
    split
    · exact h.vl p hp
    · split
      · exact h.vl k (by omega)
      · exact h.vl i hi
  have slw : ∀ i, i < 32 → L (swp V p k i) = swp C p k i := fun i hi => by
    unfold swp
    split
    · exact h.lw p hp
    · split
      · exact h.lw k (by omega)
      · exact h.lw i hi
  have sup : ∀ i, i < 32 → ∀ j, j < k → j < i → (swp C p k i).testBit j = false := fun i hi j hj hji => by
    unfold swp
    split
    · exact h.up p hp j hj (by omega)
    · split
      · exact h.up k (by omega) j hj hj
      · exact h.up i hi j hj hji
  refine ⟨fun i hi => ?_, fun i hi => ?_, fun i hi => ?_, ?_, ?_, ?_, fun j hj => ?_, fun i hi j hj hji => ?_, fun i hi => ?_, ?_⟩
  · unfold stpC
    split
    · exact xor_lt32 (sl i hi) (h.cl p hp)
    · exact sl i hi
  · unfold stpV
    split
    · exact xor_lt32 (sv i hi) (h.vl p hp)
    · exact sv i hi
  · unfold stpC stpV
    split
    · rw [hL, slw i hi, h.lw p hp]
    · exact slw i hi
  · split
    · exact xor_lt32 h.wl (h.cl p hp)
    · exact h.wl
  · split
    · exact xor_lt32 h.al (h.vl p hp)
    · exact h.al
  · split
    · rw [hL, h.lw p hp, ← h.go]
      apply Nat.eq_of_testBit_eq
      intro j
      simp only [Nat.testBit_xor]
      cases (L an).testBit j <;> cases wn.testBit j <;> cases (C p).testBit j <;> rfl
    · exact h.go
  · by_cases e : j = k
    · subst e
      split
      · rename_i hw
        rw [Nat.testBit_xor, hw, hb]
        rfl
      · rename_i hw
        simpa using hw
    · split
      · rw [Nat.testBit_xor, h.wz j (by omega), h.up p hp j (by omega) (by omega)]
        rfl
      · exact h.wz j (by omega)
  · unfold stpC
    by_cases e : j = k
    · subst e
      split
      · rename_i hw
        rw [Nat.testBit_xor, hw.2.2, hb]
        rfl
      · rename_i hw
        cases hq : (swp C p j i).testBit j with
        | false => rfl
        | true => exact absurd ⟨hji, hi, hq⟩ hw
    · split
      · rw [Nat.testBit_xor, sup i hi j (by omega) hji, h.up p hp j (by omega) (by omega)]
        rfl
      · exact sup i hi j (by omega) hji
  · unfold stpC
    rw [if_neg (by omega)]
    unfold swp
    by_cases e : i = k
    · rw [if_pos e, e]
      exact hb
    · rw [if_neg e, if_neg (by omega)]
      exact h.dg i (by omega)
  · intro f hf hz
    have kp : f (C p) = false := by
      have := hz k (by omega)
      unfold stpC at this
      rw [if_neg (by omega)] at this
      simpa [swp] using this
    have ks : ∀ i, i < 32 → f (swp C p k i) = false := fun i hi => by
      have := hz i hi
      unfold stpC at this
      split at this
      · rw [hf, kp] at this
        simpa using this
      · exact this
    refine h.nd f hf fun i hi => ?_
    by_cases e : i = p
    · rw [e]; exact kp
    · by_cases e2 : i = k
      · have := ks p hp
        unfold swp at this
        by_cases e3 : p = k
        · rw [e2, ← e3]; exact kp
        · rw [if_neg e3, if_pos rfl] at this
          rw [e2]; exact this
      · have := ks i hi
        unfold swp at this
        rw [if_neg e2, if_neg e] at this
        exact this
theorem elim_done {L : Nat → Nat} {goal : Nat} {C V : Nat → Nat} {wn an : Nat} (h : Inv L goal 32 C V wn an) : L an = goal := by
  have hz : wn = 0 := by
    apply Nat.eq_of_testBit_eq
    intro j
    rw [Nat.zero_testBit]
    by_cases hj : j < 32
    · exact h.wz j hj
    · exact Nat.testBit_lt_two_pow (Nat.lt_of_lt_of_le h.wl (Nat.pow_le_pow_right (n := 2) (i := 32) (by decide) (by omega)))
  have := h.go
  rw [hz, Nat.xor_zero] at this
  exact this
/-- The columns of a map that reaches every number. -/
theorem begin_inv {L : Nat → Nat} {goal : Nat} (hL : ∀ a b, L (a ^^^ b) = L a ^^^ L b) (hs : ∀ x, x < 4294967296 → L x < 4294967296) (hon : ∀ v, v < 4294967296 → ∃ x, x < 4294967296 ∧ L x = v) (hg : goal < 4294967296) :
    Inv L goal 0 (fun i => L (2 ^ i)) (fun i => 2 ^ i) goal 0 := by
  have h0 : L 0 = 0 := by have := hL 0 0; simp at this; omega
  have pw : ∀ i, i < 32 → 2 ^ i < 4294967296 := fun i hi => Nat.pow_lt_pow_right (a := 2) (n := 32) (by decide) hi
  refine ⟨fun i hi => hs _ (pw i hi), pw, fun _ _ => rfl, hg, by decide, by rw [h0, Nat.zero_xor], fun j hj => by omega, fun i hi j hj => by omega, fun i hi => by omega, ?_⟩
  intro f hf hz v hv
  have f0 : f 0 = false := by have := hf 0 0; simp at this; exact this
  obtain ⟨x, hx, rfl⟩ := hon v hv
  have := ext32 (fun x => (f (L x)).toNat) (fun _ => 0) (fun a b => by show (f (L (a ^^^ b))).toNat = _; rw [hL, hf]; cases f (L a) <;> cases f (L b) <;> rfl) (fun _ _ => rfl) (fun j hj => by simp only [hz j hj]; rfl) x hx
  cases e : f (L x) with
  | false => rfl
  | true => simp [e] at this
end FerryCrc
