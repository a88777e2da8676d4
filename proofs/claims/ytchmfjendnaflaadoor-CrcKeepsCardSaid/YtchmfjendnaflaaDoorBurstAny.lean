/-
  Contract of crc.Burst in terms of the difference as one number; what the burst of a turned list is.
-/
import Derived.Test.YtchmfjendnaflaaDoorBurstMath
namespace FerryCrc
theorem least {P : Nat → Prop} : ∀ n, (∃ i, i < n ∧ P i) → ∃ f, f < n ∧ P f ∧ ∀ i, i < f → ¬ P i
  | 0, ⟨i, hi, _⟩ => by omega
  | n + 1, ⟨i, hi, hp⟩ => by
    by_cases h : ∃ i, i < n ∧ P i
    · obtain ⟨f, a, b, c⟩ := least n h
      exact ⟨f, by omega, b, c⟩
    · exact ⟨i, hi, hp, fun j hj hq => h ⟨j, by omega, hq⟩⟩
theorem most {P : Nat → Prop} : ∀ n, (∃ i, i < n ∧ P i) → ∃ t, t < n ∧ P t ∧ ∀ i, t < i → i < n → ¬ P i
  | 0, ⟨i, hi, _⟩ => by omega
  | n + 1, ⟨i, hi, hp⟩ => by
    by_cases h : P n
    · exact ⟨n, by omega, h, fun j h1 h2 => by omega⟩
    · have hin : i < n := by
        rcases Nat.lt_or_eq_of_le (Nat.le_of_lt_succ hi) with h1 | h1
        · exact h1
        · exact absurd (h1 ▸ hp) h
      obtain ⟨t, a, b, c⟩ := most n ⟨i, hin, hp⟩
      refine ⟨t, by omega, b, fun j h1 h2 => ?_⟩
      by_cases e : j = n
      · rw [e]; exact h
      · exact c j h1 (by omega)
theorem marks_of {l r : List Nat} {n : Nat} (hl : l.length = n) (hr : r.length = n) (h : l ≠ r) : ∃ f t, Marks l r n f t := by
  have hex : ∃ i, i < n ∧ l[i]? ≠ r[i]? := by
    apply Classical.byContradiction
    intro hn
    apply h
    apply List.ext_getElem?
    intro i
    by_cases hi : i < n
    · exact Classical.byContradiction fun hne => hn ⟨i, hi, hne⟩
    · rw [List.getElem?_eq_none (by omega), List.getElem?_eq_none (by omega)]
  obtain ⟨f, a1, a2, a3⟩ := least n hex
  obtain ⟨t, b1, b2, b3⟩ := most n hex
  refine ⟨f, t, ?_, b1, a2, b2, fun i hi => Classical.byContradiction (a3 i hi), fun i h1 h2 => Classical.byContradiction (b3 i h1 h2)⟩
  apply Classical.byContradiction
  intro hlt
  exact a3 t (by omega) b2

/-- The burst of a turned list. -/
theorem burst_turned {pos mask p : Nat} (hm : mask < 4294967296) (hb : (mask <<< pos).testBit p = true) (hlow : ∀ q, q < p → (mask <<< pos).testBit q = false) :
    ∃ s m, p = pos + s ∧ s ≤ 31 ∧ (mask <<< pos) / 2 ^ p = m ∧ m < 4294967296 ∧ m % 2 = 1 ∧ m * 2 ^ s = mask ∧ lenOf (mask <<< pos) = pos + lenOf mask ∧ lenOf mask = s + lenOf m ∧ m <<< p = mask <<< pos := by
  rw [Nat.testBit_shiftLeft] at hb
  have hp : p ≥ pos := by simp at hb; exact hb.1
  obtain ⟨s, rfl⟩ : ∃ s, p = pos + s := ⟨p - pos, by omega⟩
  have hs : mask.testBit s = true := by simpa using hb
  have hs31 : s ≤ 31 := by
    apply Classical.byContradiction
    intro hn
    rw [Nat.testBit_lt_two_pow (Nat.lt_of_lt_of_le (show mask < 2 ^ 32 from hm) (Nat.pow_le_pow_right (by decide) (by omega)))] at hs
    simp at hs
  have h2 : 2 ^ s ≤ mask := Nat.ge_two_pow_of_testBit hs
  have hz : mask % 2 ^ s = 0 := by
    apply Nat.eq_of_testBit_eq
    intro q
    rw [Nat.testBit_mod_two_pow]
    by_cases hq : q < s
    · have := hlow (pos + q) (by omega)
      rw [Nat.testBit_shiftLeft] at this
      simp at this
      simp [this]
    · simp [hq]
  have hmul : mask / 2 ^ s * 2 ^ s = mask := by
    have := Nat.div_add_mod mask (2 ^ s)
    rw [hz, Nat.add_zero, Nat.mul_comm] at this
    exact this
  have hdiv : (mask <<< pos) / 2 ^ (pos + s) = mask / 2 ^ s := by
    rw [Nat.shiftLeft_eq, Nat.add_comm pos s, Nat.pow_add, Nat.mul_div_mul_right _ _ (Nat.two_pow_pos pos)]
  have hodd : mask / 2 ^ s % 2 = 1 := by
    rw [Nat.testBit_eq_decide_div_mod_eq] at hs
    simpa using hs
  have hpos : 0 < mask := Nat.lt_of_lt_of_le (Nat.two_pow_pos s) h2
  refine ⟨s, mask / 2 ^ s, rfl, hs31, hdiv, Nat.lt_of_le_of_lt (Nat.div_le_self _ _) hm, hodd, hmul, ?_, lenOf_shift h2, ?_⟩
  · have h3 : 2 ^ pos ≤ mask <<< pos := by rw [Nat.shiftLeft_eq]; exact Nat.le_mul_of_pos_left _ hpos
    rw [lenOf_shift h3, Nat.shiftLeft_eq, Nat.mul_div_cancel _ (Nat.two_pow_pos pos)]
  · rw [Nat.shiftLeft_eq, Nat.shiftLeft_eq, Nat.add_comm pos s, Nat.pow_add, ← Nat.mul_assoc, hmul]
end FerryCrc
namespace Go.Proofs.YtchmfjendnaflaaDoor
open Go.RowKit FerryCrc

theorem unlike_at {a b : Option Addr} {n ca cb : Nat} {l r : List Nat} {f t : Nat} (w : World) (ha : Bts w a n ca l) (hb : Bts w b n cb r) (m : Marks l r n f t) :
    Calls Tryd.prog 44 #[.slice a n ca, .slice b n cb] w fun e w' => Below w.heap.size w w' ∧ e = .returned (.tuple #[.int .i64 (f : Int), .int .i64 (t : Int)]) := by
  refine (unlike_any a b n ca cb l r w ha hb).mono ?_
  rintro e w' ⟨hb', ⟨h, _⟩ | ⟨f', t', h1, h2, h3, h4, h5, h6, rfl⟩⟩
  · exact absurd (h f (by have := m.le; have := m.lt; omega)) m.first
  · have ef : f' = f := by
      rcases Nat.lt_trichotomy f' f with h | h | h
      · exact absurd (m.before f' h) h3
      · exact h
      · exact absurd (h5 f h) m.first
    have et : t' = t := by
      rcases Nat.lt_trichotomy t' t with h | h | h
      · exact absurd (h6 t h m.lt) m.last
      · exact h
      · exact absurd (m.behind t' h h2) h4
    rw [ef, et]
    exact ⟨hb', rfl⟩

theorem burst_any {a b : Option Addr} {n ca cb : Nat} {l r : List Nat} (a7 : Addr) (w : World) (h7 : w.cell? ⟨5, 0, none⟩ = some (sent a7)) (ha : Bts w a n ca l) (hb : Bts w b n cb r) (hne : l ≠ r) :
    Calls Tryd.prog 25 #[.slice a n ca, .slice b n cb] w fun e w' => Below w.heap.size w w' ∧ ∃ p, (num l ^^^ num r).testBit p = true ∧ (∀ q, q < p → (num l ^^^ num r).testBit q = false) ∧
      ((32 < lenOf (num l ^^^ num r) - p ∧ e = .returned (.tuple #[.int .i64 0, .int .u32 0, sent a7])) ∨
       (lenOf (num l ^^^ num r) - p ≤ 32 ∧ e = .returned (.tuple #[.int .i64 (p : Int), .int .u32 (((num l ^^^ num r) / 2 ^ p % 4294967296 : Nat) : Int), .nilIface]))) := by
  obtain ⟨f, t, m⟩ := marks_of ha.size hb.size hne
  have hf : f < n := by have := m.le; have := m.lt; omega
  refine (burst_some a b n ca cb l r f t a7 w h7 ha hb (unlike_at w ha hb m) m.le m.lt (dif_ne ha.size hb.size hf m.first) (dif_ne ha.size hb.size m.lt m.last)).mono ?_
  rintro e w' ⟨hb', h⟩
  have lo := m.low ha.size hb.size ha.small hb.small
  rw [m.mask ha.size hb.size ha.small hb.small, ← m.top ha.size hb.size ha.small hb.small] at h
  exact ⟨hb', _, lo.1, lo.2, h⟩
end Go.Proofs.YtchmfjendnaflaaDoor
