/-
  A word and its instruction, there and back.
-/
import Derived.Test.YthcmeboepedelaaDoorIsEnc
import Derived.Test.YthcmeboepedelaaDoorIsRCheck
namespace Go.Proofs.YthcmeboepedelaaDoor
open Go.RowKit FerryCrc
set_option linter.unusedVariables false
set_option linter.unusedSimpArgs false
theorem codeI_zero {i : Ins} : codeI i = 0 ↔ okI i = true := by
  unfold codeI
  by_cases h : form i.op = 0
  · rw [if_pos h]
    have : okI i = false := by unfold okI; simp [h]
    simp [this]
  · rw [if_neg h]
    split <;> simp_all
/-- What a word's instruction is made of, by its form. -/
theorem ok_parts {i : Ins} (h : okI i = true) : form i.op ≠ 0 ∧ (0 ≤ i.a ∧ i.a ≤ hiA (form i.op)) ∧ (0 ≤ i.b ∧ i.b ≤ hiB (form i.op)) ∧ (0 ≤ i.c ∧ i.c ≤ hiC (form i.op)) ∧ (loI (form i.op) ≤ i.imm ∧ i.imm ≤ hiI (form i.op)) := by
  unfold okI bA bB bC bI at h
  simp only [Bool.and_eq_true, decide_eq_true_eq, ne_eq] at h
  exact ⟨h.1, h.2.1, h.2.2.1, h.2.2.2.1, h.2.2.2.2⟩
theorem enc_cand {n : Nat} (hn : n < 4294967296) (h : okI (cand n) = true) : encv (cand n) = (n : Int) ∧ (form ((n / 16777216 : Nat) : Int) = 1 → n % 4096 = 0) ∧ (form ((n / 16777216 : Nat) : Int) ≠ 1 → (cand n).c = 0 ∧ (cand n).imm % 65536 = ((n % 65536 : Nat) : Int)) := by
  obtain ⟨h0, -, -, -, h4⟩ := ok_parts h
  have f7 := form_le ((n / 16777216 : Nat) : Int)
  unfold encv
  unfold cand at h0 h4 ⊢
  dsimp only at *
  generalize form ((n / 16777216 : Nat) : Int) = f at *
  unfold s16 at *
  rcases (by omega : f = 1 ∨ f = 2 ∨ f = 3 ∨ f = 4 ∨ f = 5 ∨ f = 6 ∨ f = 7) with rfl | rfl | rfl | rfl | rfl | rfl | rfl
  all_goals
    simp [loI, hiI] at *
    (try refine ⟨?_, ?_⟩)
    all_goals (repeat' split)
    all_goals omega
theorem cand_enc {i : Ins} (h : okI i = true) {n : Nat} (hn : encv i = (n : Int)) : cand n = i := by
  obtain ⟨r0, r1, r2, r3, r4, r5⟩ := ok_range h
  obtain ⟨h0, h1, h2, h3, h4⟩ := ok_parts h
  obtain ⟨op, a, b, c, imm⟩ := i
  unfold encv at hn
  dsimp only at *
  have f7 := form_le op
  have e1 : ((n / 16777216 : Nat) : Int) = op := by split at hn <;> omega
  have e2 : ((n / 1048576 % 16 : Nat) : Int) = a := by split at hn <;> omega
  have e3 : ((n / 65536 % 16 : Nat) : Int) = b := by split at hn <;> omega
  unfold cand
  dsimp only
  rw [e1, e2, e3]
  generalize form op = f at *
  unfold s16
  rcases (by omega : f = 1 ∨ f = 2 ∨ f = 3 ∨ f = 4 ∨ f = 5 ∨ f = 6 ∨ f = 7) with rfl | rfl | rfl | rfl | rfl | rfl | rfl
  all_goals
    simp [loI, hiI, hiC] at *
    (try refine ⟨?_, ?_⟩)
    all_goals (repeat' split)
    all_goals (split at hn <;> omega)
end Go.Proofs.YthcmeboepedelaaDoor
