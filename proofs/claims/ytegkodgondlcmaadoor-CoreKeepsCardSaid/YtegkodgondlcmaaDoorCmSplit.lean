/-
  Runs in two goes, as plain data.
-/
import Derived.Test.YtegkodgondlcmaaDoorCmAwake
namespace Go.Proofs.YtegkodgondlcmaaDoor
open Go.RowKit FerryCrc FerryAlu
set_option linter.unusedVariables false
set_option linter.unusedSimpArgs false

def Mc.zero (m : Mc) : Prop := m.regs[0]? = some 0
theorem setR_zero {m : Mc} (h : m.zero) (k v : Nat) : (m.setR k v).zero := by
  unfold Mc.zero Mc.setR at *
  split
  · exact h
  · rename_i hk
    show (m.regs.set k v)[0]? = _
    rw [List.getElem?_set_ne hk]
    exact h
theorem setP_zero {m : Mc} (h : m.zero) (p : Nat) : (m.setP p).zero := h
theorem doI_zero {m : Mc} (h : m.zero) (i : Ins) : (m.doI i).1.zero := by
  unfold Mc.doI
  split
  · split
    · exact setP_zero (setR_zero h _ _) _
    · exact h
  · split
    · split
      · exact h
      · exact h
    · split
      · exact setP_zero h _
      · split
        · exact setP_zero (setR_zero h _ _) _
        · split
          · exact setP_zero h _
          · split
            · exact setP_zero h _
            · cases m.cmp i with
              | some v => exact setP_zero (setR_zero h _ _) _
              | none => exact h
theorem step_zero {m : Mc} (h : m.zero) : m.step.1.zero := by
  unfold Mc.step
  split
  · exact h
  · split
    · exact h
    · split
      · exact doI_zero h _
      · exact doI_zero h _
theorem step_code {m : Mc} (h : m.step.2.1 = 0) : m.step.2.2 = 0 := by
  unfold Mc.step at *
  split at h
  · cases h
  · rename_i h1
    rw [if_neg h1]
    split at h
    · cases h
    · rename_i h2
      rw [if_neg h2]
      split at h
      · cases h
      · rename_i h3
        rw [if_neg h3]
theorem go_zero (k : Nat) {r : Rn} (h : r.m.zero) : (Rn.go k r).m.zero := by
  induction k with
  | zero => exact h
  | succ k ih =>
    rw [Rn.go_succ]
    unfold Rn.next
    split
    · exact step_zero ih
    · exact ih
theorem go_code (k : Nat) {r : Rn} (h0 : r.kind = 0 → r.code = 0) : (Rn.go k r).kind = 0 → (Rn.go k r).code = 0 := by
  induction k with
  | zero => exact h0
  | succ k ih =>
    rw [Rn.go_succ]
    unfold Rn.next
    split
    · intro h
      exact step_code h
    · exact ih
theorem from0_zero {m : Mc} (h : m.Ok) : m.from0.zero := by
  unfold Mc.zero Mc.from0
  rw [List.getElem?_set_self (by rw [h.size]; decide)]
theorem from0_same {m : Mc} (h : m.zero) : m.from0 = m := by
  obtain ⟨l, regs, pc, st, pr, wa, ob⟩ := m
  unfold Mc.zero at h
  unfold Mc.from0
  simp only at h ⊢
  cases regs with
  | nil => simp at h
  | cons x xs =>
    simp at h
    subst h
    rfl
/-- A run that came to its end goes no further. -/
theorem run_ended {m : Mc} {a : Nat} (b : Nat) (h : (m.run a).kind ≠ 0) : m.run (a + b) = m.run a := by
  unfold Mc.run at *
  rw [Rn.go_add, Rn.go_still h]
/-- A run of a + b steps is one of a, and one of b behind it. -/
theorem run_split {m : Mc} (ok : m.Ok) {a : Nat} (b : Nat) (h : (m.run a).kind = 0) : (m.run a).steps = a ∧ m.run (a + b) = ⟨((m.run a).m.run b).m, ((m.run a).m.run b).kind, ((m.run a).m.run b).code, ((m.run a).m.run b).steps + a⟩ := by
  have hs : (m.run a).steps = a := by
    have := Rn.go_steps a ⟨m.from0, 0, 0, 0⟩ h
    rw [Nat.zero_add] at this
    exact this
  have hz : (m.run a).m.zero := go_zero a (from0_zero ok)
  have hc : (m.run a).code = 0 := go_code a (r := ⟨m.from0, 0, 0, 0⟩) (fun _ => rfl) h
  refine ⟨hs, ?_⟩
  have e1 : m.run (a + b) = Rn.go b (m.run a) := by unfold Mc.run; rw [Rn.go_add]
  have e2 : m.run a = ⟨(m.run a).m, 0, 0, 0 + a⟩ := by
    cases hR : m.run a with
    | mk rm rk rc rs =>
      rw [hR] at h hs hc
      simp only at h hs hc
      rw [h, hs, hc, Nat.zero_add]
  rw [e1]
  conv => lhs; rw [e2]
  rw [Rn.go_shift]
  unfold Mc.run
  rw [from0_same (m := (Rn.go a ⟨m.from0, 0, 0, 0⟩).m) hz]
end Go.Proofs.YtegkodgondlcmaaDoor
