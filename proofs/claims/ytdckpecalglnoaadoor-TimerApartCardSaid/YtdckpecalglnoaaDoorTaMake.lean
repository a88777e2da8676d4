/-
  make of timers.
-/
import Derived.Test.YtdckpecalglnoaaDoorTaSl
namespace Go.Proofs.YtdckpecalglnoaaDoor
open Go.RowKit
set_option linter.unusedVariables false
set_option linter.unusedSimpArgs false

theorem made_tms (z : Array Value) (hz : z = #[.int .i64 0, .int .i64 0]) (n : Nat) : (madeCells z (n * 2)).toList = (List.replicate n (⟨0, 0⟩ : Tm)).flatMap Tm.cells := by
  rw [mks_rep]
  subst hz
  refine List.ext_getElem? fun j => ?_
  by_cases hj : j < n * 2
  · rw [mks_at hj]
    have h2 : j % 2 = 0 ∨ j % 2 = 1 := by omega
    unfold mcell madeCells
    rcases h2 with e | e <;> simp [hj, e]
  · rw [List.getElem?_eq_none (by simp [madeCells]; omega), List.getElem?_eq_none (by rw [mks_len]; omega)]
theorem infoTm : ∃ i z, Tryd.prog.info? 48 = some i ∧ i.zero = some z ∧ i.size = 2 ∧ i.bytes = 16 ∧ z.cells = #[.int .i64 0, .int .i64 0] := by
  have h : (Tryd.prog.info? 48).map (fun i => (i.size, i.bytes, i.zero.map (·.cells))) = some (2, 16, some #[.int .i64 0, .int .i64 0]) := by kernel_rfl
  cases hi : Tryd.prog.info? 48 with
  | none => simp [hi] at h
  | some i =>
    simp only [hi, Option.map_some, Option.some.injEq, Prod.mk.injEq] at h
    obtain ⟨h1, h2, h3⟩ := h
    cases hz : i.zero with
    | none => simp [hz] at h3
    | some z => exact ⟨i, z, rfl, hz, h1, h2, by simpa [hz] using h3⟩
/-- make of n timers. -/
theorem make_tms {w : World} {ops : Array Oper} {rest : List Oper} {o : Oper} {act : Act} {Q : Exit → Act → World → Prop} (hgd : o.guard = none) (l c : Operand)
    (ho : o.op = Op.makeSlice 22 l c) (L C : Int) (n : Nat) (hl : act.eval l = .int .i64 L) (hc : act.eval c = .int .i64 C) (hL : L = (n : Int)) (hC : C = (n : Int)) (hn : n ≤ 8796093022208)
    (h : ∀ w', TOwn w' w.heap.size (.slice (some ⟨w.heap.size, 0, none⟩) n n) (List.replicate n ⟨0, 0⟩) → Below w.heap.size w w' → wpList Tryd.prog ops Q rest (act.put o.dst (.slice (some ⟨w.heap.size, 0, none⟩) n n)) w') : wpList Tryd.prog ops Q (o :: rest) act w := by
  obtain ⟨i, z, hi, hz, hsz, hby, hzc⟩ := infoTm
  refine wpList_make_full w hgd l c 22 ho w.heap.size 48 i z 2 Tryd.underlying22 hi hz hsz .i64 .i64 L C n hl hc hL hC (by rw [hby]; omega) (by unfold maxLen; omega) (Nat.le_refl _) ?_
  intro w' h1 h2
  refine h w' ?_ ((Below.refl _ _).grown h2 (Nat.le_refl _) (by intro k e; cases e))
  unfold TOwn
  rw [made_tms _ hzc] at h1
  rw [List.length_replicate]
  exact h1
end Go.Proofs.YtdckpecalglnoaaDoor
