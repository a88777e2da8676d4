/-
  make of pages; a page with nothing but rights laid by a literal.
-/
import Derived.Test.YtbekdbgnpcbklaaDoorPaBoth
namespace Go.Proofs.YtbekdbgnpcbklaaDoor
open Go.RowKit
set_option linter.unusedVariables false
set_option linter.unusedSimpArgs false

theorem made_pages (z : Array Value) (hz : z = (pk 0).cells.toArray) (n : Nat) : (madeCells z (n * 66)).toList = flat (List.replicate n (pk 0)) := by
  subst hz
  have ok : (pk 0).cells.length = 66 := (pk_ok 0 (by decide) (by decide)).cells
  have okr : Oks (List.replicate n (pk 0)) := fun p hp => by rw [(List.mem_replicate.1 hp).2]; exact pk_ok 0 (by decide) (by decide)
  refine List.ext_getElem? fun j => ?_
  by_cases hj : j < n * 66
  · have hk : j / 66 < n := by omega
    have h1 := flat_get okr (k := j / 66) (p := pk 0) (j % 66) (by rw [List.getElem?_replicate, if_pos hk]) (by omega)
    rw [show j / 66 * 66 + j % 66 = j by omega] at h1
    have hl : j % 66 < (pk 0).cells.length := by omega
    have h2 : (pk 0).cells[j % 66]? = some (pk 0).cells[j % 66] := List.getElem?_eq_getElem hl
    rw [h1, h2]
    simp [madeCells, hj, ok]
    rw [h2]
    rfl
  · rw [List.getElem?_eq_none (by simp [madeCells]; omega), List.getElem?_eq_none (by rw [flat_len okr]; simp; omega)]
theorem infoPg : ∃ i z, Tryd.prog.info? 59 = some i ∧ i.zero = some z ∧ i.size = 66 ∧ i.bytes = 80 ∧ z.cells = (pk 0).cells.toArray := by
  have h : (Tryd.prog.info? 59).map (fun i => (i.size, i.bytes, i.zero.map (·.cells))) = some (66, 80, some (pk 0).cells.toArray) := by kernel_rfl
  cases hi : Tryd.prog.info? 59 with
  | none => simp [hi] at h
  | some i =>
    simp only [hi, Option.map_some, Option.some.injEq, Prod.mk.injEq] at h
    obtain ⟨h1, h2, h3⟩ := h
    cases hz : i.zero with
    | none => simp [hz] at h3
    | some z => exact ⟨i, z, rfl, hz, h1, h2, by simpa [hz] using h3⟩
/-- make of n pages. -/
theorem make_pgs {w : World} {ops : Array Oper} {rest : List Oper} {o : Oper} {act : Act} {Q : Exit → Act → World → Prop} (hgd : o.guard = none) (l c : Operand)
    (ho : o.op = Op.makeSlice 22 l c) (L C : Int) (n : Nat) (hl : act.eval l = .int .i64 L) (hc : act.eval c = .int .i64 C) (hL : L = (n : Int)) (hC : C = (n : Int)) (hn : n ≤ 1759218604391)
    (h : ∀ w', POwn w' w.heap.size (.slice (some ⟨w.heap.size, 0, none⟩) n n) (List.replicate n (pk 0)) → Below w.heap.size w w' → wpList Tryd.prog ops Q rest (act.put o.dst (.slice (some ⟨w.heap.size, 0, none⟩) n n)) w') : wpList Tryd.prog ops Q (o :: rest) act w := by
  obtain ⟨i, z, hi, hz, hsz, hby, hzc⟩ := infoPg
  refine wpList_make_full w hgd l c 22 ho w.heap.size 59 i z 66 Tryd.underlying22 hi hz hsz .i64 .i64 L C n hl hc hL hC (by rw [hby]; omega) (by unfold maxLen; omega) (Nat.le_refl _) ?_
  intro w' h1 h2
  refine h w' ?_ ((Below.refl _ _).grown h2 (Nat.le_refl _) (by intro k e; cases e))
  unfold POwn
  rw [made_pages _ hzc] at h1
  rw [List.length_replicate]
  exact h1
theorem wpList_tail {P : Program} {ops : Array Oper} {Q : Exit → Act → World → Prop} {a : Act} {w : World} (pre tl : List Oper) (h : ∀ t, t = tl → wpList P ops Q (pre ++ t) a w) : wpList P ops Q (pre ++ tl) a w := h tl rfl
theorem mkp_mkR (r : Int) : MkR r 1 (mkp r).cells := ⟨by simp [mkp, Pg.cells, Pg.row], fun i hi => by
  obtain rfl : i = 0 := by omega
  rfl⟩
theorem mkp_one (r : Int) : ∀ u ∈ (mkp r).cells, u.oneCell' = true := (mkp r).one
/-- Pages that bear rights m. -/
theorem flat_mkR {l : List Pg} (ok : Oks l) {m : Int} (h : ∀ p ∈ l, p.rights = m) : MkR m l.length (flat l) := by
  refine ⟨flat_len ok, fun i hi => ?_⟩
  have h1 := flat_get ok (l := l) (k := i) (p := l[i]) 0 (List.getElem?_eq_getElem hi) (by decide)
  rw [Nat.add_zero] at h1
  rw [h1]
  show some (Value.int .i64 (l[i]).rights) = _
  rw [h _ (List.getElem_mem hi)]
end Go.Proofs.YtbekdbgnpcbklaaDoor
