/-
  Rows of cells whose type is a key type, compared by their keys; the lists of keys that slices show.
-/
import Derived.Test.YtkjbcnlhallcdaaTiny
import Derived.DeepKeys
import Derived.MapViews
import Derived.ChangeKeysEq
import Derived.Laws.StructEq
import Derived.Deep.MidRow
import Derived.Stop.BytesEq
import Derived.BigQuiet
import Derived.LoopTactic
import Derived.BigRegion
namespace Go.Proofs.Ytkjbcnlhallcdaa
open Go.RowKit FerryCrc
set_option linter.unusedVariables false
set_option linter.unusedSimpArgs false

theorem vdrewN_below {B : Nat} {a w : World} (h : Below B a w) (nq : Nat) : Below B a (w.drewN nq) := ⟨h.os, h.tape, h.output, h.size, h.block⟩
theorem vrange_below {w w' : World} {b o : Nat} {cs : List Value} (h : w.rangeAt b o cs) (hb : Below w.heap.size w w') : w'.rangeAt b o cs := fun j v hv => by
  have hc := h j v hv
  rw [hb.cell (p := ⟨b, o + j, none⟩) (block_lt_of_cell hc)]
  exact hc
theorem quiet_run {P : Program} {C : World → Prop} {a : Act} {o : Oper} {K : Act → Prop} (v : Value) (h : ∀ w, C w → (execOp a.eval o).run P w = .ok (.value v) w) (hk : K (a.put o.dst v)) : o.quiet P a C K :=
  ⟨v, fun w hw => by unfold Oper.quietAt; rw [h w hw]; exact ⟨rfl, rfl⟩, hk⟩
/-- A proposition as a truth value. -/
def eqb (D : (p : Prop) → Decidable p) (p : Prop) : Bool := @decide p (D p)
theorem eqb_yes {p : Prop} (h : p) : eqb Classical.propDecidable p = true := @decide_eq_true p (Classical.propDecidable p) h
theorem eqb_no {p : Prop} (h : ¬ p) : eqb Classical.propDecidable p = false := @decide_eq_false p (Classical.propDecidable p) h
theorem eqb_iff {p : Prop} : eqb Classical.propDecidable p = true ↔ p := ⟨fun h => Classical.byContradiction fun n => by rw [eqb_no n] at h; exact absurd h (by decide), eqb_yes⟩
theorem eqb_congr {p q : Prop} (h : p ↔ q) : eqb Classical.propDecidable p = eqb Classical.propDecidable q := by rw [propext h]
theorem quiet_load_mid {P : Program} {w0 : World} {a : Act} {o : Oper} {K : Act → Prop} (ty : TypeId) (x : Operand) (ho : o.op = .load ty x)
    (b off : Nat) (hx : a.eval x = .pointer (some ⟨b, off, none⟩)) (cs : List Value) (d : TypeDesc) (hc : w0.rangeAt b off cs)
    (hu : P.underlying ty = some d) (hd : d.isRow = true) (hi : (P.info? ty).map (·.size) = some cs.length) (hk : K (a.put o.dst (.agg cs.toArray))) : o.quiet P a (fun w' => ∃ n, w' = w0.drewN n) K := by
  refine quiet_run _ (fun w hw => ?_) hk
  obtain ⟨n, rfl⟩ := hw
  have hc' : (w0.drewN n).rangeAt b off cs := hc
  unfold execOp
  simp only [ho, hx, Instr.loadAt, Instr.sureAddr, Sem.run_bind, Sem.run_pure, Result.andThen_ok, run_loadVar_mid _ b off ty cs d hc' hu hd hi]
theorem quiet_neq {P : Program} {C : World → Prop} {a : Act} {o : Oper} {K : Act → Prop} (ty t' : TypeId) (x y : Operand) (ho : o.op = .binOp .neq ty x y t') (A B : Array Value) (hx : a.eval x = .agg A) (hy : a.eval y = .agg B)
    (hg : P.eqGuardType P.depth ty = false) (r : Bool) (hr : ∀ w, (binOp .neq ty (.agg A) (.agg B)).run P w = .ok (.bool r) w) (hk : K (a.put o.dst (.bool r))) : o.quiet P a C K := by
  refine quiet_run _ (fun w hw => ?_) hk
  unfold execOp
  simp only [ho, hx, hy, Sem.run_bind, run_eqGuard_agg _ _ _ _ _ _ _ hg, Result.andThen_ok, hr]
  rfl
/-- != of two rows: of their keys. -/
theorem neq_keys {P : Program} {t : TypeId} {m : Nat} (hk : P.keyTypeAt m t = true) (hm : m ≤ 10000) {xs ys : List Value} {lx ly : List Lit} {D D' : Nat} (fx : (Value.agg xs.toArray).formed P t = true) (fy : (Value.agg ys.toArray).formed P t = true)
    (hx : P.keyLits D t xs = some lx) (hy : P.keyLits D' t ys = some ly) (w : World) : (binOp .neq t (.agg xs.toArray) (.agg ys.toArray)).run P w = .ok (.bool (!eqb Classical.propDecidable (lx = ly))) w := by
  obtain ⟨r, h1, h2⟩ := run_equalIn_deep (P := P) (10000 - m) m t hk w D D' (.agg xs.toArray) (.agg ys.toArray) lx ly fx fy hx hy
  rw [Nat.sub_add_cancel hm] at h1
  have hr : r = eqb Classical.propDecidable (lx = ly) := by
    cases r
    · exact (eqb_no (fun e => by simpa using h2.2 e)).symm
    · exact (eqb_yes (h2.1 rfl)).symm
  rw [run_neq_struct, h1, hr]
  rfl
/-- The keys of what a slice shows. -/
structure Kv (w : World) (t : TypeId) (sz : Nat) (a : Option Addr) (len : Nat) (K : List (List Lit)) : Prop where
  size : K.length = len
  most : len ≤ 140737488355328
  cell : ∀ k l, K[k]? = some l → ∃ b off row D, a = some ⟨b, off, none⟩ ∧ w.rangeAt b (off + k * sz) row ∧ row.length = sz ∧ Try.prog.keyLits D t row = some l
theorem Kv.below {w w' : World} {t : TypeId} {sz : Nat} {a : Option Addr} {len : Nat} {K : List (List Lit)} (h : Kv w t sz a len K) (hb : Below w.heap.size w w') : Kv w' t sz a len K :=
  ⟨h.size, h.most, fun k l hl => by
    obtain ⟨b, off, row, D, e, hr, h1, h2⟩ := h.cell k l hl
    exact ⟨b, off, row, D, e, vrange_below hr hb, h1, h2⟩⟩
theorem Kv.at {w : World} {t : TypeId} {sz : Nat} {a : Option Addr} {len : Nat} {K : List (List Lit)} (h : Kv w t sz a len K) {k : Nat} (hk : k < len) : ∃ l b off row D, K[k]? = some l ∧ a = some ⟨b, off, none⟩ ∧ w.rangeAt b (off + k * sz) row ∧ row.length = sz ∧ Try.prog.keyLits D t row = some l := by
  obtain ⟨l, hl⟩ : ∃ l, K[k]? = some l := ⟨_, List.getElem?_eq_getElem (by rw [h.size]; exact hk)⟩
  obtain ⟨b, off, row, D, e⟩ := h.cell k l hl
  exact ⟨l, b, off, row, D, hl, e⟩
theorem take_nextK {α : Type} {l : List α} {k : Nat} {x : α} (h : l[k]? = some x) : l.take (k + 1) = l.take k ++ [x] := by
  rw [List.take_add_one, h]
  rfl
end Go.Proofs.Ytkjbcnlhallcdaa
