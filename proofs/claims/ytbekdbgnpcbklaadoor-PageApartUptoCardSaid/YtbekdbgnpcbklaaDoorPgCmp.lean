/-
  Comparing pages: the document's and the program's Differ and Alike, the document's Same.
-/
import Derived.Test.YtbekdbgnpcbklaaDoorPgBase
import Derived.Stop.BytesEq
import Derived.Deep.RegionHeld3
import Derived.BigQuiet
namespace Go.Proofs.YtbekdbgnpcbklaaDoor
open Go.RowKit FerryCrc
set_option linter.unusedVariables false

theorem row_cells {l : List Nat} (h : ∀ c ∈ l, c < 256) : l.map bv = (l.map UInt8.ofNat).map Extern.Stop.cell := by
  rw [List.map_map]
  refine List.map_congr_left fun c hc => ?_
  have := h c hc
  simp [bv, Extern.Stop.cell]
  omega
theorem row_eq {l m : List Nat} (h : ∀ c ∈ l, c < 256) (h' : ∀ c ∈ m, c < 256) : (l.map UInt8.ofNat == m.map UInt8.ofNat) = decide (l = m) := by
  rw [Bool.eq_iff_iff]
  simp only [beq_iff_eq, decide_eq_true_eq]
  constructor
  · intro e
    have e2 := congrArg (List.map UInt8.toNat) e
    simp only [List.map_map] at e2
    rw [List.map_congr_left (g := id) (fun c hc => by have := h c hc; simp; omega), List.map_congr_left (l := m) (g := id) (fun c hc => by have := h' c hc; simp; omega)] at e2
    simpa using e2
  · intro e; rw [e]
theorem size1 : ∀ w, (sizeOf 5).run Tryd.prog w = .ok 1 w := by
  intro w
  have h : (Tryd.prog.info? 5).map (·.size) = some 1 := by kernel_rfl
  cases hq : Tryd.prog.info? 5 with
  | none => simp [hq] at h
  | some i => simp [sizeOf, typeInfo, hq]; simpa [hq] using h
theorem eq_rows (d : Nat) {p q : Pg} (hp : p.Ok) (hq : q.Ok) (w : World) : (Op.equalIn (d + 2) 57 (.agg p.row.toArray) (.agg q.row.toArray)).run Tryd.prog w = .ok (decide (p.data = q.data)) w := by
  have := run_equalIn_bytes (P := Tryd.prog) w d 57 5 64 Tryd.underlying57 Tryd.underlying5 size1 (p.data.map UInt8.ofNat) (q.data.map UInt8.ofNat) (by simp [hp.size]) (by simp [hq.size])
  unfold Pg.row
  rw [row_cells hp.small, row_cells hq.small, this, row_eq hp.small hq.small]
theorem neq_rows {p q : Pg} (hp : p.Ok) (hq : q.Ok) (w : World) : (binOp .neq 57 (.agg p.row.toArray) (.agg q.row.toArray)).run Tryd.prog w = .ok (.bool (!decide (p.data = q.data))) w := by
  rw [run_neq_struct, eq_rows 9998 hp hq w]
  rfl
theorem quiet_run {P : Program} {C : World → Prop} {a : Act} {o : Oper} {K : Act → Prop} (v : Value) (h : ∀ w, C w → (execOp a.eval o).run P w = .ok (.value v) w) (hk : K (a.put o.dst v)) : o.quiet P a C K :=
  ⟨v, fun w hw => by unfold Oper.quietAt; rw [h w hw]; exact ⟨rfl, rfl⟩, hk⟩
theorem quiet_load_mid {P : Program} {w0 : World} {a : Act} {o : Oper} {K : Act → Prop} (ty : TypeId) (x : Operand) (ho : o.op = .load ty x)
    (b off : Nat) (hx : a.eval x = .pointer (some ⟨b, off, none⟩)) (cs : List Value) (d : TypeDesc) (hc : w0.rangeAt b off cs)
    (hu : P.underlying ty = some d) (hd : d.isRow = true) (hi : (P.info? ty).map (·.size) = some cs.length) (hk : K (a.put o.dst (.agg cs.toArray))) : o.quiet P a (fun w' => ∃ n, w' = w0.drewN n) K := by
  refine quiet_run _ (fun w hw => ?_) hk
  obtain ⟨n, rfl⟩ := hw
  have hc' : (w0.drewN n).rangeAt b off cs := hc
  unfold execOp
  simp only [ho, hx, Instr.loadAt, Instr.sureAddr, Sem.run_bind, Sem.run_pure, Result.andThen_ok, run_loadVar_mid _ b off ty cs d hc' hu hd hi]
theorem quiet_neq {P : Program} {C : World → Prop} {a : Act} {o : Oper} {K : Act → Prop} (ty t' : TypeId) (x y : Operand) (ho : o.op = .binOp .neq ty x y t') (A B : Array Value) (hx : a.eval x = .agg A) (hy : a.eval y = .agg B)
    (hg : P.eqGuardType P.depth ty = false) (r : Bool) (hr : ∀ w, (binOp .neq ty (.agg A) (.agg B)).run P w = .ok (.bool r) w) (hk : K (a.put o.dst (.bool r))) : o.quiet P a C K := by
  refine quiet_run _ (fun w hw => ?_) hk
  unfold execOp
  simp only [ho, hx, hy, Sem.run_bind, run_eqGuard_agg _ _ _ _ _ _ _ hg, Result.andThen_ok, hr]
  rfl
end Go.Proofs.YtbekdbgnpcbklaaDoor
