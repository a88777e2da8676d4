/-
  Lists compared: the law's ints, the document's Same.
-/
import Derived.Test.YtcfkngkenkbkaaaDoorTmBase
import Derived.Deep.QuietTactic
import Derived.Deep.MidRow
import Derived.BigQuiet
import Derived.Laws.StructEq
namespace Go.Proofs.YtcfkngkenkbkaaaDoor
open Classical
open Go.RowKit
set_option linter.unusedVariables false
set_option linter.unusedSimpArgs false

theorem drewN_below {w w' : World} {B : Nat} (h : Below B w w') (n : Nat) : Below B w (w'.drewN n) := ⟨h.os, h.tape, h.output, h.size, h.block⟩
theorem quiet_run {P : Program} {C : World → Prop} {a : Act} {o : Oper} {K : Act → Prop} (v : Value) (h : ∀ w, C w → (execOp a.eval o).run P w = .ok (.value v) w) (hk : K (a.put o.dst v)) : o.quiet P a C K :=
  ⟨v, fun w hw => by unfold Oper.quietAt; rw [h w hw]; exact ⟨rfl, rfl⟩, hk⟩
theorem quiet_neq {P : Program} {C : World → Prop} {a : Act} {o : Oper} {K : Act → Prop} (ty t' : TypeId) (x y : Operand) (ho : o.op = .binOp .neq ty x y t') (A B : Array Value) (hx : a.eval x = .agg A) (hy : a.eval y = .agg B)
    (hg : P.eqGuardType P.depth ty = false) (r : Bool) (hr : ∀ w, (binOp .neq ty (.agg A) (.agg B)).run P w = .ok (.bool r) w) (hk : K (a.put o.dst (.bool r))) : o.quiet P a C K := by
  refine quiet_run _ (fun w hw => ?_) hk
  unfold execOp
  simp only [ho, hx, hy, Sem.run_bind, run_eqGuard_agg _ _ _ _ _ _ _ hg, Result.andThen_ok, hr]
  rfl
theorem part_plain {t : TypeId} {d : TypeDesc} (hu : Tryd.prog.underlying t = some d) (hd : d.isRow = false) {xs : Array Value} {off : Nat} {v : Value} (hx : xs[off]? = some v) (w : World) : (part t xs off).run Tryd.prog w = .ok v w := by
  cases d <;> simp [TypeDesc.isRow] at hd <;> simp [part, isAgg, run_underlying hu, hx]
theorem structTm : Tryd.prog.underlying 68 = some (.struct (Tryd.prog.fieldsOf 68)) := by
  simp only [Program.fieldsOf, Tryd.underlying68]
theorem heldTm : Tryd.prog.stoodInHeld 68 = false := by kernel_rfl
theorem eqFields2 {P : Program} (w : World) (d : Nat) (xs ys : Array Value) (f0 f1 : Field) (n0 : f0.name ≠ "_") (n1 : f1.name ≠ "_") (x0 x1 y0 y1 : Value) (p q : Bool)
    (a0 : (part f0.type xs f0.offset).run P w = .ok x0 w) (a1 : (part f1.type xs f1.offset).run P w = .ok x1 w)
    (c0 : (part f0.type ys f0.offset).run P w = .ok y0 w) (c1 : (part f1.type ys f1.offset).run P w = .ok y1 w)
    (e0 : (Op.equalIn d f0.type x0 y0).run P w = .ok p w) (e1 : (Op.equalIn d f1.type x1 y1).run P w = .ok q w) :
    (Op.eqFields d xs ys [f0, f1]).run P w = .ok (p && q) w := by
  cases p <;> cases q <;> simp only [Op.eqFields, if_pos n0, if_pos n1, Sem.run_bind, Sem.run_ite, a0, a1, c0, c1, Result.andThen_ok, e0, e1, Bool.not_true, Bool.not_false, Bool.false_eq_true, if_false, if_true, Sem.run_pure, Bool.and_self, Bool.and_true, Bool.and_false, Bool.true_and, Bool.false_and]
theorem same_tm (d : Nat) (x y : Tm) (w : World) : (Op.equalIn (d + 2 + 1) 68 (.agg #[.int .i64 x.proc, .int .i64 x.due]) (.agg #[.int .i64 y.proc, .int .i64 y.due])).run Tryd.prog w = .ok (x.proc == y.proc && x.due == y.due) w := by
  rw [run_equalIn_struct (P := Tryd.prog) w (d + 2) 68 _ _ structTm heldTm]
  have a0 : (part 3 #[.int .i64 x.proc, .int .i64 x.due] 0).run Tryd.prog w = .ok (.int .i64 x.proc) w := part_plain Tryd.underlying3 rfl rfl w
  have a1 : (part 3 #[.int .i64 x.proc, .int .i64 x.due] 1).run Tryd.prog w = .ok (.int .i64 x.due) w := part_plain Tryd.underlying3 rfl rfl w
  have c0 : (part 3 #[.int .i64 y.proc, .int .i64 y.due] 0).run Tryd.prog w = .ok (.int .i64 y.proc) w := part_plain Tryd.underlying3 rfl rfl w
  have c1 : (part 3 #[.int .i64 y.proc, .int .i64 y.due] 1).run Tryd.prog w = .ok (.int .i64 y.due) w := part_plain Tryd.underlying3 rfl rfl w
  have e0 := run_equalIn_int (P := Tryd.prog) w (d + 1) 3 .i64 .i64 x.proc y.proc Tryd.underlying3
  have e1 := run_equalIn_int (P := Tryd.prog) w (d + 1) 3 .i64 .i64 x.due y.due Tryd.underlying3
  have hfo := structTm
  rw [Tryd.underlying68] at hfo
  simp only [Option.some.injEq, TypeDesc.struct.injEq] at hfo
  rw [← hfo]
  exact eqFields2 w (d + 2) _ _ _ _ (by decide) (by decide) _ _ _ _ _ _ a0 a1 c0 c1 e0 e1
theorem neq_tm (x y : Tm) (w : World) : (binOp .neq 68 (.agg #[.int .i64 x.proc, .int .i64 x.due]) (.agg #[.int .i64 y.proc, .int .i64 y.due])).run Tryd.prog w = .ok (.bool (!(x.proc == y.proc && x.due == y.due))) w := by
  rw [run_neq_struct, same_tm 9997 x y w]
  rfl
theorem tm_beq (x y : Tm) : (x.proc == y.proc && x.due == y.due) = decide (x = y) := by
  cases x
  cases y
  rw [Bool.eq_iff_iff]
  simp

/-- Numbers. -/
def ci (n : Int) : List Value := [.int .i64 n]
theorem ci1 (n : Int) : (ci n).length = 1 := rfl
theorem ci_one (l : List Int) : ∀ u ∈ l.flatMap ci, u.oneCell' = true := by
  intro u hu
  obtain ⟨p, _, hp⟩ := List.mem_flatMap.1 hu
  simp only [ci, List.mem_cons, List.not_mem_nil, or_false] at hp
  rcases hp with rfl
  rfl
abbrev Is (w : World) (a : Option Addr) (len cap : Nat) (l : List Int) : Prop := Rcs ci 1 w a len cap l
abbrev IOwn (w : World) (base : Nat) (v : Value) (l : List Int) : Prop := w.ownsRow base 3 1 v l.length (l.flatMap ci)
theorem iown_nil (w : World) (base : Nat) : IOwn w base (.slice none 0 0) [] := World.ownsRow_nil _ _ _ _
theorem iown_is {w : World} {base : Nat} {v : Value} {l : List Int} (h : IOwn w base v l) : ∃ a c, v = .slice a l.length c ∧ Is w a l.length c l := by
  obtain ⟨a, c, e, hr⟩ := RLk.row (.inl h)
  exact ⟨a, c, e, rfl, hr⟩
theorem infoInt : ∃ i z, Tryd.prog.info? 3 = some i ∧ i.zero = some z ∧ i.size = 1 ∧ i.bytes = 8 ∧ z.cells.size = 1 := by
  have h : (Tryd.prog.info? 3).map (fun i => (i.size, i.bytes, i.zero.map (·.cells.size))) = some (1, 8, some 1) := by kernel_rfl
  cases hi : Tryd.prog.info? 3 with
  | none => simp [hi] at h
  | some i =>
    simp only [hi, Option.map_some, Option.some.injEq, Prod.mk.injEq] at h
    obtain ⟨h1, h2, h3⟩ := h
    cases hz : i.zero with
    | none => simp [hz] at h3
    | some z => exact ⟨i, z, rfl, hz, h1, h2, by simpa [hz] using h3⟩
end Go.Proofs.YtcfkngkenkbkaaaDoor
