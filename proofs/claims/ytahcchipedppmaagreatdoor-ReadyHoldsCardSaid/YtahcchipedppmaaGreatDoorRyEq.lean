/-
  The document's Equal of two tables that show the same.
-/
import Derived.Test.YtahcchipedppmaaGreatDoorRyRGood
import Derived.Test.YtahcchipedppmaaGreatDoorRyOwn
import Derived.Laws.StructEq
import Derived.Deep.QuietTactic
import Derived.Deep.MidRow
import Derived.BigQuiet
namespace Go.Proofs.YtahcchipedppmaaGreatDoor
open Go.RowKit
set_option linter.unusedVariables false
set_option linter.unusedSimpArgs false

theorem quiet_load_mid {P : Program} {w0 : World} {a : Act} {o : Oper} {K : Act → Prop} (ty : TypeId) (x : Operand) (ho : o.op = .load ty x)
    (b off : Nat) (hx : a.eval x = .pointer (some ⟨b, off, none⟩)) (cs : List Value) (d : TypeDesc) (hc : w0.rangeAt b off cs)
    (hu : P.underlying ty = some d) (hd : d.isRow = true) (hi : (P.info? ty).map (·.size) = some cs.length) (hk : K (a.put o.dst (.agg cs.toArray))) : o.quiet P a (fun w' => ∃ n, w' = w0.drewN n) K := by
  refine quiet_run _ (fun w hw => ?_) hk
  obtain ⟨n, rfl⟩ := hw
  have hc' : (w0.drewN n).rangeAt b off cs := hc
  unfold execOp
  simp only [ho, hx, Instr.loadAt, Instr.sureAddr, Sem.run_bind, Sem.run_pure, Result.andThen_ok, run_loadVar_mid _ b off ty cs d hc' hu hd hi]
theorem equalIn_self {P : Program} (w : World) (d : Nat) (t e : TypeId) (n : Nat) (k k' : IntKind) (ht : P.underlying t = some (.array n e)) (he : P.underlying e = some (.int k')) (hsz : ∀ w, (sizeOf e).run P w = .ok 1 w)
    (xs : List Int) (hx : xs.length = n) : (Op.equalIn (d + 2) t (.agg (xs.map (Value.int k)).toArray) (.agg (xs.map (Value.int k)).toArray)).run P w = .ok true w := by
  rw [Op.equalIn]
  simp only [Sem.run_bind, run_underlying ht, Result.andThen_ok, hsz, Std.Legacy.Range.forIn_eq_forIn_range', Std.Legacy.Range.size, Nat.sub_zero, Nat.add_sub_cancel, Nat.div_one]
  have hl : ∀ i ∈ List.range' 0 n 1, i < n := fun i hi => by simpa using (List.mem_range'_1.1 hi).2
  generalize List.range' 0 n 1 = l at hl ⊢
  induction l with
  | nil => simp
  | cons i l ih =>
    have hi : i < n := hl i (by simp)
    have px : (part e (xs.map (Value.int k)).toArray (i * 1)).run P w = .ok (.int k (xs.getD i 0)) w := by
      simp [part, isAgg, run_underlying he, List.getD, List.getElem?_eq_getElem (show i < xs.length by omega)]
    have pe : (Op.equalIn (d + 1) e (.int k (xs.getD i 0)) (.int k (xs.getD i 0))).run P w = .ok true w := by
      rw [run_equalIn_int w d e k k' _ _ he, beq_self_eq_true]
    simp only [List.forIn_cons, Sem.run_bind, px, pe, Result.andThen_ok]
    simp only [Bool.not_true, Bool.false_eq_true, if_false, Sem.run_pure, Result.andThen_ok]
    exact ih fun j hj => hl j (by simp [hj])
def Pro.regs (p : Pro) : List Int := [p.r0, p.r1, p.r2, p.r3, p.r4, p.r5, p.r6, p.r7, p.r8, p.r9, p.r10, p.r11, p.r12, p.r13, p.r14, p.r15]
theorem sizeU32 : ∀ w, (sizeOf 37).run Tryz.prog w = .ok 1 w := by
  intro w
  have h : (Tryz.prog.info? 37).map (·.size) = some 1 := by kernel_rfl
  cases hq : Tryz.prog.info? 37 with
  | none => simp [hq] at h
  | some i => simp [sizeOf, typeInfo, hq]; simpa [hq] using h
theorem sizeRegs : (Tryz.prog.info? 62).map (·.size) = some 16 := by kernel_rfl
theorem part_regs (p : Pro) (w : World) : (part 62 p.cells.toArray 0).run Tryz.prog w = .ok (.agg (p.regs.map (Value.int .u32)).toArray) w := by
  have hs := sizeRegs
  cases hq : Tryz.prog.info? 62 with
  | none => simp [hq] at hs
  | some i =>
    have hi : i.size = 16 := by simpa [hq] using hs
    have he : List.take 16 (List.drop 0 p.cells) = p.regs.map (Value.int .u32) := rfl
    simp [part, isAgg, run_underlying Tryz.underlying62, sizeOf, typeInfo, hq, hi, Pro.cells, Pro.regs]
theorem structPro : Tryz.prog.underlying 64 = some (.struct (Tryz.prog.fieldsOf 64)) := by
  simp only [Program.fieldsOf, Tryz.underlying64]
theorem heldPro : Tryz.prog.stoodInHeld 64 = false := by kernel_rfl
theorem eqFields6 {P : Program} (w : World) (d : Nat) (xs : Array Value) (f0 f1 f2 f3 f4 f5 : Field) (n0 : f0.name ≠ "_") (n1 : f1.name ≠ "_") (n2 : f2.name ≠ "_") (n3 : f3.name ≠ "_") (n4 : f4.name ≠ "_") (n5 : f5.name ≠ "_") (x0 x1 x2 x3 x4 x5 : Value)
    (a0 : (part f0.type xs f0.offset).run P w = .ok x0 w) (a1 : (part f1.type xs f1.offset).run P w = .ok x1 w) (a2 : (part f2.type xs f2.offset).run P w = .ok x2 w) (a3 : (part f3.type xs f3.offset).run P w = .ok x3 w) (a4 : (part f4.type xs f4.offset).run P w = .ok x4 w) (a5 : (part f5.type xs f5.offset).run P w = .ok x5 w)
    (e0 : (Op.equalIn d f0.type x0 x0).run P w = .ok true w) (e1 : (Op.equalIn d f1.type x1 x1).run P w = .ok true w) (e2 : (Op.equalIn d f2.type x2 x2).run P w = .ok true w) (e3 : (Op.equalIn d f3.type x3 x3).run P w = .ok true w) (e4 : (Op.equalIn d f4.type x4 x4).run P w = .ok true w) (e5 : (Op.equalIn d f5.type x5 x5).run P w = .ok true w) :
    (Op.eqFields d xs xs [f0, f1, f2, f3, f4, f5]).run P w = .ok true w := by
  simp only [Op.eqFields, if_pos n0, if_pos n1, if_pos n2, if_pos n3, if_pos n4, if_pos n5, Sem.run_bind, Sem.run_ite, a0, a1, a2, a3, a4, a5, Result.andThen_ok, e0, e1, e2, e3, e4, e5, Bool.not_true, Bool.false_eq_true, if_false, Sem.run_pure]
theorem same_pro (d : Nat) (p : Pro) (w : World) : (Op.equalIn (d + 2 + 1) 64 (.agg p.cells.toArray) (.agg p.cells.toArray)).run Tryz.prog w = .ok true w := by
  rw [run_equalIn_struct (P := Tryz.prog) w (d + 2) 64 _ _ structPro heldPro]
  have a0 := part_regs p w
  have a1 : (part 37 p.cells.toArray 16).run Tryz.prog w = .ok (.int .u32 p.pc) w := part_plain Tryz.underlying37 rfl rfl w
  have a2 : (part 3 p.cells.toArray 17).run Tryz.prog w = .ok (.int .i64 p.state) w := part_plain Tryz.underlying3 rfl rfl w
  have a3 : (part 3 p.cells.toArray 18).run Tryz.prog w = .ok (.int .i64 p.prio) w := part_plain Tryz.underlying3 rfl rfl w
  have a4 : (part 3 p.cells.toArray 19).run Tryz.prog w = .ok (.int .i64 p.wait) w := part_plain Tryz.underlying3 rfl rfl w
  have a5 : (part 3 p.cells.toArray 20).run Tryz.prog w = .ok (.int .i64 p.obj) w := part_plain Tryz.underlying3 rfl rfl w
  have e0 := equalIn_self (P := Tryz.prog) w d 62 37 16 .u32 .u32 Tryz.underlying62 Tryz.underlying37 sizeU32 p.regs rfl
  have e1 := run_equalIn_int (P := Tryz.prog) w (d + 1) 37 .u32 .u32 p.pc p.pc Tryz.underlying37
  have e2 := run_equalIn_int (P := Tryz.prog) w (d + 1) 3 .i64 .i64 p.state p.state Tryz.underlying3
  have e3 := run_equalIn_int (P := Tryz.prog) w (d + 1) 3 .i64 .i64 p.prio p.prio Tryz.underlying3
  have e4 := run_equalIn_int (P := Tryz.prog) w (d + 1) 3 .i64 .i64 p.wait p.wait Tryz.underlying3
  have e5 := run_equalIn_int (P := Tryz.prog) w (d + 1) 3 .i64 .i64 p.obj p.obj Tryz.underlying3
  have hfo := structPro
  rw [Tryz.underlying64] at hfo
  simp only [Option.some.injEq, TypeDesc.struct.injEq] at hfo
  rw [← hfo]
  rw [beq_self_eq_true] at e1 e2 e3 e4 e5
  exact eqFields6 w (d + 2) _ _ _ _ _ _ _ (by decide) (by decide) (by decide) (by decide) (by decide) (by decide) _ _ _ _ _ _ a0 a1 a2 a3 a4 a5 e0 e1 e2 e3 e4 e5
theorem neq_pro (p : Pro) (w : World) : (binOp .neq 64 (.agg p.cells.toArray) (.agg p.cells.toArray)).run Tryz.prog w = .ok (.bool false) w := by
  rw [run_neq_struct, same_pro 9997 p w]
  rfl
theorem neq_tm_self (x : Tm) (w : World) : (binOp .neq 51 (.agg x.cells.toArray) (.agg x.cells.toArray)).run Tryz.prog w = .ok (.bool false) w := by
  have := neq_tm x x w
  simp only [beq_self_eq_true, Bool.and_self, Bool.not_true] at this
  exact this
theorem sizeTm : (Tryz.prog.info? 51).map (·.size) = some 2 := by kernel_rfl

end Go.Proofs.YtahcchipedppmaaGreatDoor
