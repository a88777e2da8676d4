/-
  A process compared; laws for operations behind a guard.
-/
import Derived.Test.YteopkgjkbhcicaaDoorCmRun
import Derived.DeepKeys
namespace Go.Proofs.YteopkgjkbhcicaaDoor
open Go.RowKit FerryCrc FerryAlu
set_option linter.unusedVariables false
set_option linter.unusedSimpArgs false

theorem wpList_load_g {P : Program} {ops : Array Oper} {rest : List Oper} {op : Oper} {a : Act} {w : World} {Q : Exit → Act → World → Prop} (hw : Region.wanted op (yielded ops a.tmps) = true) (ty : TypeId) (x : Operand) (ho : op.op = .load ty x)
    (b o : Nat) (hx : a.eval x = .pointer (some ⟨b, o, none⟩)) (cs : List Value) (d : TypeDesc) (hc : w.rangeAt b o cs) (hu : P.underlying ty = some d) (hd : d.isRow = true) (hi : (P.info? ty).map (·.size) = some cs.length)
    (h : wpList P ops Q rest (a.put op.dst (.agg cs.toArray)) w) : wpList P ops Q (op :: rest) a w :=
  wpList_step fun K hK => by rw [if_pos hw]; exact wp_load_mid ty x ho b o hx cs d hc hu hd hi (hK _ _ h)
theorem wpList_run_g {P : Program} {ops : Array Oper} {rest : List Oper} {op : Oper} {a : Act} {w : World} {Q : Exit → Act → World → Prop} (hw : Region.wanted op (yielded ops a.tmps) = true) (v : Value) (hrun : (execOp a.eval op).run P w = .ok (.value v) w)
    (h : wpList P ops Q rest (a.put op.dst v) w) : wpList P ops Q (op :: rest) a w :=
  wpList_step fun K hK => by
    rw [if_pos hw]
    unfold Oper.wp
    rw [hrun]
    exact hK _ _ h
theorem regs_list {l : List Nat} (h : l.length = 16) : ∃ r0 r1 r2 r3 r4 r5 r6 r7 r8 r9 r10 r11 r12 r13 r14 r15 : Nat, l = [r0, r1, r2, r3, r4, r5, r6, r7, r8, r9, r10, r11, r12, r13, r14, r15] := by
  match l, h with
  | [r0, r1, r2, r3, r4, r5, r6, r7, r8, r9, r10, r11, r12, r13, r14, r15], _ => exact ⟨r0, r1, r2, r3, r4, r5, r6, r7, r8, r9, r10, r11, r12, r13, r14, r15, rfl⟩
theorem key23 (r : Nat) (h : r < 4294967296) : Tryd.prog.keyLits 4 23 [.int .u32 (r : Int)] = some [.int .u32 (r : Int)] := by
  have hw : (Lit.int .u32 (r : Int)).wf = true := by
    have h0 : IntKind.u32.min = 0 := rfl
    have h1 : IntKind.u32.max = 4294967295 := rfl
    simp [Lit.wf, h0, h1]
    omega
  unfold Program.keyLits
  simp [Tryd.underlying23, hw]
set_option maxRecDepth 100000 in
theorem eq_arr (r0 r1 r2 r3 r4 r5 r6 r7 r8 r9 r10 r11 r12 r13 r14 r15 : Nat) (h0 : r0 < 4294967296) (h1 : r1 < 4294967296) (h2 : r2 < 4294967296) (h3 : r3 < 4294967296) (h4 : r4 < 4294967296) (h5 : r5 < 4294967296) (h6 : r6 < 4294967296) (h7 : r7 < 4294967296) (h8 : r8 < 4294967296) (h9 : r9 < 4294967296) (h10 : r10 < 4294967296) (h11 : r11 < 4294967296) (h12 : r12 < 4294967296) (h13 : r13 < 4294967296) (h14 : r14 < 4294967296) (h15 : r15 < 4294967296) (w : World) : (Op.equalIn 9999 24 (.agg #[.int .u32 (r0 : Int), .int .u32 (r1 : Int), .int .u32 (r2 : Int), .int .u32 (r3 : Int), .int .u32 (r4 : Int), .int .u32 (r5 : Int), .int .u32 (r6 : Int), .int .u32 (r7 : Int), .int .u32 (r8 : Int), .int .u32 (r9 : Int), .int .u32 (r10 : Int), .int .u32 (r11 : Int), .int .u32 (r12 : Int), .int .u32 (r13 : Int), .int .u32 (r14 : Int), .int .u32 (r15 : Int)]) (.agg #[.int .u32 (r0 : Int), .int .u32 (r1 : Int), .int .u32 (r2 : Int), .int .u32 (r3 : Int), .int .u32 (r4 : Int), .int .u32 (r5 : Int), .int .u32 (r6 : Int), .int .u32 (r7 : Int), .int .u32 (r8 : Int), .int .u32 (r9 : Int), .int .u32 (r10 : Int), .int .u32 (r11 : Int), .int .u32 (r12 : Int), .int .u32 (r13 : Int), .int .u32 (r14 : Int), .int .u32 (r15 : Int)])).run Tryd.prog w = .ok true w := by
  have hk : ∃ la, Tryd.prog.keyLits 5 24 [.int .u32 (r0 : Int), .int .u32 (r1 : Int), .int .u32 (r2 : Int), .int .u32 (r3 : Int), .int .u32 (r4 : Int), .int .u32 (r5 : Int), .int .u32 (r6 : Int), .int .u32 (r7 : Int), .int .u32 (r8 : Int), .int .u32 (r9 : Int), .int .u32 (r10 : Int), .int .u32 (r11 : Int), .int .u32 (r12 : Int), .int .u32 (r13 : Int), .int .u32 (r14 : Int), .int .u32 (r15 : Int)] = some la := by
    unfold Program.keyLits
    simp only [Tryd.underlying24]
    rw [if_pos (by kernel_rfl), show Tryd.prog.cellsOf 23 = 1 by kernel_rfl]
    refine ⟨[.int .u32 (r0 : Int), .int .u32 (r1 : Int), .int .u32 (r2 : Int), .int .u32 (r3 : Int), .int .u32 (r4 : Int), .int .u32 (r5 : Int), .int .u32 (r6 : Int), .int .u32 (r7 : Int), .int .u32 (r8 : Int), .int .u32 (r9 : Int), .int .u32 (r10 : Int), .int .u32 (r11 : Int), .int .u32 (r12 : Int), .int .u32 (r13 : Int), .int .u32 (r14 : Int), .int .u32 (r15 : Int)], ?_⟩
    simp [List.range, List.range.loop, key23 r0 h0, key23 r1 h1, key23 r2 h2, key23 r3 h3, key23 r4 h4, key23 r5 h5, key23 r6 h6, key23 r7 h7, key23 r8 h8, key23 r9 h9, key23 r10 h10, key23 r11 h11, key23 r12 h12, key23 r13 h13, key23 r14 h14, key23 r15 h15]
  obtain ⟨la, hl⟩ := hk
  obtain ⟨r, h1, h2⟩ := run_equalIn_deep (P := Tryd.prog) 9997 2 24 (by kernel_rfl) w 5 5 (.agg #[.int .u32 (r0 : Int), .int .u32 (r1 : Int), .int .u32 (r2 : Int), .int .u32 (r3 : Int), .int .u32 (r4 : Int), .int .u32 (r5 : Int), .int .u32 (r6 : Int), .int .u32 (r7 : Int), .int .u32 (r8 : Int), .int .u32 (r9 : Int), .int .u32 (r10 : Int), .int .u32 (r11 : Int), .int .u32 (r12 : Int), .int .u32 (r13 : Int), .int .u32 (r14 : Int), .int .u32 (r15 : Int)]) (.agg #[.int .u32 (r0 : Int), .int .u32 (r1 : Int), .int .u32 (r2 : Int), .int .u32 (r3 : Int), .int .u32 (r4 : Int), .int .u32 (r5 : Int), .int .u32 (r6 : Int), .int .u32 (r7 : Int), .int .u32 (r8 : Int), .int .u32 (r9 : Int), .int .u32 (r10 : Int), .int .u32 (r11 : Int), .int .u32 (r12 : Int), .int .u32 (r13 : Int), .int .u32 (r14 : Int), .int .u32 (r15 : Int)]) la la (by kernel_rfl) (by kernel_rfl) hl hl
  rw [h1, h2.2 rfl]
set_option maxRecDepth 100000 in
set_option maxHeartbeats 4000000 in
theorem eq_procx (r0 r1 r2 r3 r4 r5 r6 r7 r8 r9 r10 r11 r12 r13 r14 r15 pc : Nat) (h0 : r0 < 4294967296) (h1 : r1 < 4294967296) (h2 : r2 < 4294967296) (h3 : r3 < 4294967296) (h4 : r4 < 4294967296) (h5 : r5 < 4294967296) (h6 : r6 < 4294967296) (h7 : r7 < 4294967296) (h8 : r8 < 4294967296) (h9 : r9 < 4294967296) (h10 : r10 < 4294967296) (h11 : r11 < 4294967296) (h12 : r12 < 4294967296) (h13 : r13 < 4294967296) (h14 : r14 < 4294967296) (h15 : r15 < 4294967296) (st pr wa ob : Int) (w : World) : (binOp .eql 26 (.agg #[.int .u32 (r0 : Int), .int .u32 (r1 : Int), .int .u32 (r2 : Int), .int .u32 (r3 : Int), .int .u32 (r4 : Int), .int .u32 (r5 : Int), .int .u32 (r6 : Int), .int .u32 (r7 : Int), .int .u32 (r8 : Int), .int .u32 (r9 : Int), .int .u32 (r10 : Int), .int .u32 (r11 : Int), .int .u32 (r12 : Int), .int .u32 (r13 : Int), .int .u32 (r14 : Int), .int .u32 (r15 : Int), .int .u32 (pc : Int), .int .i64 st, .int .i64 pr, .int .i64 wa, .int .i64 ob]) (.agg #[.int .u32 (r0 : Int), .int .u32 (r1 : Int), .int .u32 (r2 : Int), .int .u32 (r3 : Int), .int .u32 (r4 : Int), .int .u32 (r5 : Int), .int .u32 (r6 : Int), .int .u32 (r7 : Int), .int .u32 (r8 : Int), .int .u32 (r9 : Int), .int .u32 (r10 : Int), .int .u32 (r11 : Int), .int .u32 (r12 : Int), .int .u32 (r13 : Int), .int .u32 (r14 : Int), .int .u32 (r15 : Int), .int .u32 (pc : Int), .int .i64 st, .int .i64 pr, .int .i64 wa, .int .i64 ob])).run Tryd.prog w = .ok (.bool true) w := by
  go_simp
  rw [eq_arr r0 r1 r2 r3 r4 r5 r6 r7 r8 r9 r10 r11 r12 r13 r14 r15 h0 h1 h2 h3 h4 h5 h6 h7 h8 h9 h10 h11 h12 h13 h14 h15]
  go_simp
theorem eq_proc {m : Mc} (ok : m.Ok) (w : World) : (binOp .eql 26 (.agg m.proc.toArray) (.agg m.proc.toArray)).run Tryd.prog w = .ok (.bool true) w := by
  obtain ⟨r0, r1, r2, r3, r4, r5, r6, r7, r8, r9, r10, r11, r12, r13, r14, r15, hr⟩ := regs_list ok.size
  obtain ⟨l, regs, pc, st, pr, wa, ob⟩ := m
  simp only at hr
  subst hr
  exact eq_procx r0 r1 r2 r3 r4 r5 r6 r7 r8 r9 r10 r11 r12 r13 r14 r15 pc (ok.small r0 (by simp)) (ok.small r1 (by simp)) (ok.small r2 (by simp)) (ok.small r3 (by simp)) (ok.small r4 (by simp)) (ok.small r5 (by simp)) (ok.small r6 (by simp)) (ok.small r7 (by simp)) (ok.small r8 (by simp)) (ok.small r9 (by simp)) (ok.small r10 (by simp)) (ok.small r11 (by simp)) (ok.small r12 (by simp)) (ok.small r13 (by simp)) (ok.small r14 (by simp)) (ok.small r15 (by simp)) st pr wa ob w
theorem eql_proc {m : Mc} (ok : m.Ok) (ev : Operand → Value) (x y : Operand) (hx : ev x = .agg m.proc.toArray) (hy : ev y = .agg m.proc.toArray) (o : Oper) (t : TypeId) (ho : o.op = .binOp .eql 26 x y t) (w : World) : (execOp ev o).run Tryd.prog w = .ok (.value (.bool true)) w := by
  unfold execOp
  simp only [ho, hx, hy, Sem.run_bind, run_eqGuard_agg _ _ _ _ _ _ _ (show Tryd.prog.eqGuardType Tryd.prog.depth 26 = false by kernel_rfl), Result.andThen_ok, eq_proc ok]
  rfl
/-- Two new blocks written whole. -/
theorem keep2 (w1 : World) (x y : Array Value) (P S : List Value) (t u : TypeId) (hx : x.size = P.length) (hy : y.size = S.length) :
    ((w1.alloc (.cells x t)).alloc (.cells y u)).there w1.heap.size 0 P.length ∧ (((w1.alloc (.cells x t)).alloc (.cells y u)).setCells w1.heap.size 0 P).there (w1.heap.size + 1) 0 S.length ∧
    Bl ((((w1.alloc (.cells x t)).alloc (.cells y u)).setCells w1.heap.size 0 P).setCells (w1.heap.size + 1) 0 S) w1.heap.size P ∧ Bl ((((w1.alloc (.cells x t)).alloc (.cells y u)).setCells w1.heap.size 0 P).setCells (w1.heap.size + 1) 0 S) (w1.heap.size + 1) S ∧
    Below w1.heap.size w1 ((((w1.alloc (.cells x t)).alloc (.cells y u)).setCells w1.heap.size 0 P).setCells (w1.heap.size + 1) 0 S) ∧ ((((w1.alloc (.cells x t)).alloc (.cells y u)).setCells w1.heap.size 0 P).setCells (w1.heap.size + 1) 0 S).heap.size = w1.heap.size + 2 := by
  have h1 := bl_alloc w1 x t
  have s1 : (w1.alloc (.cells x t)).heap.size = w1.heap.size + 1 := by simp
  have b1 : Below w1.heap.size w1 (w1.alloc (.cells x t)) := (Below.refl _ _).alloc (Nat.le_refl _) _
  generalize w1.alloc (.cells x t) = w2 at *
  have h2 := bl_alloc w2 y u
  have s2 : (w2.alloc (.cells y u)).heap.size = w2.heap.size + 1 := by simp
  have b2 : Below w2.heap.size w2 (w2.alloc (.cells y u)) := (Below.refl _ _).alloc (Nat.le_refl _) _
  have h1b := h1.below (by omega) b2
  rw [s1] at h2
  generalize w2.alloc (.cells y u) = w3 at *
  have l1 : x.toList.length = P.length := by simpa using hx
  have l2 : y.toList.length = S.length := by simpa using hy
  have k1 := bl_setCells (vs := P) h1b l1
  have k2 := h2.farCells (g' := w1.heap.size) (o := 0) (vs := P) (by omega)
  have b3 : Below w1.heap.size w1 w3 := b1.trans (b2.mono (by omega))
  refine ⟨by have := bl_there h1b; rwa [l1] at this, by have := bl_there k2; rwa [l2] at this, k1.farCells (by omega), bl_setCells k2 l2, below_setCells (by omega) _ _ _ (below_setCells (Nat.le_refl _) _ _ _ b3), ?_⟩
  rw [setCells_size, setCells_size]
  omega
set_option maxRecDepth 100000 in
theorem bounded_any (n : Int) (w : World) : Calls Tryd.prog 9 #[.int .i64 n] w fun e w' => e = .returned (.int .i64 (if 3000 < n then 3000 else n)) ∧ w = w' := by
  go_enter Tryd.func9, Tryd.ntmps9
  by_cases h : 3000 < n
  · rw [if_pos h]
    go_wp2
    go_ret
    exact ⟨rfl, rfl⟩
  · rw [if_neg h]
    go_wp2
    go_ret
    exact ⟨rfl, rfl⟩
end Go.Proofs.YteopkgjkbhcicaaDoor
