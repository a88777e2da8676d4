/-
  What a run leaves in two blocks of one's own, stops and processes compared, a list of operations cut in two, a record laid into a new block.
-/
import Derived.Test.YtegkodgondlcmaaDoorCmOne
import Derived.Deep.WholeRow
namespace Go.Proofs.YtegkodgondlcmaaDoor
open Go.RowKit FerryCrc FerryAlu
set_option linter.unusedVariables false
set_option linter.unusedSimpArgs false

theorem one_alloc (w : World) (x : Array Value) (t : TypeId) : Bl (w.alloc (.cells x t)) w.heap.size x.toList ∧ Below w.heap.size w (w.alloc (.cells x t)) ∧ (w.alloc (.cells x t)).heap.size = w.heap.size + 1 :=
  ⟨bl_alloc w x t, (Below.refl _ _).alloc (Nat.le_refl _) _, by simp⟩

set_option maxRecDepth 100000 in
set_option maxHeartbeats 4000000 in
theorem ne_procx (r0 r1 r2 r3 r4 r5 r6 r7 r8 r9 r10 r11 r12 r13 r14 r15 pc : Nat) (h0 : r0 < 4294967296) (h1 : r1 < 4294967296) (h2 : r2 < 4294967296) (h3 : r3 < 4294967296) (h4 : r4 < 4294967296) (h5 : r5 < 4294967296) (h6 : r6 < 4294967296) (h7 : r7 < 4294967296) (h8 : r8 < 4294967296) (h9 : r9 < 4294967296) (h10 : r10 < 4294967296) (h11 : r11 < 4294967296) (h12 : r12 < 4294967296) (h13 : r13 < 4294967296) (h14 : r14 < 4294967296) (h15 : r15 < 4294967296) (st pr wa ob : Int) (w : World) : (binOp .neq 26 (.agg #[.int .u32 (r0 : Int), .int .u32 (r1 : Int), .int .u32 (r2 : Int), .int .u32 (r3 : Int), .int .u32 (r4 : Int), .int .u32 (r5 : Int), .int .u32 (r6 : Int), .int .u32 (r7 : Int), .int .u32 (r8 : Int), .int .u32 (r9 : Int), .int .u32 (r10 : Int), .int .u32 (r11 : Int), .int .u32 (r12 : Int), .int .u32 (r13 : Int), .int .u32 (r14 : Int), .int .u32 (r15 : Int), .int .u32 (pc : Int), .int .i64 st, .int .i64 pr, .int .i64 wa, .int .i64 ob]) (.agg #[.int .u32 (r0 : Int), .int .u32 (r1 : Int), .int .u32 (r2 : Int), .int .u32 (r3 : Int), .int .u32 (r4 : Int), .int .u32 (r5 : Int), .int .u32 (r6 : Int), .int .u32 (r7 : Int), .int .u32 (r8 : Int), .int .u32 (r9 : Int), .int .u32 (r10 : Int), .int .u32 (r11 : Int), .int .u32 (r12 : Int), .int .u32 (r13 : Int), .int .u32 (r14 : Int), .int .u32 (r15 : Int), .int .u32 (pc : Int), .int .i64 st, .int .i64 pr, .int .i64 wa, .int .i64 ob])).run Tryd.prog w = .ok (.bool false) w := by
  go_simp
  rw [eq_arr r0 r1 r2 r3 r4 r5 r6 r7 r8 r9 r10 r11 r12 r13 r14 r15 h0 h1 h2 h3 h4 h5 h6 h7 h8 h9 h10 h11 h12 h13 h14 h15]
  go_simp
theorem ne_proc {m : Mc} (ok : m.Ok) (w : World) : (binOp .neq 26 (.agg m.proc.toArray) (.agg m.proc.toArray)).run Tryd.prog w = .ok (.bool false) w := by
  obtain ⟨r0, r1, r2, r3, r4, r5, r6, r7, r8, r9, r10, r11, r12, r13, r14, r15, hr⟩ := regs_list ok.size
  obtain ⟨l, regs, pc, st, pr, wa, ob⟩ := m
  simp only at hr
  subst hr
  exact ne_procx r0 r1 r2 r3 r4 r5 r6 r7 r8 r9 r10 r11 r12 r13 r14 r15 pc (ok.small r0 (by simp)) (ok.small r1 (by simp)) (ok.small r2 (by simp)) (ok.small r3 (by simp)) (ok.small r4 (by simp)) (ok.small r5 (by simp)) (ok.small r6 (by simp)) (ok.small r7 (by simp)) (ok.small r8 (by simp)) (ok.small r9 (by simp)) (ok.small r10 (by simp)) (ok.small r11 (by simp)) (ok.small r12 (by simp)) (ok.small r13 (by simp)) (ok.small r14 (by simp)) (ok.small r15 (by simp)) st pr wa ob w
theorem neq_proc {m : Mc} (ok : m.Ok) (ev : Operand → Value) (x y : Operand) (hx : ev x = .agg m.proc.toArray) (hy : ev y = .agg m.proc.toArray) (o : Oper) (t : TypeId) (ho : o.op = .binOp .neq 26 x y t) (w : World) : (execOp ev o).run Tryd.prog w = .ok (.value (.bool false)) w := by
  unfold execOp
  simp only [ho, hx, hy, Sem.run_bind, run_eqGuard_agg _ _ _ _ _ _ _ (show Tryd.prog.eqGuardType Tryd.prog.depth 26 = false by kernel_rfl), Result.andThen_ok, ne_proc ok]
  rfl
theorem ne_stopx (k s c : Int) (w : World) : (binOp .neq 29 (.agg #[.int .i64 k, .int .i64 s, .int .i64 c]) (.agg #[.int .i64 k, .int .i64 s, .int .i64 c])).run Tryd.prog w = .ok (.bool false) w := by
  go_simp
theorem neq_stop {S : List Value} {k s c : Int} (hS : S = [.int .i64 k, .int .i64 s, .int .i64 c]) (ev : Operand → Value) (x y : Operand) (hx : ev x = .agg S.toArray) (hy : ev y = .agg S.toArray) (o : Oper) (t : TypeId) (ho : o.op = .binOp .neq 29 x y t) (w : World) : (execOp ev o).run Tryd.prog w = .ok (.value (.bool false)) w := by
  subst hS
  unfold execOp
  simp only [ho, hx, hy, Sem.run_bind, run_eqGuard_agg _ _ _ _ _ _ _ (show Tryd.prog.eqGuardType Tryd.prog.depth 29 = false by kernel_rfl), Result.andThen_ok, ne_stopx]
  rfl


def stl (S : List Value) : Prop := S.length = 3 ∧ ∀ u ∈ S, u.oneCell' = true
theorem stl_stop (R : Rn) : stl (stopL R) := ⟨rfl, fun u hu => by
  simp only [stopL, List.mem_cons, List.not_mem_nil, or_false] at hu
  rcases hu with rfl | rfl | rfl <;> rfl⟩
theorem keepR (w2 : World) (M : Mc) (S : List Value) (ok : M.Ok) (hS : stl S) :
    ((w2.alloc (.cells #[.int .u32 0, .int .u32 0, .int .u32 0, .int .u32 0, .int .u32 0, .int .u32 0, .int .u32 0, .int .u32 0, .int .u32 0, .int .u32 0, .int .u32 0, .int .u32 0, .int .u32 0, .int .u32 0, .int .u32 0, .int .u32 0, .int .u32 0, .int .i64 0, .int .i64 0, .int .i64 0, .int .i64 0] 26)).alloc (.cells #[.int .i64 0, .int .i64 0, .int .i64 0] 29)).there w2.heap.size 0 M.proc.toArray.size ∧ (((w2.alloc (.cells #[.int .u32 0, .int .u32 0, .int .u32 0, .int .u32 0, .int .u32 0, .int .u32 0, .int .u32 0, .int .u32 0, .int .u32 0, .int .u32 0, .int .u32 0, .int .u32 0, .int .u32 0, .int .u32 0, .int .u32 0, .int .u32 0, .int .u32 0, .int .i64 0, .int .i64 0, .int .i64 0, .int .i64 0] 26)).alloc (.cells #[.int .i64 0, .int .i64 0, .int .i64 0] 29)).setCells w2.heap.size 0 M.proc).there (w2.heap.size + 1) 0 S.toArray.size ∧
    ((Tryd.prog.info? 26).map (·.size) = some M.proc.toArray.size ∧ (Tryd.prog.info? 29).map (·.size) = some S.toArray.size ∧ M.proc.toArray.all (·.oneCell') = true ∧ S.toArray.all (·.oneCell') = true) ∧
    Bl ((((w2.alloc (.cells #[.int .u32 0, .int .u32 0, .int .u32 0, .int .u32 0, .int .u32 0, .int .u32 0, .int .u32 0, .int .u32 0, .int .u32 0, .int .u32 0, .int .u32 0, .int .u32 0, .int .u32 0, .int .u32 0, .int .u32 0, .int .u32 0, .int .u32 0, .int .i64 0, .int .i64 0, .int .i64 0, .int .i64 0] 26)).alloc (.cells #[.int .i64 0, .int .i64 0, .int .i64 0] 29)).setCells w2.heap.size 0 M.proc).setCells (w2.heap.size + 1) 0 S) w2.heap.size M.proc ∧ Bl ((((w2.alloc (.cells #[.int .u32 0, .int .u32 0, .int .u32 0, .int .u32 0, .int .u32 0, .int .u32 0, .int .u32 0, .int .u32 0, .int .u32 0, .int .u32 0, .int .u32 0, .int .u32 0, .int .u32 0, .int .u32 0, .int .u32 0, .int .u32 0, .int .u32 0, .int .i64 0, .int .i64 0, .int .i64 0, .int .i64 0] 26)).alloc (.cells #[.int .i64 0, .int .i64 0, .int .i64 0] 29)).setCells w2.heap.size 0 M.proc).setCells (w2.heap.size + 1) 0 S) (w2.heap.size + 1) S ∧
    Below w2.heap.size w2 ((((w2.alloc (.cells #[.int .u32 0, .int .u32 0, .int .u32 0, .int .u32 0, .int .u32 0, .int .u32 0, .int .u32 0, .int .u32 0, .int .u32 0, .int .u32 0, .int .u32 0, .int .u32 0, .int .u32 0, .int .u32 0, .int .u32 0, .int .u32 0, .int .u32 0, .int .i64 0, .int .i64 0, .int .i64 0, .int .i64 0] 26)).alloc (.cells #[.int .i64 0, .int .i64 0, .int .i64 0] 29)).setCells w2.heap.size 0 M.proc).setCells (w2.heap.size + 1) 0 S) ∧ ((((w2.alloc (.cells #[.int .u32 0, .int .u32 0, .int .u32 0, .int .u32 0, .int .u32 0, .int .u32 0, .int .u32 0, .int .u32 0, .int .u32 0, .int .u32 0, .int .u32 0, .int .u32 0, .int .u32 0, .int .u32 0, .int .u32 0, .int .u32 0, .int .u32 0, .int .i64 0, .int .i64 0, .int .i64 0, .int .i64 0] 26)).alloc (.cells #[.int .i64 0, .int .i64 0, .int .i64 0] 29)).setCells w2.heap.size 0 M.proc).setCells (w2.heap.size + 1) 0 S).heap.size = w2.heap.size + 2 := by
  have hp := proc_len ok
  obtain ⟨t1, t2, k1, k2, k3, k4⟩ := keep2 w2 #[.int .u32 0, .int .u32 0, .int .u32 0, .int .u32 0, .int .u32 0, .int .u32 0, .int .u32 0, .int .u32 0, .int .u32 0, .int .u32 0, .int .u32 0, .int .u32 0, .int .u32 0, .int .u32 0, .int .u32 0, .int .u32 0, .int .u32 0, .int .i64 0, .int .i64 0, .int .i64 0, .int .i64 0] #[.int .i64 0, .int .i64 0, .int .i64 0] M.proc S 26 29 (by rw [hp]; rfl) (by rw [hS.1]; rfl)
  refine ⟨by simpa using t1, by simpa using t2, ⟨?_, ?_, all_oneCell_toArray (proc_one M), all_oneCell_toArray hS.2⟩, k1, k2, k3, k4⟩
  · rw [List.size_toArray, hp]
    exact infoProc
  · rw [List.size_toArray, hS.1]
    exact infoStop

theorem eq_stopx (k s c : Int) (w : World) : (binOp .eql 29 (.agg #[.int .i64 k, .int .i64 s, .int .i64 c]) (.agg #[.int .i64 k, .int .i64 s, .int .i64 c])).run Tryd.prog w = .ok (.bool true) w := by
  go_simp
theorem eql_stop {S : List Value} {k s c : Int} (hS : S = [.int .i64 k, .int .i64 s, .int .i64 c]) (ev : Operand → Value) (x y : Operand) (hx : ev x = .agg S.toArray) (hy : ev y = .agg S.toArray) (o : Oper) (t : TypeId) (ho : o.op = .binOp .eql 29 x y t) (w : World) : (execOp ev o).run Tryd.prog w = .ok (.value (.bool true)) w := by
  subst hS
  unfold execOp
  simp only [ho, hx, hy, Sem.run_bind, run_eqGuard_agg _ _ _ _ _ _ _ (show Tryd.prog.eqGuardType Tryd.prog.depth 29 = false by kernel_rfl), Result.andThen_ok, eq_stopx]
  rfl
theorem wpList_tail {P : Program} {ops : Array Oper} {Q : Exit → Act → World → Prop} {a : Act} {w : World} (pre tl : List Oper) (h : ∀ t, t = tl → wpList P ops Q (pre ++ t) a w) : wpList P ops Q (pre ++ tl) a w := h tl rfl
theorem wpList_store_new {P : Program} {ops : Array Oper} {rest : List Oper} {op : Oper} {a : Act} {w : World} {Q : Exit → Act → World → Prop} {c : Array Value} (hgd : op.guard = none) (ty : TypeId) (x y : Operand) (ho : op.op = .store ty x y)
    (c' : Array Value) (hx : a.eval x = .pointer (some ⟨w.heap.size, 0, none⟩)) (hy : a.eval y = .agg c') (hi : (P.info? ty).map (·.size) = some c'.size) (hc : c.size = c'.size) (h1 : c'.all (·.oneCell') = true)
    (h : wpList P ops Q rest (a.put op.dst undef) (w.alloc (.cells c' ty))) : wpList P ops Q (op :: rest) a (w.alloc (.cells c ty)) := by
  refine wpList_plain hgd fun _ hK => ?_
  unfold Oper.wp execOp
  simp only [ho, hx, hy, Sem.run_bind, Sem.run_pure, Result.andThen_ok, run_storeAt_new w ty c c' hi hc h1]
  exact hK _ _ h

theorem rangeNew (w : World) (cs : List Value) (t : TypeId) : (w.alloc (.cells cs.toArray t)).rangeAt w.heap.size 0 cs := fun j v hv => by
  rw [World.cell?_alloc_at _ _ _ _ rfl]
  simpa using hv
end Go.Proofs.YtegkodgondlcmaaDoor
