/-
  The core's Step: a run of one instruction.
  What a run leaves in two blocks of one's own, stops and processes compared, a list of operations cut in two, a record laid into a new block.
-/
import Derived.Test.YteopkgjkbhcicaaDoorCmEq
import Derived.Deep.WholeRow
namespace Go.Proofs.YteopkgjkbhcicaaDoor
open Go.RowKit FerryCrc FerryAlu
set_option linter.unusedVariables false
set_option linter.unusedSimpArgs false

theorem res_step (tm : Array Value) (W : World) (g7 g8 : Nat) (pv : Value) (P S : List Value) (e6 : tm.getD 4 undef = pv) (e7 : tm.getD 5 undef = .pointer (some ⟨g7, 0, none⟩)) (e8 : tm.getD 6 undef = .pointer (some ⟨g8, 0, none⟩))
    (h7 : W.rangeAt g7 0 P) (h8 : W.rangeAt g8 0 S) (hP : P.length = 21) (hS : S.length = 3) : (results Tryd.f14 tm).run Tryd.prog W = .ok (.tuple #[pv, .agg P.toArray, .agg S.toArray]) W := by
  have l7 := run_loadVar_mid (P := Tryd.prog) W g7 0 26 P _ h7 Tryd.underlying26 rfl (by rw [hP]; exact infoProc)
  have l8 := run_loadVar_mid (P := Tryd.prog) W g8 0 32 S _ h8 Tryd.underlying32 rfl (by rw [hS]; exact infoStop)
  rw [Array.getD_eq_getD_getElem?] at e6 e7 e8
  simp [results, Tryd.results14, asAddr, e6, e7, e8, l7, l8]
theorem own_two {w : World} {base g g' : Nat} {v : Value} {l : List Pg} (h : POwn w base v l) (hg : g < base) (hg' : g' < base) (P S : List Value) : POwn ((w.setCells g 0 P).setCells g' 0 S) base v l := by
  have hne : ∀ k, k < base → v.ownBlock ≠ some k := fun k hk => by
    rcases h.2 with ⟨e, _⟩ | ⟨q, cap, cur, e, hq, _⟩
    · subst e
      intro he
      cases he
    · subst e
      intro he
      have : q = k := Option.some.inj he
      omega
  exact own_farCells (hne g' hg') S 0 _ (own_farCells (hne g hg) P 0 _ h)

set_option maxRecDepth 100000 in
set_option maxHeartbeats 8000000 in
theorem core_step_any (a : Option Addr) (len cap : Nat) (m : Mc) (w : World) (hs : Pgs w a len cap m.pages) (ok : m.Ok) (A : Addr) (hv : Cov w A) :
    Calls Tryd.prog 14 #[.slice a len cap, .agg m.proc.toArray] w fun e w' => ∃ v, e = .returned (.tuple #[v, .agg (m.run 1).m.proc.toArray, .agg (stopL (m.run 1)).toArray]) ∧ POwn w' w.heap.size v (m.run 1).m.pages ∧ (m.run 1).m.Ok ∧ Below w.heap.size w w' := by
  have HS := hide hs
  have HV := hide hv
  have OK := hide ok
  have HPL : Hid (m.proc.length = 21) := proc_len ok
  obtain ⟨z4, z7, z8, hb0, hsz⟩ := three_alloc w m.proc.toArray #[.int .u32 0, .int .u32 0, .int .u32 0, .int .u32 0, .int .u32 0, .int .u32 0, .int .u32 0, .int .u32 0, .int .u32 0, .int .u32 0, .int .u32 0, .int .u32 0, .int .u32 0, .int .u32 0, .int .u32 0, .int .u32 0, .int .u32 0, .int .i64 0, .int .i64 0, .int .i64 0, .int .i64 0] #[.int .i64 0, .int .i64 0, .int .i64 0] 26 32
  have Z4 : Hid (Bl (((w.alloc (.cells m.proc.toArray 26)).alloc (.cells #[.int .u32 0, .int .u32 0, .int .u32 0, .int .u32 0, .int .u32 0, .int .u32 0, .int .u32 0, .int .u32 0, .int .u32 0, .int .u32 0, .int .u32 0, .int .u32 0, .int .u32 0, .int .u32 0, .int .u32 0, .int .u32 0, .int .u32 0, .int .i64 0, .int .i64 0, .int .i64 0, .int .i64 0] 26)).alloc (.cells #[.int .i64 0, .int .i64 0, .int .i64 0] 32)) w.heap.size m.proc) := z4
  have Z7 := hide z7
  have Z8 := hide z8
  have HB0 := hide hb0
  have HSZ := hide hsz
  have HU := hide Tryd.underlying26
  have HI : Hid ((Tryd.prog.info? 26).map (·.size) = some m.proc.length) := by unfold Hid; rw [HPL.out]; exact infoProc
  clear hs hv ok z4 z7 z8 hb0 hsz
  go_enter Tryd.func14, Tryd.ntmps14
  go_upto_region 1 with fail
  generalize ((w.alloc (.cells m.proc.toArray 26)).alloc (.cells #[.int .u32 0, .int .u32 0, .int .u32 0, .int .u32 0, .int .u32 0, .int .u32 0, .int .u32 0, .int .u32 0, .int .u32 0, .int .u32 0, .int .u32 0, .int .u32 0, .int .u32 0, .int .u32 0, .int .u32 0, .int .u32 0, .int .u32 0, .int .i64 0, .int .i64 0, .int .i64 0, .int .i64 0] 26)).alloc (.cells #[.int .i64 0, .int .i64 0, .int .i64 0] 32) = W0 at *
  have r3 : W0.rangeAt w.heap.size 0 m.proc := bl_range Z4.out
  have HR : Hid (Calls Tryd.prog 10 #[.slice a len cap, .agg m.proc.toArray, .int .i64 1] W0 fun e w' => ∃ v, e = .returned (.tuple #[v, .agg (m.run 1).m.proc.toArray, .agg (stopL (m.run 1)).toArray]) ∧ POwn w' W0.heap.size v (m.run 1).m.pages ∧ (m.run 1).m.Ok ∧ Below W0.heap.size W0 w') :=
    run_any a len cap m 1 W0 (HS.out.below HB0.out) OK.out A (HV.out.below HB0.out) (by omega) (by omega)
  go_wp2_with (first | (refine wpList_load_mid (op := { dst := some 8, op := Go.Op.load 26 (Go.Operand.tmp 3), type := 26, pos := "core.go:39", after := #[], guard := none }) rfl 26 (.tmp 3) rfl w.heap.size 0 rfl m.proc _ r3 HU.out rfl HI.out ?_) | fail)
  refine Calls.mono HR.out ?_
  rintro e w2 ⟨v, rfl, ho, ok1, b2⟩
  clear HR r3
  have hS3 : (stopL (m.run 1)).length = 3 := rfl
  have hS4 : ∀ u ∈ stopL (m.run 1), u.oneCell' = true := fun u hu => by
    simp only [stopL, List.mem_cons, List.not_mem_nil, or_false] at hu
    rcases hu with rfl | rfl | rfl <;> rfl
  generalize hR : m.run 1 = R1 at *
  generalize hX : stopL R1 = S1 at *
  have HRR := hide hR
  have HXX := hide hX
  clear hR hX
  have hp := proc_len ok1
  have e7 : R1.m.proc.toArray.size = 21 := by rw [List.size_toArray]; exact hp
  have e8 : S1.toArray.size = 3 := by rw [List.size_toArray]; exact hS3
  have hz := HSZ.out
  have y7 := Z7.out.below (by omega) b2
  have y8 := Z8.out.below (by omega) b2
  have t1 : w2.there (w.heap.size + 1) 0 R1.m.proc.toArray.size := by
    rw [e7]
    exact bl_there y7
  have y8b := y8.farCells (o := 0) (vs := R1.m.proc) (show w.heap.size + 1 ≠ w.heap.size + 1 + 1 by omega)
  have t2 : (w2.setCells (w.heap.size + 1) 0 R1.m.proc).there (w.heap.size + 1 + 1) 0 S1.toArray.size := by
    rw [e8]
    exact bl_there y8b
  have HR7 := hide ((bl_setCells (vs := R1.m.proc) y7 (by rw [hp]; rfl)).farCells (o := 0) (vs := S1) (show w.heap.size + 1 + 1 ≠ w.heap.size + 1 by omega))
  have HR8 := hide (bl_setCells (vs := S1) y8b (by rw [hS3]; rfl))
  have HOW := hide ((own_two ho (show w.heap.size + 1 < W0.heap.size by omega) (show w.heap.size + 1 + 1 < W0.heap.size by omega) R1.m.proc S1).weaken (show w.heap.size ≤ W0.heap.size by omega))
  have HBE := hide (below_setCells (show w.heap.size ≤ w.heap.size + 1 + 1 by omega) S1 0 _ (below_setCells (show w.heap.size ≤ w.heap.size + 1 by omega) R1.m.proc 0 _ (chain HB0.out b2)))
  have T1 := hide t1
  have T2 := hide t2
  have J1 : Hid ((Tryd.prog.info? 26).map (·.size) = some R1.m.proc.toArray.size) := by unfold Hid; rw [List.size_toArray, hp]; exact infoProc
  have J2 : Hid ((Tryd.prog.info? 32).map (·.size) = some S1.toArray.size) := by unfold Hid; rw [List.size_toArray, hS3]; exact infoStop
  have J3 := hide (all_oneCell_toArray (proc_one R1.m))
  have J4 := hide (all_oneCell_toArray hS4)
  have HP := hide hp
  have HS3 := hide hS3
  have OK1 := hide ok1
  clear t1 t2 e7 e8 y7 y8 y8b ho b2 ok1 hp hz hS3 hS4
  go_wp2_with (first | (refine wpList_store_mid (op := { dst := none, op := Go.Op.store 26 (Go.Operand.tmp 5) (Go.Operand.tmp 11), type := 0, pos := "core.go:39", after := #[{ on := 4, ground := Go.Ground.data }, { on := 6, ground := Go.Ground.chain }, { on := 0, ground := Go.Ground.phase }, { on := 1, ground := Go.Ground.phase }, { on := 2, ground := Go.Ground.phase }, { on := 3, ground := Go.Ground.phase }, { on := 4, ground := Go.Ground.phase }, { on := 5, ground := Go.Ground.phase }, { on := 6, ground := Go.Ground.phase }], guard := none }) rfl 26 (.tmp 5) (.tmp 11) rfl (w.heap.size + 1) 0 R1.m.proc.toArray rfl rfl T1.out J1.out J3.out ?_) | (refine wpList_store_mid (op := { dst := none, op := Go.Op.store 32 (Go.Operand.tmp 6) (Go.Operand.tmp 12), type := 0, pos := "core.go:39", after := #[{ on := 5, ground := Go.Ground.data }, { on := 7, ground := Go.Ground.chain }, { on := 0, ground := Go.Ground.phase }, { on := 1, ground := Go.Ground.phase }, { on := 2, ground := Go.Ground.phase }, { on := 3, ground := Go.Ground.phase }, { on := 4, ground := Go.Ground.phase }, { on := 5, ground := Go.Ground.phase }, { on := 6, ground := Go.Ground.phase }, { on := 7, ground := Go.Ground.phase }], guard := none }) rfl 32 (.tmp 6) (.tmp 12) rfl (w.heap.size + 1 + 1) 0 S1.toArray rfl rfl T2.out J2.out J4.out ?_) | fail)
  (try simp only [Act.put])
  generalize (w2.setCells (w.heap.size + 1) 0 R1.m.proc).setCells (w.heap.size + 1 + 1) 0 S1 = W9 at *
  (try simp only [Exit.inBlock, Exit.then])
  refine bodyPost_ret (v := .tuple #[v, .agg R1.m.proc.toArray, .agg S1.toArray]) (res_step _ W9 _ _ _ _ _ rfl rfl rfl (bl_range HR7.out) (bl_range HR8.out) HP.out HS3.out) rfl ?_
  exact ⟨_, by rw [HRR.out, HXX.out], by rw [HRR.out]; exact HOW.out, by rw [HRR.out]; exact OK1.out, HBE.out⟩
end Go.Proofs.YteopkgjkbhcicaaDoor
namespace Go.Proofs.YteopkgjkbhcicaaDoor
open Go.RowKit FerryCrc FerryAlu
set_option linter.unusedVariables false
set_option linter.unusedSimpArgs false

theorem one_alloc (w : World) (x : Array Value) (t : TypeId) : Bl (w.alloc (.cells x t)) w.heap.size x.toList ∧ Below w.heap.size w (w.alloc (.cells x t)) ∧ (w.alloc (.cells x t)).heap.size = w.heap.size + 1 :=
  ⟨bl_alloc w x t, (Below.refl _ _).alloc (Nat.le_refl _) _, by simp⟩

set_option maxRecDepth 100000 in
set_option maxHeartbeats 4000000 in
theorem ne_procx (r0 r1 r2 r3 r4 r5 r6 r7 r8 r9 r10 r11 r12 r13 r14 r15 pc : Nat) (h0 : r0 < 4294967296) (h1 : r1 < 4294967296) (h2 : r2 < 4294967296) (h3 : r3 < 4294967296) (h4 : r4 < 4294967296) (h5 : r5 < 4294967296) (h6 : r6 < 4294967296) (h7 : r7 < 4294967296) (h8 : r8 < 4294967296) (h9 : r9 < 4294967296) (h10 : r10 < 4294967296) (h11 : r11 < 4294967296) (h12 : r12 < 4294967296) (h13 : r13 < 4294967296) (h14 : r14 < 4294967296) (h15 : r15 < 4294967296) (st pr wa ob : Int) (w : World) : (binOp .neq 26 (.agg #[.int .u32 (r0 : Int), .int .u32 (r1 : Int), .int .u32 (r2 : Int), .int .u32 (r3 : Int), .int .u32 (r4 : Int), .int .u32 (r5 : Int), .int .u32 (r6 : Int), .int .u32 (r7 : Int), .int .u32 (r8 : Int), .int .u32 (r9 : Int), .int .u32 (r10 : Int), .int .u32 (r11 : Int), .int .u32 (r12 : Int), .int .u32 (r13 : Int), .int .u32 (r14 : Int), .int .u32 (r15 : Int), .int .u32 (pc : Int), .int .i64 st, .int .i64 pr, .int .i64 wa, .int .i64 ob]) (.agg #[.int .u32 (r0 : Int), .int .u32 (r1 : Int), .int .u32 (r2 : Int), .int .u32 (r3 : Int), .int .u32 (r4 : Int), .int .u32 (r5 : Int), .int .u32 (r6 : Int), .int .u32 (r7 : Int), .int .u32 (r8 : Int), .int .u32 (r9 : Int), .int .u32 (r10 : Int), .int .u32 (r11 : Int), .int .u32 (r12 : Int), .int .u32 (r13 : Int), .int .u32 (r14 : Int), .int .u32 (r15 : Int), .int .u32 (pc : Int), .int .i64 st, .int .i64 pr, .int .i64 wa, .int .i64 ob])).run Tryd.prog w = .ok (.bool false) w := by
  go_simp
  rw [eq_arr r0 r1 r2 r3 r4 r5 r6 r7 r8 r9 r10 r11 r12 r13 r14 r15 h0 h1 h2 h3 h4 h5 h6 h7 h8 h9 h10 h11 h12 h13 h14 h15]
  go_simp
theorem ne_proc {m : Mc} (ok : m.Ok) (w : World) : (binOp .neq 26 (.agg m.proc.toArray) (.agg m.proc.toArray)).run Tryd.prog w = .ok (.bool false) w := by
  obtain ⟨r0, r1, r2, r3, r4, r5, r6, r7, r8, r9, r10, r11, r12, r13, r14, r15, hr⟩ := regs_list ok.size
  obtain ⟨l, regs, pc, st, pr, wa, ob⟩ := m
  simp only at hr
  subst hr
  exact ne_procx r0 r1 r2 r3 r4 r5 r6 r7 r8 r9 r10 r11 r12 r13 r14 r15 pc (ok.small r0 (by simp)) (ok.small r1 (by simp)) (ok.small r2 (by simp)) (ok.small r3 (by simp)) (ok.small r4 (by simp)) (ok.small r5 (by simp)) (ok.small r6 (by simp)) (ok.small r7 (by simp)) (ok.small r8 (by simp)) (ok.small r9 (by simp)) (ok.small r10 (by simp)) (ok.small r11 (by simp)) (ok.small r12 (by simp)) (ok.small r13 (by simp)) (ok.small r14 (by simp)) (ok.small r15 (by simp)) st pr wa ob w
theorem neq_proc {m : Mc} (ok : m.Ok) (ev : Operand → Value) (x y : Operand) (hx : ev x = .agg m.proc.toArray) (hy : ev y = .agg m.proc.toArray) (o : Oper) (t : TypeId) (ho : o.op = .binOp .neq 26 x y t) (w : World) : (execOp ev o).run Tryd.prog w = .ok (.value (.bool false)) w := by
  unfold execOp
  simp only [ho, hx, hy, Sem.run_bind, run_eqGuard_agg _ _ _ _ _ _ _ (show Tryd.prog.eqGuardType Tryd.prog.depth 26 = false by kernel_rfl), Result.andThen_ok, ne_proc ok]
  rfl
theorem ne_stopx (k s c : Int) (w : World) : (binOp .neq 32 (.agg #[.int .i64 k, .int .i64 s, .int .i64 c]) (.agg #[.int .i64 k, .int .i64 s, .int .i64 c])).run Tryd.prog w = .ok (.bool false) w := by
  go_simp
theorem neq_stop {S : List Value} {k s c : Int} (hS : S = [.int .i64 k, .int .i64 s, .int .i64 c]) (ev : Operand → Value) (x y : Operand) (hx : ev x = .agg S.toArray) (hy : ev y = .agg S.toArray) (o : Oper) (t : TypeId) (ho : o.op = .binOp .neq 32 x y t) (w : World) : (execOp ev o).run Tryd.prog w = .ok (.value (.bool false)) w := by
  subst hS
  unfold execOp
  simp only [ho, hx, hy, Sem.run_bind, run_eqGuard_agg _ _ _ _ _ _ _ (show Tryd.prog.eqGuardType Tryd.prog.depth 32 = false by kernel_rfl), Result.andThen_ok, ne_stopx]
  rfl


def stl (S : List Value) : Prop := S.length = 3 ∧ ∀ u ∈ S, u.oneCell' = true
theorem stl_stop (R : Rn) : stl (stopL R) := ⟨rfl, fun u hu => by
  simp only [stopL, List.mem_cons, List.not_mem_nil, or_false] at hu
  rcases hu with rfl | rfl | rfl <;> rfl⟩
theorem keepR (w2 : World) (M : Mc) (S : List Value) (ok : M.Ok) (hS : stl S) :
    ((w2.alloc (.cells #[.int .u32 0, .int .u32 0, .int .u32 0, .int .u32 0, .int .u32 0, .int .u32 0, .int .u32 0, .int .u32 0, .int .u32 0, .int .u32 0, .int .u32 0, .int .u32 0, .int .u32 0, .int .u32 0, .int .u32 0, .int .u32 0, .int .u32 0, .int .i64 0, .int .i64 0, .int .i64 0, .int .i64 0] 26)).alloc (.cells #[.int .i64 0, .int .i64 0, .int .i64 0] 32)).there w2.heap.size 0 M.proc.toArray.size ∧ (((w2.alloc (.cells #[.int .u32 0, .int .u32 0, .int .u32 0, .int .u32 0, .int .u32 0, .int .u32 0, .int .u32 0, .int .u32 0, .int .u32 0, .int .u32 0, .int .u32 0, .int .u32 0, .int .u32 0, .int .u32 0, .int .u32 0, .int .u32 0, .int .u32 0, .int .i64 0, .int .i64 0, .int .i64 0, .int .i64 0] 26)).alloc (.cells #[.int .i64 0, .int .i64 0, .int .i64 0] 32)).setCells w2.heap.size 0 M.proc).there (w2.heap.size + 1) 0 S.toArray.size ∧
    ((Tryd.prog.info? 26).map (·.size) = some M.proc.toArray.size ∧ (Tryd.prog.info? 32).map (·.size) = some S.toArray.size ∧ M.proc.toArray.all (·.oneCell') = true ∧ S.toArray.all (·.oneCell') = true) ∧
    Bl ((((w2.alloc (.cells #[.int .u32 0, .int .u32 0, .int .u32 0, .int .u32 0, .int .u32 0, .int .u32 0, .int .u32 0, .int .u32 0, .int .u32 0, .int .u32 0, .int .u32 0, .int .u32 0, .int .u32 0, .int .u32 0, .int .u32 0, .int .u32 0, .int .u32 0, .int .i64 0, .int .i64 0, .int .i64 0, .int .i64 0] 26)).alloc (.cells #[.int .i64 0, .int .i64 0, .int .i64 0] 32)).setCells w2.heap.size 0 M.proc).setCells (w2.heap.size + 1) 0 S) w2.heap.size M.proc ∧ Bl ((((w2.alloc (.cells #[.int .u32 0, .int .u32 0, .int .u32 0, .int .u32 0, .int .u32 0, .int .u32 0, .int .u32 0, .int .u32 0, .int .u32 0, .int .u32 0, .int .u32 0, .int .u32 0, .int .u32 0, .int .u32 0, .int .u32 0, .int .u32 0, .int .u32 0, .int .i64 0, .int .i64 0, .int .i64 0, .int .i64 0] 26)).alloc (.cells #[.int .i64 0, .int .i64 0, .int .i64 0] 32)).setCells w2.heap.size 0 M.proc).setCells (w2.heap.size + 1) 0 S) (w2.heap.size + 1) S ∧
    Below w2.heap.size w2 ((((w2.alloc (.cells #[.int .u32 0, .int .u32 0, .int .u32 0, .int .u32 0, .int .u32 0, .int .u32 0, .int .u32 0, .int .u32 0, .int .u32 0, .int .u32 0, .int .u32 0, .int .u32 0, .int .u32 0, .int .u32 0, .int .u32 0, .int .u32 0, .int .u32 0, .int .i64 0, .int .i64 0, .int .i64 0, .int .i64 0] 26)).alloc (.cells #[.int .i64 0, .int .i64 0, .int .i64 0] 32)).setCells w2.heap.size 0 M.proc).setCells (w2.heap.size + 1) 0 S) ∧ ((((w2.alloc (.cells #[.int .u32 0, .int .u32 0, .int .u32 0, .int .u32 0, .int .u32 0, .int .u32 0, .int .u32 0, .int .u32 0, .int .u32 0, .int .u32 0, .int .u32 0, .int .u32 0, .int .u32 0, .int .u32 0, .int .u32 0, .int .u32 0, .int .u32 0, .int .i64 0, .int .i64 0, .int .i64 0, .int .i64 0] 26)).alloc (.cells #[.int .i64 0, .int .i64 0, .int .i64 0] 32)).setCells w2.heap.size 0 M.proc).setCells (w2.heap.size + 1) 0 S).heap.size = w2.heap.size + 2 := by
  have hp := proc_len ok
  obtain ⟨t1, t2, k1, k2, k3, k4⟩ := keep2 w2 #[.int .u32 0, .int .u32 0, .int .u32 0, .int .u32 0, .int .u32 0, .int .u32 0, .int .u32 0, .int .u32 0, .int .u32 0, .int .u32 0, .int .u32 0, .int .u32 0, .int .u32 0, .int .u32 0, .int .u32 0, .int .u32 0, .int .u32 0, .int .i64 0, .int .i64 0, .int .i64 0, .int .i64 0] #[.int .i64 0, .int .i64 0, .int .i64 0] M.proc S 26 32 (by rw [hp]; rfl) (by rw [hS.1]; rfl)
  refine ⟨by simpa using t1, by simpa using t2, ⟨?_, ?_, all_oneCell_toArray (proc_one M), all_oneCell_toArray hS.2⟩, k1, k2, k3, k4⟩
  · rw [List.size_toArray, hp]
    exact infoProc
  · rw [List.size_toArray, hS.1]
    exact infoStop

theorem eq_stopx (k s c : Int) (w : World) : (binOp .eql 32 (.agg #[.int .i64 k, .int .i64 s, .int .i64 c]) (.agg #[.int .i64 k, .int .i64 s, .int .i64 c])).run Tryd.prog w = .ok (.bool true) w := by
  go_simp
theorem eql_stop {S : List Value} {k s c : Int} (hS : S = [.int .i64 k, .int .i64 s, .int .i64 c]) (ev : Operand → Value) (x y : Operand) (hx : ev x = .agg S.toArray) (hy : ev y = .agg S.toArray) (o : Oper) (t : TypeId) (ho : o.op = .binOp .eql 32 x y t) (w : World) : (execOp ev o).run Tryd.prog w = .ok (.value (.bool true)) w := by
  subst hS
  unfold execOp
  simp only [ho, hx, hy, Sem.run_bind, run_eqGuard_agg _ _ _ _ _ _ _ (show Tryd.prog.eqGuardType Tryd.prog.depth 32 = false by kernel_rfl), Result.andThen_ok, eq_stopx]
  rfl
theorem wpList_tail {P : Program} {ops : Array Oper} {Q : Exit → Act → World → Prop} {a : Act} {w : World} (pre tl : List Oper) (h : ∀ t, t = tl → wpList P ops Q (pre ++ t) a w) : wpList P ops Q (pre ++ tl) a w := h tl rfl
theorem wpList_store_new {P : Program} {ops : Array Oper} {rest : List Oper} {op : Oper} {a : Act} {w : World} {Q : Exit → Act → World → Prop} {c : Array Value} (hgd : op.guard = none) (ty : TypeId) (x y : Operand) (ho : op.op = .store ty x y)
    (c' : Array Value) (hx : a.eval x = .pointer (some ⟨w.heap.size, 0, none⟩)) (hy : a.eval y = .agg c') (hi : (P.info? ty).map (·.size) = some c'.size) (hc : c.size = c'.size) (h1 : c'.all (·.oneCell') = true)
    (h : wpList P ops Q rest (a.put op.dst undef) (w.alloc (.cells c' ty))) : wpList P ops Q (op :: rest) a (w.alloc (.cells c ty)) := by
  refine wpList_plain hgd fun _ hK => ?_
  unfold Oper.wp execOp
  simp only [ho, hx, hy, Sem.run_bind, Sem.run_pure, Result.andThen_ok, run_storeAt_new w ty c c' hi hc h1]
  exact hK _ _ h

theorem rangeNew (w : World) (cs : List Value) (t : TypeId) : (w.alloc (.cells cs.toArray t)).rangeAt w.heap.size 0 cs := fun j v hv => by
  rw [World.cell?_alloc_at _ _ _ _ rfl]
  simpa using hv
end Go.Proofs.YteopkgjkbhcicaaDoor
