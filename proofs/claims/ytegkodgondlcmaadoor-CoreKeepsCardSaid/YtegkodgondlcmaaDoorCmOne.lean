/-
  The core's Step: a run of one instruction.
-/
import Derived.Test.YtegkodgondlcmaaDoorCmEq
namespace Go.Proofs.YtegkodgondlcmaaDoor
open Go.RowKit FerryCrc FerryAlu
set_option linter.unusedVariables false
set_option linter.unusedSimpArgs false

theorem res_step (tm : Array Value) (W : World) (g7 g8 : Nat) (pv : Value) (P S : List Value) (e6 : tm.getD 4 undef = pv) (e7 : tm.getD 5 undef = .pointer (some ⟨g7, 0, none⟩)) (e8 : tm.getD 6 undef = .pointer (some ⟨g8, 0, none⟩))
    (h7 : W.rangeAt g7 0 P) (h8 : W.rangeAt g8 0 S) (hP : P.length = 21) (hS : S.length = 3) : (results Tryd.f7 tm).run Tryd.prog W = .ok (.tuple #[pv, .agg P.toArray, .agg S.toArray]) W := by
  have l7 := run_loadVar_mid (P := Tryd.prog) W g7 0 26 P _ h7 Tryd.underlying26 rfl (by rw [hP]; exact infoProc)
  have l8 := run_loadVar_mid (P := Tryd.prog) W g8 0 29 S _ h8 Tryd.underlying29 rfl (by rw [hS]; exact infoStop)
  rw [Array.getD_eq_getD_getElem?] at e6 e7 e8
  simp [results, Tryd.results7, asAddr, e6, e7, e8, l7, l8]
theorem own_two {w : World} {base g g' : Nat} {v : Value} {l : List Pg} (h : POwn w base v l) (hg : g < base) (hg' : g' < base) (P S : List Value) : POwn ((w.setCells g 0 P).setCells g' 0 S) base v l := by
  have hne : ∀ k, k < base → v.ownBlock ≠ some k := fun k hk => by
    rcases h.2 with ⟨e, _⟩ | ⟨q, cap, cur, e, hq, _⟩
    · subst e
      intro he
      cases he
    · subst e
      intro he
      have : q = k := Option.some.inj he
      omega
  exact own_farCells (hne g' hg') S 0 _ (own_farCells (hne g hg) P 0 _ h)

set_option maxRecDepth 100000 in
set_option maxHeartbeats 8000000 in
theorem core_step_any (a : Option Addr) (len cap : Nat) (m : Mc) (w : World) (hs : Pgs w a len cap m.pages) (ok : m.Ok) (A : Addr) (hv : Cov w A) :
    Calls Tryd.prog 7 #[.slice a len cap, .agg m.proc.toArray] w fun e w' => ∃ v, e = .returned (.tuple #[v, .agg (m.run 1).m.proc.toArray, .agg (stopL (m.run 1)).toArray]) ∧ POwn w' w.heap.size v (m.run 1).m.pages ∧ (m.run 1).m.Ok ∧ Below w.heap.size w w' := by
  have HS := hide hs
  have HV := hide hv
  have OK := hide ok
  have HPL : Hid (m.proc.length = 21) := proc_len ok
  obtain ⟨z4, z7, z8, hb0, hsz⟩ := three_alloc w m.proc.toArray #[.int .u32 0, .int .u32 0, .int .u32 0, .int .u32 0, .int .u32 0, .int .u32 0, .int .u32 0, .int .u32 0, .int .u32 0, .int .u32 0, .int .u32 0, .int .u32 0, .int .u32 0, .int .u32 0, .int .u32 0, .int .u32 0, .int .u32 0, .int .i64 0, .int .i64 0, .int .i64 0, .int .i64 0] #[.int .i64 0, .int .i64 0, .int .i64 0] 26 29
  have Z4 : Hid (Bl (((w.alloc (.cells m.proc.toArray 26)).alloc (.cells #[.int .u32 0, .int .u32 0, .int .u32 0, .int .u32 0, .int .u32 0, .int .u32 0, .int .u32 0, .int .u32 0, .int .u32 0, .int .u32 0, .int .u32 0, .int .u32 0, .int .u32 0, .int .u32 0, .int .u32 0, .int .u32 0, .int .u32 0, .int .i64 0, .int .i64 0, .int .i64 0, .int .i64 0] 26)).alloc (.cells #[.int .i64 0, .int .i64 0, .int .i64 0] 29)) w.heap.size m.proc) := z4
  have Z7 := hide z7
  have Z8 := hide z8
  have HB0 := hide hb0
  have HSZ := hide hsz
  have HU := hide Tryd.underlying26
  have HI : Hid ((Tryd.prog.info? 26).map (·.size) = some m.proc.length) := by unfold Hid; rw [HPL.out]; exact infoProc
  clear hs hv ok z4 z7 z8 hb0 hsz
  go_enter Tryd.func7, Tryd.ntmps7
  go_upto_region 1 with fail
  generalize ((w.alloc (.cells m.proc.toArray 26)).alloc (.cells #[.int .u32 0, .int .u32 0, .int .u32 0, .int .u32 0, .int .u32 0, .int .u32 0, .int .u32 0, .int .u32 0, .int .u32 0, .int .u32 0, .int .u32 0, .int .u32 0, .int .u32 0, .int .u32 0, .int .u32 0, .int .u32 0, .int .u32 0, .int .i64 0, .int .i64 0, .int .i64 0, .int .i64 0] 26)).alloc (.cells #[.int .i64 0, .int .i64 0, .int .i64 0] 29) = W0 at *
  have r3 : W0.rangeAt w.heap.size 0 m.proc := bl_range Z4.out
  have HR : Hid (Calls Tryd.prog 13 #[.slice a len cap, .agg m.proc.toArray, .int .i64 1] W0 fun e w' => ∃ v, e = .returned (.tuple #[v, .agg (m.run 1).m.proc.toArray, .agg (stopL (m.run 1)).toArray]) ∧ POwn w' W0.heap.size v (m.run 1).m.pages ∧ (m.run 1).m.Ok ∧ Below W0.heap.size W0 w') :=
    run_any a len cap m 1 W0 (HS.out.below HB0.out) OK.out A (HV.out.below HB0.out) (by omega) (by omega)
  go_wp2_with (first | (refine wpList_load_mid (op := { dst := some 8, op := Go.Op.load 26 (Go.Operand.tmp 3), type := 26, pos := "core.go:39", after := #[], guard := none }) rfl 26 (.tmp 3) rfl w.heap.size 0 rfl m.proc _ r3 HU.out rfl HI.out ?_) | fail)
  refine Calls.mono HR.out ?_
  rintro e w2 ⟨v, rfl, ho, ok1, b2⟩
  clear HR r3
  have hS3 : (stopL (m.run 1)).length = 3 := rfl
  have hS4 : ∀ u ∈ stopL (m.run 1), u.oneCell' = true := fun u hu => by
    simp only [stopL, List.mem_cons, List.not_mem_nil, or_false] at hu
    rcases hu with rfl | rfl | rfl <;> rfl
  generalize hR : m.run 1 = R1 at *
  generalize hX : stopL R1 = S1 at *
  have HRR := hide hR
  have HXX := hide hX
  clear hR hX
  have hp := proc_len ok1
  have e7 : R1.m.proc.toArray.size = 21 := by rw [List.size_toArray]; exact hp
  have e8 : S1.toArray.size = 3 := by rw [List.size_toArray]; exact hS3
  have hz := HSZ.out
  have y7 := Z7.out.below (by omega) b2
  have y8 := Z8.out.below (by omega) b2
  have t1 : w2.there (w.heap.size + 1) 0 R1.m.proc.toArray.size := by
    rw [e7]
    exact bl_there y7
  have y8b := y8.farCells (o := 0) (vs := R1.m.proc) (show w.heap.size + 1 ≠ w.heap.size + 1 + 1 by omega)
  have t2 : (w2.setCells (w.heap.size + 1) 0 R1.m.proc).there (w.heap.size + 1 + 1) 0 S1.toArray.size := by
    rw [e8]
    exact bl_there y8b
  have HR7 := hide ((bl_setCells (vs := R1.m.proc) y7 (by rw [hp]; rfl)).farCells (o := 0) (vs := S1) (show w.heap.size + 1 + 1 ≠ w.heap.size + 1 by omega))
  have HR8 := hide (bl_setCells (vs := S1) y8b (by rw [hS3]; rfl))
  have HOW := hide ((own_two ho (show w.heap.size + 1 < W0.heap.size by omega) (show w.heap.size + 1 + 1 < W0.heap.size by omega) R1.m.proc S1).weaken (show w.heap.size ≤ W0.heap.size by omega))
  have HBE := hide (below_setCells (show w.heap.size ≤ w.heap.size + 1 + 1 by omega) S1 0 _ (below_setCells (show w.heap.size ≤ w.heap.size + 1 by omega) R1.m.proc 0 _ (chain HB0.out b2)))
  have T1 := hide t1
  have T2 := hide t2
  have J1 : Hid ((Tryd.prog.info? 26).map (·.size) = some R1.m.proc.toArray.size) := by unfold Hid; rw [List.size_toArray, hp]; exact infoProc
  have J2 : Hid ((Tryd.prog.info? 29).map (·.size) = some S1.toArray.size) := by unfold Hid; rw [List.size_toArray, hS3]; exact infoStop
  have J3 := hide (all_oneCell_toArray (proc_one R1.m))
  have J4 := hide (all_oneCell_toArray hS4)
  have HP := hide hp
  have HS3 := hide hS3
  have OK1 := hide ok1
  clear t1 t2 e7 e8 y7 y8 y8b ho b2 ok1 hp hz hS3 hS4
  go_wp2_with (first | (refine wpList_store_mid (op := { dst := none, op := Go.Op.store 26 (Go.Operand.tmp 5) (Go.Operand.tmp 11), type := 0, pos := "core.go:39", after := #[{ on := 4, ground := Go.Ground.data }, { on := 6, ground := Go.Ground.chain }, { on := 0, ground := Go.Ground.phase }, { on := 1, ground := Go.Ground.phase }, { on := 2, ground := Go.Ground.phase }, { on := 3, ground := Go.Ground.phase }, { on := 4, ground := Go.Ground.phase }, { on := 5, ground := Go.Ground.phase }, { on := 6, ground := Go.Ground.phase }], guard := none }) rfl 26 (.tmp 5) (.tmp 11) rfl (w.heap.size + 1) 0 R1.m.proc.toArray rfl rfl T1.out J1.out J3.out ?_) | (refine wpList_store_mid (op := { dst := none, op := Go.Op.store 29 (Go.Operand.tmp 6) (Go.Operand.tmp 12), type := 0, pos := "core.go:39", after := #[{ on := 5, ground := Go.Ground.data }, { on := 7, ground := Go.Ground.chain }, { on := 0, ground := Go.Ground.phase }, { on := 1, ground := Go.Ground.phase }, { on := 2, ground := Go.Ground.phase }, { on := 3, ground := Go.Ground.phase }, { on := 4, ground := Go.Ground.phase }, { on := 5, ground := Go.Ground.phase }, { on := 6, ground := Go.Ground.phase }, { on := 7, ground := Go.Ground.phase }], guard := none }) rfl 29 (.tmp 6) (.tmp 12) rfl (w.heap.size + 1 + 1) 0 S1.toArray rfl rfl T2.out J2.out J4.out ?_) | fail)
  (try simp only [Act.put])
  generalize (w2.setCells (w.heap.size + 1) 0 R1.m.proc).setCells (w.heap.size + 1 + 1) 0 S1 = W9 at *
  (try simp only [Exit.inBlock, Exit.then])
  refine bodyPost_ret (v := .tuple #[v, .agg R1.m.proc.toArray, .agg S1.toArray]) (res_step _ W9 _ _ _ _ _ rfl rfl rfl (bl_range HR7.out) (bl_range HR8.out) HP.out HS3.out) rfl ?_
  exact ⟨_, by rw [HRR.out, HXX.out], by rw [HRR.out]; exact HOW.out, by rw [HRR.out]; exact OK1.out, HBE.out⟩
end Go.Proofs.YtegkodgondlcmaaDoor
