/-
  CoreSteps: the law walked.
-/
import Derived.Test.YtegkodgondlcmaaDoorCmKeep
import Derived.Test.YtegkodgondlcmaaDoorCmDTop
import Derived.Test.YtegkodgondlcmaaDoorPgEq
import Derived.Test.YtegkodgondlcmaaDoorCmAwake
namespace Go.Proofs.YtegkodgondlcmaaDoor.coreSteps
open Go.RowKit FerryCrc FerryAlu
set_option linter.unusedVariables false
set_option linter.unusedSimpArgs false

set_option maxRecDepth 100000 in
set_option maxHeartbeats 8000000 in
theorem law (a : Option Addr) (len cap : Nat) (m : Mc) (w : World) (A : Addr) (hv : Cov w A) (hs : Pgs w a len cap m.pages) (ok : m.Ok) :
    Calls Tryd.prog 3 #[.slice a len cap, .agg m.proc.toArray] w fun e w' => e = .returned (.bool true) ∧ Below w.heap.size w w' := by
  have hm := hs.most
  have HLEN := hide hs.size
  have HS := hide hs
  have HV := hide hv
  have OK := hide ok
  have HPL : Hid (m.proc.length = 21) := proc_len ok
  obtain ⟨z4, hb0, hsz⟩ := one_alloc w m.proc.toArray 26
  have Z4 : Hid (Bl (w.alloc (.cells m.proc.toArray 26)) w.heap.size m.proc) := z4
  have HB0 := hide hb0
  have HSZ := hide hsz
  have hu26 := Tryd.underlying26
  have hi26 : (Tryd.prog.info? 26).map (·.size) = some m.proc.length := by rw [HPL.out]; exact infoProc
  have HU := hide hu26
  have HI := hide hi26
  clear hs hv ok z4 hb0 hsz hu26 hi26
  go_enter Tryd.func3, Tryd.ntmps3
  go_upto_region 1 with fail
  generalize w.alloc (.cells m.proc.toArray 26) = W0 at *
  go_wp2_with fail
  refine Calls.mono (awake_any W0 A (HV.out.below HB0.out)) ?_
  rintro e w1 ⟨rfl, b1⟩
  have Z41 := hide (Z4.out.below (by rw [HSZ.out]; omega) b1)
  have D1 := hide (chain HB0.out b1)
  have L41 : Hid (w.heap.size < w1.heap.size) := by have h1 := HSZ.out; have h2 := b1.size; unfold Hid; omega
  clear b1 Z4 HB0
  have HR1 : Hid (∀ (W : World), Below w.heap.size w W → Calls Tryd.prog 6 #[.slice a len cap, .agg m.proc.toArray] W fun e w' => ∃ v, e = .returned (.tuple #[v, .agg (m.run 1).m.proc.toArray, .agg (stopL (m.run 1)).toArray]) ∧ POwn w' W.heap.size v (m.run 1).m.pages ∧ (m.run 1).m.Ok ∧ Below W.heap.size W w') := fun W hW => rStep_any a len cap m W (HS.out.below hW) OK.out
  have HR2 : Hid (∀ (W : World), Below w.heap.size w W → Calls Tryd.prog 7 #[.slice a len cap, .agg m.proc.toArray] W fun e w' => ∃ v, e = .returned (.tuple #[v, .agg (m.run 1).m.proc.toArray, .agg (stopL (m.run 1)).toArray]) ∧ POwn w' W.heap.size v (m.run 1).m.pages ∧ (m.run 1).m.Ok ∧ Below W.heap.size W w') := fun W hW => core_step_any a len cap m W (HS.out.below hW) OK.out A (HV.out.below hW)
  have HSS : Hid (stl (stopL (m.run 1))) := stl_stop _
  have HS1 : Hid (stopL (m.run 1) = [.int .i64 ((m.run 1).kind : Int), .int .i64 ((m.run 1).steps : Int), .int .i64 (m.run 1).code]) := rfl
  generalize (m.run 1) = R at *
  generalize hS1 : stopL R = S1 at *
  clear hS1
  have r4 : w1.rangeAt w.heap.size 0 m.proc := bl_range Z41.out
  go_wp2_with (first | (refine wpList_load_mid (op := { dst := some 15, op := Go.Op.load 26 (Go.Operand.tmp 3), type := 26, pos := "law.go:57", after := #[], guard := none }) rfl 26 (.tmp 3) rfl w.heap.size 0 rfl m.proc _ r4 HU.out rfl HI.out ?_) | fail)
  refine Calls.mono (HR1.out w1 D1.out) ?_
  rintro e w3 ⟨v1, rfl, hoA, ok1, bA⟩
  have OK1 := hide ok1
  clear ok1 HR1
  obtain ⟨t1A, t2A, ⟨j1A, j2A, j3A, j4A⟩, k1A, k2A, k3A, k4A⟩ := keepR w3 R.m S1 OK1.out HSS.out
  have T1A := hide t1A
  have T2A := hide t2A
  have J1A := hide j1A
  have J2A := hide j2A
  have J3A := hide j3A
  have J4A := hide j4A
  have K1A := hide k1A
  have K2A := hide k2A
  have K3A := hide k3A
  have K4A := hide k4A
  have HOA := hide (hoA.below k3A)
  have D1' := hide (chain D1.out (chain bA k3A))
  have HBBA := hide (chain bA k3A)
  clear t1A t2A j1A j2A j3A j4A k1A k2A k3A k4A hoA
  go_upto_region 4 with (first | (refine wpList_store_mid (op := { dst := none, op := Go.Op.store 26 (Go.Operand.tmp 6) (Go.Operand.tmp 18), type := 0, pos := "law.go:57", after := #[{ on := 7, ground := Go.Ground.data }, { on := 5, ground := Go.Ground.data }, { on := 9, ground := Go.Ground.chain }, { on := 0, ground := Go.Ground.phase }, { on := 1, ground := Go.Ground.phase }, { on := 2, ground := Go.Ground.phase }, { on := 3, ground := Go.Ground.phase }, { on := 4, ground := Go.Ground.phase }, { on := 5, ground := Go.Ground.phase }, { on := 6, ground := Go.Ground.textOnly Go.Departure.lateStores }, { on := 7, ground := Go.Ground.phase }, { on := 8, ground := Go.Ground.phase }, { on := 9, ground := Go.Ground.phase }], guard := none }) rfl 26 (.tmp 6) (.tmp 18) rfl w3.heap.size 0 R.m.proc.toArray rfl rfl T1A.out J1A.out J3A.out ?_) | (refine wpList_store_mid (op := { dst := none, op := Go.Op.store 29 (Go.Operand.tmp 7) (Go.Operand.tmp 19), type := 0, pos := "law.go:57", after := #[{ on := 8, ground := Go.Ground.data }, { on := 6, ground := Go.Ground.data }, { on := 10, ground := Go.Ground.chain }, { on := 0, ground := Go.Ground.phase }, { on := 1, ground := Go.Ground.phase }, { on := 2, ground := Go.Ground.phase }, { on := 3, ground := Go.Ground.phase }, { on := 4, ground := Go.Ground.phase }, { on := 5, ground := Go.Ground.phase }, { on := 6, ground := Go.Ground.phase }, { on := 7, ground := Go.Ground.phase }, { on := 8, ground := Go.Ground.phase }, { on := 9, ground := Go.Ground.phase }, { on := 10, ground := Go.Ground.phase }], guard := none }) rfl 29 (.tmp 7) (.tmp 19) rfl (w3.heap.size + 1) 0 S1.toArray rfl rfl T2A.out J2A.out J4A.out ?_) | fail)
  simp only [Act.put]
  generalize (((w3.alloc (.cells #[.int .u32 0, .int .u32 0, .int .u32 0, .int .u32 0, .int .u32 0, .int .u32 0, .int .u32 0, .int .u32 0, .int .u32 0, .int .u32 0, .int .u32 0, .int .u32 0, .int .u32 0, .int .u32 0, .int .u32 0, .int .u32 0, .int .u32 0, .int .i64 0, .int .i64 0, .int .i64 0, .int .i64 0] 26)).alloc (.cells #[.int .i64 0, .int .i64 0, .int .i64 0] 29)).setCells w3.heap.size 0 R.m.proc).setCells (w3.heap.size + 1) 0 S1 = W4 at *
  have Z43 := hide (Z41.out.below L41.out HBBA.out)
  have r4b : W4.rangeAt w.heap.size 0 m.proc := bl_range Z43.out
  go_wp2_with (first | (refine wpList_load_mid (op := { dst := some 22, op := Go.Op.load 26 (Go.Operand.tmp 3), type := 26, pos := "law.go:58", after := #[], guard := none }) rfl 26 (.tmp 3) rfl w.heap.size 0 rfl m.proc _ r4b HU.out rfl HI.out ?_) | fail)
  refine Calls.mono (HR2.out W4 D1'.out) ?_
  rintro e w5 ⟨v2, rfl, hoB, _, bB⟩
  clear HR2
  obtain ⟨t1B, t2B, ⟨j1B, j2B, j3B, j4B⟩, k1B, k2B, k3B, k4B⟩ := keepR w5 R.m S1 OK1.out HSS.out
  have T1B := hide t1B
  have T2B := hide t2B
  have J1B := hide j1B
  have J2B := hide j2B
  have J3B := hide j3B
  have J4B := hide j4B
  have K1B := hide k1B
  have K2B := hide k2B
  have K3B := hide k3B
  have K4B := hide k4B
  have HOB := hide (hoB.below k3B)
  have D1'' := hide (chain D1'.out (chain bB k3B))
  have HBBB := hide (chain bB k3B)
  clear t1B t2B j1B j2B j3B j4B k1B k2B k3B k4B hoB
  go_upto_region 5 with (first | (refine wpList_store_mid (op := { dst := none, op := Go.Op.store 26 (Go.Operand.tmp 9) (Go.Operand.tmp 25), type := 0, pos := "law.go:58", after := #[{ on := 7, ground := Go.Ground.data }, { on := 5, ground := Go.Ground.data }, { on := 9, ground := Go.Ground.chain }, { on := 0, ground := Go.Ground.phase }, { on := 1, ground := Go.Ground.phase }, { on := 2, ground := Go.Ground.phase }, { on := 3, ground := Go.Ground.phase }, { on := 4, ground := Go.Ground.phase }, { on := 5, ground := Go.Ground.phase }, { on := 6, ground := Go.Ground.textOnly Go.Departure.lateStores }, { on := 7, ground := Go.Ground.phase }, { on := 8, ground := Go.Ground.phase }, { on := 9, ground := Go.Ground.phase }], guard := none }) rfl 26 (.tmp 9) (.tmp 25) rfl w5.heap.size 0 R.m.proc.toArray rfl rfl T1B.out J1B.out J3B.out ?_) | (refine wpList_store_mid (op := { dst := none, op := Go.Op.store 29 (Go.Operand.tmp 10) (Go.Operand.tmp 26), type := 0, pos := "law.go:58", after := #[{ on := 8, ground := Go.Ground.data }, { on := 6, ground := Go.Ground.data }, { on := 10, ground := Go.Ground.chain }, { on := 0, ground := Go.Ground.phase }, { on := 1, ground := Go.Ground.phase }, { on := 2, ground := Go.Ground.phase }, { on := 3, ground := Go.Ground.phase }, { on := 4, ground := Go.Ground.phase }, { on := 5, ground := Go.Ground.phase }, { on := 6, ground := Go.Ground.phase }, { on := 7, ground := Go.Ground.phase }, { on := 8, ground := Go.Ground.phase }, { on := 9, ground := Go.Ground.phase }, { on := 10, ground := Go.Ground.phase }], guard := none }) rfl 29 (.tmp 10) (.tmp 26) rfl (w5.heap.size + 1) 0 S1.toArray rfl rfl T2B.out J2B.out J4B.out ?_) | fail)
  simp only [Act.put]
  generalize (((w5.alloc (.cells #[.int .u32 0, .int .u32 0, .int .u32 0, .int .u32 0, .int .u32 0, .int .u32 0, .int .u32 0, .int .u32 0, .int .u32 0, .int .u32 0, .int .u32 0, .int .u32 0, .int .u32 0, .int .u32 0, .int .u32 0, .int .u32 0, .int .u32 0, .int .i64 0, .int .i64 0, .int .i64 0, .int .i64 0] 26)).alloc (.cells #[.int .i64 0, .int .i64 0, .int .i64 0] 29)).setCells w5.heap.size 0 R.m.proc).setCells (w5.heap.size + 1) 0 S1 = W6 at *
  have hzA : w3.heap.size + 2 = W4.heap.size := K4A.out.symm
  have hA1 := K1A.out.below (by omega) HBBB.out
  have hA2 := K2A.out.below (by omega) HBBB.out
  have hOA := HOA.out.below HBBB.out
  have HSAME := hide (same_own HOB.out hOA OK1.out.ok OK1.out.most)
  have HU32 := hide Tryd.underlying29
  have HI32 : Hid ((Tryd.prog.info? 29).map (·.size) = some S1.length) := by unfold Hid; rw [HSS.out.1]; exact infoStop
  have HI1 : Hid ((Tryd.prog.info? 26).map (·.size) = some R.m.proc.length) := by unfold Hid; rw [proc_len OK1.out]; exact infoProc
  have HQ := hide (And.intro (bl_range hA1) (And.intro (bl_range K1B.out) (And.intro (bl_range K2B.out) (bl_range hA2))))
  clear hA1 hA2 hOA r4 r4b hzA
  refine wp_region_list ?_
  refine wpList_load_g (op := { dst := some 27, op := Go.Op.load 29 (Go.Operand.tmp 10), type := 29, pos := "law.go:59", after := #[], guard := none }) (by rfl) 29 (.tmp 10) rfl (w5.heap.size + 1) (0) rfl S1 _ HQ.out.2.2.1 HU32.out rfl HI32.out ?_
  simp only [Act.put, List.setIfInBounds_toArray, List.set_cons_zero, List.set_cons_succ]
  refine wpList_load_g (op := { dst := some 28, op := Go.Op.load 29 (Go.Operand.tmp 7), type := 29, pos := "law.go:59", after := #[], guard := none }) (by rfl) 29 (.tmp 7) rfl (w3.heap.size + 1) (0) rfl S1 _ HQ.out.2.2.2 HU32.out rfl HI32.out ?_
  simp only [Act.put, List.setIfInBounds_toArray, List.set_cons_zero, List.set_cons_succ]
  refine wpList_run_g (op := { dst := some 29, op := Go.Op.binOp Go.BinOp.eql 29 (Go.Operand.tmp 27) (Go.Operand.tmp 28) 29, type := 4, pos := "law.go:59", after := #[{ on := 0, ground := Go.Ground.data }, { on := 1, ground := Go.Ground.data }], guard := none }) (by rfl) (.bool true) (eql_stop HS1.out _ (.tmp 27) (.tmp 28) rfl rfl _ _ rfl _) ?_
  simp only [Act.put, List.setIfInBounds_toArray, List.set_cons_zero, List.set_cons_succ]
  refine wpList_tail (pre := [{ dst := some 30, op := Go.Op.move (Go.Operand.tmp 29), type := 4, pos := "law.go:59", after := #[{ on := 2, ground := Go.Ground.data }], guard := none }]) _ ?_
  intro tl htl
  have HTL := hide htl
  clear htl
  simp only [List.cons_append, List.nil_append]
  go_wp2_with fail
  have htl := HTL.out
  clear HTL
  subst htl
  refine wpList_load_g (op := { dst := some 31, op := Go.Op.load 26 (Go.Operand.tmp 9), type := 26, pos := "law.go:59", after := #[{ on := 3, ground := Go.Ground.guard }], guard := some (3, true) }) (by rfl) 26 (.tmp 9) rfl w5.heap.size (0) rfl R.m.proc _ HQ.out.2.1 HU.out rfl HI1.out ?_
  simp only [Act.put, List.setIfInBounds_toArray, List.set_cons_zero, List.set_cons_succ]
  refine wpList_load_g (op := { dst := some 32, op := Go.Op.load 26 (Go.Operand.tmp 6), type := 26, pos := "law.go:59", after := #[{ on := 3, ground := Go.Ground.guard }], guard := some (3, true) }) (by rfl) 26 (.tmp 6) rfl w3.heap.size (0) rfl R.m.proc _ HQ.out.1 HU.out rfl HI1.out ?_
  simp only [Act.put, List.setIfInBounds_toArray, List.set_cons_zero, List.set_cons_succ]
  refine wpList_run_g (op := { dst := some 33, op := Go.Op.binOp Go.BinOp.eql 26 (Go.Operand.tmp 31) (Go.Operand.tmp 32) 26, type := 4, pos := "law.go:59", after := #[{ on := 4, ground := Go.Ground.data }, { on := 5, ground := Go.Ground.data }, { on := 3, ground := Go.Ground.guard }], guard := some (3, true) }) (by rfl) (.bool true) (eql_proc OK1.out _ (.tmp 31) (.tmp 32) rfl rfl _ _ rfl _) ?_
  simp only [Act.put, List.setIfInBounds_toArray, List.set_cons_zero, List.set_cons_succ]
  go_wp2_with fail
  refine Calls.mono HSAME.out ?_
  rintro e w8 ⟨rfl, b8⟩
  have D8 := hide (chain D1''.out b8)
  clear b8
  go_wp2
  go_ret
  exact ⟨rfl, D8.out⟩
end Go.Proofs.YtegkodgondlcmaaDoor.coreSteps
