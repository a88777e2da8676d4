/-
  The document's Run and Step.
-/
import Derived.Test.YtegkodgondlcmaaGreatDoorCmDRun
namespace Go.Proofs.YtegkodgondlcmaaGreatDoor
open Go.RowKit FerryCrc FerryAlu
set_option linter.unusedVariables false
set_option linter.unusedSimpArgs false

theorem mch_tail {w : World} {g : Nat} {v : Value} {m : Mc} {k s c : Int} (ok : m.Ok) (h : Bl w g (mch v m.proc k s c)) : w.cell? ⟨g, 0, none⟩ = some v ∧ w.rangeAt g 1 m.proc ∧ w.cell? ⟨g, 22, none⟩ = some (.int .i64 k) ∧ w.cell? ⟨g, 23, none⟩ = some (.int .i64 s) ∧ w.cell? ⟨g, 24, none⟩ = some (.int .i64 c) := by
  have h21 := proc_len ok
  refine ⟨h.cell 0 _ rfl, fun j x hx => ?_, h.cell 22 _ ?_, h.cell 23 _ ?_, h.cell 24 _ ?_⟩
  · rw [Nat.add_comm]
    refine h.cell (j + 1) x ?_
    unfold mch
    rw [List.getElem?_cons_succ, List.getElem?_append_left (List.getElem?_eq_some_iff.1 hx).1]
    exact hx
  all_goals
    unfold mch
    rw [List.getElem?_cons_succ, List.getElem?_append_right (by omega), h21]
    rfl
theorem res_rRun (tm : Array Value) (W : World) (g7 g8 : Nat) (pv : Value) (P S : List Value) (e6 : tm.getD 6 undef = pv) (e7 : tm.getD 7 undef = .pointer (some ⟨g7, 0, none⟩)) (e8 : tm.getD 8 undef = .pointer (some ⟨g8, 0, none⟩))
    (h7 : W.rangeAt g7 0 P) (h8 : W.rangeAt g8 0 S) (hP : P.length = 21) (hS : S.length = 3) : (results Tryz.f10 tm).run Tryz.prog W = .ok (.tuple #[pv, .agg P.toArray, .agg S.toArray]) W := by
  have l7 := run_loadVar_mid (P := Tryz.prog) W g7 0 26 P _ h7 Tryz.underlying26 rfl (by rw [hP]; exact infoProc)
  have l8 := run_loadVar_mid (P := Tryz.prog) W g8 0 38 S _ h8 Tryz.underlying38 rfl (by rw [hS]; exact infoStop)
  rw [Array.getD_eq_getD_getElem?] at e6 e7 e8
  simp [results, Tryz.results10, asAddr, e6, e7, e8, l7, l8]
theorem stop_one (R : Rn) : ∀ u ∈ stopL R, u.oneCell' = true := by
  intro u hu
  simp only [stopL, List.mem_cons, List.not_mem_nil, or_false] at hu
  rcases hu with rfl | rfl | rfl <;> rfl

set_option maxRecDepth 100000 in
set_option maxHeartbeats 8000000 in
theorem rRun_any (a : Option Addr) (len cap : Nat) (m : Mc) (n : Int) (w : World) (hs : Pgs w a len cap m.pages) (ok : m.Ok) (hn : n ≤ 10000) (hn0 : -9223372036854775808 ≤ n) :
    Calls Tryz.prog 10 #[.slice a len cap, .agg m.proc.toArray, .int .i64 n] w fun e w' => ∃ v, e = .returned (.tuple #[v, .agg (m.run n.toNat).m.proc.toArray, .agg (stopL (m.run n.toNat)).toArray]) ∧ POwn w' w.heap.size v (m.run n.toNat).m.pages ∧ (m.run n.toNat).m.Ok ∧ Below w.heap.size w w' := by
  have HS := hide hs
  have OK := hide ok
  have HPL : Hid (m.proc.length = 21) := proc_len ok
  obtain ⟨z4, z7, z8, hb0, hsz⟩ := three_alloc w m.proc.toArray #[.int .u32 0, .int .u32 0, .int .u32 0, .int .u32 0, .int .u32 0, .int .u32 0, .int .u32 0, .int .u32 0, .int .u32 0, .int .u32 0, .int .u32 0, .int .u32 0, .int .u32 0, .int .u32 0, .int .u32 0, .int .u32 0, .int .u32 0, .int .i64 0, .int .i64 0, .int .i64 0, .int .i64 0] #[.int .i64 0, .int .i64 0, .int .i64 0] 26 38
  have Z4 : Hid (Bl (((w.alloc (.cells m.proc.toArray 26)).alloc (.cells #[.int .u32 0, .int .u32 0, .int .u32 0, .int .u32 0, .int .u32 0, .int .u32 0, .int .u32 0, .int .u32 0, .int .u32 0, .int .u32 0, .int .u32 0, .int .u32 0, .int .u32 0, .int .u32 0, .int .u32 0, .int .u32 0, .int .u32 0, .int .i64 0, .int .i64 0, .int .i64 0, .int .i64 0] 26)).alloc (.cells #[.int .i64 0, .int .i64 0, .int .i64 0] 38)) w.heap.size m.proc) := z4
  have Z7 := hide z7
  have Z8 := hide z8
  have HB0 := hide hb0
  have HSZ := hide hsz
  have HL7 : Hid ((#[.int .u32 0, .int .u32 0, .int .u32 0, .int .u32 0, .int .u32 0, .int .u32 0, .int .u32 0, .int .u32 0, .int .u32 0, .int .u32 0, .int .u32 0, .int .u32 0, .int .u32 0, .int .u32 0, .int .u32 0, .int .u32 0, .int .u32 0, .int .i64 0, .int .i64 0, .int .i64 0, .int .i64 0] : Array Value).toList.length = 21) := rfl
  have HL8 : Hid ((#[.int .i64 0, .int .i64 0, .int .i64 0] : Array Value).toList.length = 3) := rfl
  have hu26 := Tryz.underlying26
  have hi26 : (Tryz.prog.info? 26).map (·.size) = some m.proc.length := by rw [HPL.out]; exact infoProc
  have HU := hide hu26
  have HI := hide hi26
  clear hs ok z4 z7 z8 hb0 hsz hu26 hi26
  go_enter Tryz.func10, Tryz.ntmps10
  go_upto_region 1 with fail
  generalize (#[.int .u32 0, .int .u32 0, .int .u32 0, .int .u32 0, .int .u32 0, .int .u32 0, .int .u32 0, .int .u32 0, .int .u32 0, .int .u32 0, .int .u32 0, .int .u32 0, .int .u32 0, .int .u32 0, .int .u32 0, .int .u32 0, .int .u32 0, .int .i64 0, .int .i64 0, .int .i64 0, .int .i64 0] : Array Value) = ZA at *
  generalize (#[.int .i64 0, .int .i64 0, .int .i64 0] : Array Value) = ZS at *
  generalize ((w.alloc (.cells m.proc.toArray 26)).alloc (.cells ZA 26)).alloc (.cells ZS 38) = W0 at *
  have r4 : W0.rangeAt w.heap.size 0 m.proc := bl_range Z4.out
  have HRN := hide (rrun_any a len cap m n W0 (HS.out.below HB0.out) OK.out hn hn0)
  generalize hR : m.run n.toNat = R at *
  generalize m.path n.toNat = PT at *
  go_wp2_with (first | (refine wpList_load_mid (op := { dst := some 13, op := Go.Op.load 26 (Go.Operand.tmp 4), type := 26, pos := "ref.go:159", after := #[], guard := none }) rfl 26 (.tmp 4) rfl w.heap.size 0 rfl m.proc _ r4 HU.out rfl HI.out ?_) | fail)
  refine Calls.mono HRN.out ?_
  rintro e w1 ⟨v, pv, rfl, ho, hu, okR, b1⟩
  have HO := hide ho
  have OKR := hide okR
  have HB1 := hide b1
  obtain ⟨va, vc, hv, _, _⟩ := ho.pgs okR.ok okR.most
  have HVV := hide hv
  have HML : Hid ((mch v R.m.proc (R.kind : Int) (R.steps : Int) R.code).length = 25) := mch_len (proc_len okR) _ _ _ _
  have HIA : Hid ((Tryz.prog.info? 49).map (·.size) = some (mch v R.m.proc (R.kind : Int) (R.steps : Int) R.code).toArray.size) := by unfold Hid; rw [List.size_toArray, HML.out]; exact infoMch
  have HONE : Hid (∀ u ∈ (mch v R.m.proc (R.kind : Int) (R.steps : Int) R.code), u.oneCell' = true) := by unfold Hid; rw [HVV.out]; exact mch_one _ _ _ _ _ _ _
  have HPV := hide hu
  obtain ⟨ua, uc, rfl⟩ := hu.sl
  clear ho okR b1 hu hv HRN r4
  go_upto_region 2 with (first | (refine wpList_store_new (op := { dst := none, op := Go.Op.store 49 (Go.Operand.tmp 9) (Go.Operand.tmp 16), type := 0, pos := "ref.go:159", after := #[{ on := 7, ground := Go.Ground.data }, { on := 5, ground := Go.Ground.data }, { on := 3, ground := Go.Ground.chain }, { on := 0, ground := Go.Ground.phase }, { on := 1, ground := Go.Ground.phase }, { on := 2, ground := Go.Ground.phase }, { on := 3, ground := Go.Ground.phase }, { on := 4, ground := Go.Ground.phase }, { on := 5, ground := Go.Ground.phase }, { on := 6, ground := Go.Ground.textOnly Go.Departure.lateStores }, { on := 7, ground := Go.Ground.phase }], guard := none }) rfl 49 (.tmp 9) (.tmp 16) rfl (mch v R.m.proc (R.kind : Int) (R.steps : Int) R.code).toArray rfl rfl HIA.out (show (25 : Nat) = (mch v R.m.proc (R.kind : Int) (R.steps : Int) R.code).toArray.size by rw [show (mch v R.m.proc (R.kind : Int) (R.steps : Int) R.code).toArray.size = (mch v R.m.proc (R.kind : Int) (R.steps : Int) R.code).length from List.size_toArray, HML.out]) (all_oneCell_toArray HONE.out) ?_) | fail)
  try simp only [Act.put]
  have hbl : Bl (w1.alloc (.cells (mch v R.m.proc (R.kind : Int) (R.steps : Int) R.code).toArray 49)) w1.heap.size (mch v R.m.proc (R.kind : Int) (R.steps : Int) R.code) := bl_alloc w1 (mch v R.m.proc (R.kind : Int) (R.steps : Int) R.code).toArray 49
  have hba : Below w1.heap.size w1 (w1.alloc (.cells (mch v R.m.proc (R.kind : Int) (R.steps : Int) R.code).toArray 49)) := (Below.refl _ _).alloc (Nat.le_refl _) _
  have hza : w1.heap.size < (w1.alloc (.cells (mch v R.m.proc (R.kind : Int) (R.steps : Int) R.code).toArray 49)).heap.size := by simp
  generalize w1.alloc (.cells (mch v R.m.proc (R.kind : Int) (R.steps : Int) R.code).toArray 49) = W2 at *
  have HBL := hide hbl
  have HW2 := hide (chain HB1.out hba)
  have HO2 := hide (HO.out.below hba)
  have HG9 : Hid (W0.heap.size ≤ w1.heap.size ∧ w1.heap.size < W2.heap.size) := ⟨HB1.out.size, hza⟩
  have Z72 := hide (Z7.out.below (by rw [HSZ.out]; omega) HW2.out)
  have Z82 := hide (Z8.out.below (by rw [HSZ.out]; omega) HW2.out)
  clear hbl hba hza
  obtain ⟨g7, hg7⟩ : ∃ g7, w.heap.size + 1 = g7 := ⟨_, rfl⟩
  rw [hg7] at Z72 Z82 ⊢
  obtain ⟨g8, hg8⟩ : ∃ g8, g7 + 1 = g8 := ⟨_, rfl⟩
  rw [hg8] at Z82 ⊢
  have HGG : Hid (w.heap.size ≤ g7 ∧ w.heap.size ≤ g8 ∧ g7 ≠ g8 ∧ g7 < W0.heap.size ∧ g8 < W0.heap.size) := by have := HSZ.out; exact ⟨by omega, by omega, by omega, by omega, by omega⟩
  clear hg7 hg8
  generalize w1.heap.size = g9 at *
  have HN9 : Hid (g7 ≠ g9 ∧ g8 ≠ g9) := by have h1 := HGG.out; have h2 := HG9.out; exact ⟨by omega, by omega⟩
  have HNO : Hid (v.ownBlock ≠ some g7 ∧ v.ownBlock ≠ some g8) := by have h1 := HGG.out; exact ⟨fun e => by have := (World.ownsRow.lt HO.out _ e).1; omega, fun e => by have := (World.ownsRow.lt HO.out _ e).1; omega⟩
  have HP21 : Hid (R.m.proc.length = 21) := proc_len OKR.out
  have hi26 : (Tryz.prog.info? 26).map (·.size) = some R.m.proc.length := by rw [HP21.out]; exact infoProc
  have HI2 := hide hi26
  clear hi26
  have HTAIL : Hid (∀ wz, Bl wz g9 (mch v R.m.proc (R.kind : Int) (R.steps : Int) R.code) → (fun wz => wz.cell? ⟨g9, 0, none⟩ = some v ∧ wz.rangeAt g9 1 R.m.proc ∧ wz.cell? ⟨g9, 22, none⟩ = some (.int .i64 (R.kind : Int)) ∧ wz.cell? ⟨g9, 23, none⟩ = some (.int .i64 (R.steps : Int)) ∧ wz.cell? ⟨g9, 24, none⟩ = some (.int .i64 R.code)) wz) := fun wz h => mch_tail OKR.out h
  have HBD : Hid (Bl W2.drew g9 (mch v R.m.proc (R.kind : Int) (R.steps : Int) R.code)) := HBL.out.drew
  have hth7 : W2.drew.there g7 0 R.m.proc.length := by rw [HP21.out, ← HL7.out]; exact bl_there Z72.out.drew
  have HTH7 := hide hth7
  clear hth7
  obtain ⟨va, vc, rfl⟩ : ∃ va vc, v = .slice va R.m.pages.length vc := ⟨_, _, HVV.out⟩
  refine wp_region_held_drew (S := fun wz => wz.cell? ⟨g9, 0, none⟩ = some (.slice va R.m.pages.length vc) ∧ wz.rangeAt g9 1 R.m.proc ∧ wz.cell? ⟨g9, 22, none⟩ = some (.int .i64 (R.kind : Int)) ∧ wz.cell? ⟨g9, 23, none⟩ = some (.int .i64 (R.steps : Int)) ∧ wz.cell? ⟨g9, 24, none⟩ = some (.int .i64 R.code)) (by kernel_rfl) (HTAIL.out _ HBD.out) (fun hHeld => ?_)
  refine wpAnyH_take (i := 0) (oi := { dst := some 18, op := Go.Op.fieldAddr 49 (Go.Operand.tmp 9) 0, type := 0, pos := "ref.go:160", after := #[], guard := none }) (v := ?_) rfl (by kernel_rfl) (by kernel_rfl) (by kernel_rfl) (fun _ _ _ h => h) (Or.inl ⟨by rfl, ?_⟩) (by assumption) ?_
  rotate_left
  · intro w hSw
    try dsimp only at hSw
    go_simp
    try with_reducible rfl
  simp only [Act.put, List.setIfInBounds_toArray, List.set_cons_zero, List.set_cons_succ]
  refine wpAnyH_take (i := 1) (oi := { dst := some 19, op := Go.Op.load 22 (Go.Operand.tmp 18), type := 22, pos := "ref.go:160", after := #[{ on := 0, ground := Go.Ground.data }], guard := none }) (v := ?_) rfl (by kernel_rfl) (by kernel_rfl) (by kernel_rfl) (fun _ _ _ h => h) (Or.inl ⟨by rfl, ?_⟩) (by assumption) ?_
  rotate_left
  · intro w hSw
    try dsimp only at hSw
    go_simp
    try with_reducible rfl
  simp only [Act.put, List.setIfInBounds_toArray, List.set_cons_zero, List.set_cons_succ]
  refine wpAnyH_take (i := 2) (oi := { dst := some 20, op := Go.Op.fieldAddr 49 (Go.Operand.tmp 9) 1, type := 0, pos := "ref.go:160", after := #[{ on := 6, ground := Go.Ground.gcOnly Go.Departure.lateStores }], guard := none }) (v := ?_) rfl (by kernel_rfl) (by kernel_rfl) (by kernel_rfl) (fun _ _ _ h => h) (Or.inl ⟨by rfl, ?_⟩) (by assumption) ?_
  rotate_left
  · intro w hSw
    try dsimp only at hSw
    go_simp
    try with_reducible rfl
  simp only [Act.put, List.setIfInBounds_toArray, List.set_cons_zero, List.set_cons_succ]
  refine wpAnyH_take (i := 3) (oi := { dst := some 21, op := Go.Op.load 26 (Go.Operand.tmp 20), type := 26, pos := "ref.go:160", after := #[{ on := 2, ground := Go.Ground.data }, { on := 6, ground := Go.Ground.gcOnly Go.Departure.lateStores }], guard := none }) rfl (by kernel_rfl) (by kernel_rfl) (by kernel_rfl) (fun _ _ _ h => h) (yieldsIf_load_mid (by rfl) _ _ rfl _ _ rfl _ _ (fun _ h => h.2.1) HU.out rfl HI2.out) (by assumption) ?_
  simp only [Act.put, List.setIfInBounds_toArray, List.set_cons_zero, List.set_cons_succ]
  refine wpAnyH_take (i := 4) (oi := { dst := some 22, op := Go.Op.fieldAddr 49 (Go.Operand.tmp 9) 2, type := 0, pos := "ref.go:160", after := #[{ on := 7, ground := Go.Ground.gcOnly Go.Departure.lateStores }], guard := none }) (v := ?_) rfl (by kernel_rfl) (by kernel_rfl) (by kernel_rfl) (fun _ _ _ h => h) (Or.inl ⟨by rfl, ?_⟩) (by assumption) ?_
  rotate_left
  · intro w hSw
    try dsimp only at hSw
    go_simp
    try with_reducible rfl
  simp only [Act.put, List.setIfInBounds_toArray, List.set_cons_zero, List.set_cons_succ]
  refine wpAnyH_take (i := 5) (oi := { dst := some 23, op := Go.Op.load 38 (Go.Operand.tmp 22), type := 38, pos := "ref.go:160", after := #[{ on := 4, ground := Go.Ground.data }, { on := 7, ground := Go.Ground.gcOnly Go.Departure.lateStores }], guard := none }) (v := ?_) rfl (by kernel_rfl) (by kernel_rfl) (by kernel_rfl) (fun _ _ _ h => h) (Or.inl ⟨by rfl, ?_⟩) (by assumption) ?_
  rotate_left
  · intro w hSw
    try dsimp only at hSw
    go_simp
    try with_reducible rfl
  simp only [Act.put, List.setIfInBounds_toArray, List.set_cons_zero, List.set_cons_succ]
  refine wpAnyH_take (i := 6) (oi := { dst := some 6, op := Go.Op.assign (Go.Operand.tmp 19), type := 22, pos := "ref.go:160", after := #[{ on := 1, ground := Go.Ground.data }, { on := 0, ground := Go.Ground.phase }, { on := 1, ground := Go.Ground.phase }, { on := 2, ground := Go.Ground.textOnly Go.Departure.lateStores }, { on := 3, ground := Go.Ground.textOnly Go.Departure.lateStores }, { on := 4, ground := Go.Ground.textOnly Go.Departure.lateStores }, { on := 5, ground := Go.Ground.textOnly Go.Departure.lateStores }], guard := none }) (v := ?_) rfl (by kernel_rfl) (by kernel_rfl) (by kernel_rfl) (fun _ _ _ h => h) (Or.inl ⟨by rfl, ?_⟩) (by assumption) ?_
  rotate_left
  · intro w hSw
    try dsimp only at hSw
    go_simp
    try with_reducible rfl
  simp only [Act.put, List.setIfInBounds_toArray, List.set_cons_zero, List.set_cons_succ]
  refine wpAnyH_ready (rs := [7]) (by kernel_rfl) (by simp) ?_
  refine AllReadyH.cons (o := { dst := none, op := Go.Op.store 26 (Go.Operand.tmp 7) (Go.Operand.tmp 21), type := 0, pos := "ref.go:160", after := #[{ on := 3, ground := Go.Ground.data }, { on := 6, ground := Go.Ground.chain }, { on := 0, ground := Go.Ground.phase }, { on := 1, ground := Go.Ground.phase }, { on := 2, ground := Go.Ground.phase }, { on := 3, ground := Go.Ground.phase }, { on := 4, ground := Go.Ground.textOnly Go.Departure.lateStores }, { on := 5, ground := Go.Ground.textOnly Go.Departure.lateStores }, { on := 6, ground := Go.Ground.phase }], guard := none }) rfl (fun K hK => ?_) AllReadyH.nil
  refine step_store rfl 26 (.tmp 7) (.tmp 21) rfl g7 0 R.m.proc rfl rfl HTH7.out HI2.out (proc_one R.m) ?_
  have HBD2 := hide (HBD.out.farCells (o := 0) (vs := R.m.proc) HN9.out.1)
  have HZ7 : Hid (Bl (W2.drew.setCells g7 0 R.m.proc) g7 R.m.proc) := bl_setCells (cs := ZA.toList) Z72.out.drew (by rw [HP21.out]; exact HL7.out)
  have HZ8 := hide (Z82.out.drew.farCells (o := 0) (vs := R.m.proc) HGG.out.2.2.1)
  have HOW := hide (own_farCells HNO.out.1 R.m.proc 0 W2.drew (World.ownsRow.drew HO2.out))
  have HBE := hide (below_setCells HGG.out.1 R.m.proc 0 W2.drew (chain HB0.out HW2.out).drew)
  refine hK.out _ _ (HTAIL.out _ HBD2.out) (fun hHeld2 => ?_)
  clear hK K hHeld
  generalize W2.drew.setCells g7 0 R.m.proc = W7 at *
  try simp only [Act.put, List.setIfInBounds_toArray, List.set_cons_zero, List.set_cons_succ]
  refine wpAnyH_ready (rs := [8]) (by kernel_rfl) (by simp) ?_
  refine AllReadyH.cons (o := { dst := none, op := Go.Op.store 38 (Go.Operand.tmp 8) (Go.Operand.tmp 23), type := 0, pos := "ref.go:160", after := #[{ on := 5, ground := Go.Ground.data }, { on := 7, ground := Go.Ground.chain }, { on := 0, ground := Go.Ground.phase }, { on := 1, ground := Go.Ground.phase }, { on := 2, ground := Go.Ground.phase }, { on := 3, ground := Go.Ground.phase }, { on := 4, ground := Go.Ground.phase }, { on := 5, ground := Go.Ground.phase }, { on := 6, ground := Go.Ground.phase }, { on := 7, ground := Go.Ground.phase }], guard := none }) rfl (fun K hK => ?_) AllReadyH.nil
  refine step_store rfl 38 (.tmp 8) (.tmp 23) rfl g8 0 [.int .i64 (R.kind : Int), .int .i64 (R.steps : Int), .int .i64 R.code] rfl rfl (show W7.there g8 0 3 by rw [← HL8.out]; exact bl_there HZ8.out) infoStop (stop_one R) ?_
  have HBD3 := hide (HBD2.out.farCells (o := 0) (vs := [.int .i64 (R.kind : Int), .int .i64 (R.steps : Int), .int .i64 R.code]) HN9.out.2)
  have HR7 := hide (HZ7.out.farCells (o := 0) (vs := [.int .i64 (R.kind : Int), .int .i64 (R.steps : Int), .int .i64 R.code]) HGG.out.2.2.1.symm)
  have HR8 := hide (bl_setCells (vs := [.int .i64 (R.kind : Int), .int .i64 (R.steps : Int), .int .i64 R.code]) HZ8.out HL8.out)
  have HOW3 := hide (own_farCells HNO.out.2 [.int .i64 (R.kind : Int), .int .i64 (R.steps : Int), .int .i64 R.code] 0 W7 HOW.out)
  have HBE3 := hide (below_setCells HGG.out.2.1 [.int .i64 (R.kind : Int), .int .i64 (R.steps : Int), .int .i64 R.code] 0 W7 HBE.out)
  refine hK.out _ _ (HTAIL.out _ HBD3.out) (fun hHeld3 => ?_)
  clear hK K hHeld2
  generalize W7.setCells g8 0 [.int .i64 (R.kind : Int), .int .i64 (R.steps : Int), .int .i64 R.code] = W9 at *
  try simp only [Act.put, List.setIfInBounds_toArray, List.set_cons_zero, List.set_cons_succ]
  refine wpAnyH_done (by kernel_rfl) ?_ _
  (try simp only [Exit.inBlock, Exit.then])
  go_wp2
  (try simp only [Exit.inBlock, Exit.then])
  refine bodyPost_ret (v := .tuple #[.slice va R.m.pages.length vc, .agg R.m.proc.toArray, .agg (stopL R).toArray]) (res_rRun _ W9 g7 g8 _ _ _ rfl rfl rfl (bl_range HR7.out) (bl_range HR8.out) HP21.out rfl) rfl ?_
  subst hR
  exact ⟨_, rfl, HOW3.out.weaken HB0.out.size, OKR.out, HBE3.out⟩

end Go.Proofs.YtegkodgondlcmaaGreatDoor
