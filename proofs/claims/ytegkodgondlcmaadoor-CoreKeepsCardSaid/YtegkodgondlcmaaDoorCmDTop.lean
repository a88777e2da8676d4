/-
  The document's Run and Step.
-/
import Derived.Test.YtegkodgondlcmaaDoorCmDRun
namespace Go.Proofs.YtegkodgondlcmaaDoor
open Go.RowKit FerryCrc FerryAlu
set_option linter.unusedVariables false
set_option linter.unusedSimpArgs false

theorem mch_tail {w : World} {g : Nat} {v : Value} {m : Mc} {k s c : Int} (ok : m.Ok) (h : Bl w g (mch v m.proc k s c)) : w.cell? ⟨g, 0, none⟩ = some v ∧ w.rangeAt g 1 m.proc ∧ w.cell? ⟨g, 22, none⟩ = some (.int .i64 k) ∧ w.cell? ⟨g, 23, none⟩ = some (.int .i64 s) ∧ w.cell? ⟨g, 24, none⟩ = some (.int .i64 c) := by
  have h21 := proc_len ok
  refine ⟨h.cell 0 _ rfl, fun j x hx => ?_, h.cell 22 _ ?_, h.cell 23 _ ?_, h.cell 24 _ ?_⟩
  · rw [Nat.add_comm]
    refine h.cell (j + 1) x ?_
    unfold mch
    rw [List.getElem?_cons_succ, List.getElem?_append_left (List.getElem?_eq_some_iff.1 hx).1]
    exact hx
  all_goals
    unfold mch
    rw [List.getElem?_cons_succ, List.getElem?_append_right (by omega), h21]
    rfl
theorem res_rRun (tm : Array Value) (W : World) (g7 g8 : Nat) (pv : Value) (P S : List Value) (e6 : tm.getD 6 undef = pv) (e7 : tm.getD 7 undef = .pointer (some ⟨g7, 0, none⟩)) (e8 : tm.getD 8 undef = .pointer (some ⟨g8, 0, none⟩))
    (h7 : W.rangeAt g7 0 P) (h8 : W.rangeAt g8 0 S) (hP : P.length = 21) (hS : S.length = 3) : (results Tryd.f11 tm).run Tryd.prog W = .ok (.tuple #[pv, .agg P.toArray, .agg S.toArray]) W := by
  have l7 := run_loadVar_mid (P := Tryd.prog) W g7 0 26 P _ h7 Tryd.underlying26 rfl (by rw [hP]; exact infoProc)
  have l8 := run_loadVar_mid (P := Tryd.prog) W g8 0 29 S _ h8 Tryd.underlying29 rfl (by rw [hS]; exact infoStop)
  rw [Array.getD_eq_getD_getElem?] at e6 e7 e8
  simp [results, Tryd.results11, asAddr, e6, e7, e8, l7, l8]
theorem res_rStep (tm : Array Value) (W : World) (g7 g8 : Nat) (pv : Value) (P S : List Value) (e6 : tm.getD 4 undef = pv) (e7 : tm.getD 5 undef = .pointer (some ⟨g7, 0, none⟩)) (e8 : tm.getD 6 undef = .pointer (some ⟨g8, 0, none⟩))
    (h7 : W.rangeAt g7 0 P) (h8 : W.rangeAt g8 0 S) (hP : P.length = 21) (hS : S.length = 3) : (results Tryd.f6 tm).run Tryd.prog W = .ok (.tuple #[pv, .agg P.toArray, .agg S.toArray]) W := by
  have l7 := run_loadVar_mid (P := Tryd.prog) W g7 0 26 P _ h7 Tryd.underlying26 rfl (by rw [hP]; exact infoProc)
  have l8 := run_loadVar_mid (P := Tryd.prog) W g8 0 29 S _ h8 Tryd.underlying29 rfl (by rw [hS]; exact infoStop)
  rw [Array.getD_eq_getD_getElem?] at e6 e7 e8
  simp [results, Tryd.results6, asAddr, e6, e7, e8, l7, l8]
theorem stop_one (R : Rn) : ∀ u ∈ stopL R, u.oneCell' = true := by
  intro u hu
  simp only [stopL, List.mem_cons, List.not_mem_nil, or_false] at hu
  rcases hu with rfl | rfl | rfl <;> rfl

set_option maxRecDepth 100000 in
set_option maxHeartbeats 8000000 in
theorem rRun_any (a : Option Addr) (len cap : Nat) (m : Mc) (n : Int) (w : World) (hs : Pgs w a len cap m.pages) (ok : m.Ok) (hn : n ≤ 10000) (hn0 : -9223372036854775808 ≤ n) :
    Calls Tryd.prog 11 #[.slice a len cap, .agg m.proc.toArray, .int .i64 n] w fun e w' => ∃ v, e = .returned (.tuple #[v, .agg (m.run n.toNat).m.proc.toArray, .agg (stopL (m.run n.toNat)).toArray]) ∧ POwn w' w.heap.size v (m.run n.toNat).m.pages ∧ (m.run n.toNat).m.Ok ∧ Below w.heap.size w w' := by
  have HS := hide hs
  have OK := hide ok
  have HPL : Hid (m.proc.length = 21) := proc_len ok
  obtain ⟨z4, z7, z8, hb0, hsz⟩ := three_alloc w m.proc.toArray #[.int .u32 0, .int .u32 0, .int .u32 0, .int .u32 0, .int .u32 0, .int .u32 0, .int .u32 0, .int .u32 0, .int .u32 0, .int .u32 0, .int .u32 0, .int .u32 0, .int .u32 0, .int .u32 0, .int .u32 0, .int .u32 0, .int .u32 0, .int .i64 0, .int .i64 0, .int .i64 0, .int .i64 0] #[.int .i64 0, .int .i64 0, .int .i64 0] 26 29
  have Z4 : Hid (Bl (((w.alloc (.cells m.proc.toArray 26)).alloc (.cells #[.int .u32 0, .int .u32 0, .int .u32 0, .int .u32 0, .int .u32 0, .int .u32 0, .int .u32 0, .int .u32 0, .int .u32 0, .int .u32 0, .int .u32 0, .int .u32 0, .int .u32 0, .int .u32 0, .int .u32 0, .int .u32 0, .int .u32 0, .int .i64 0, .int .i64 0, .int .i64 0, .int .i64 0] 26)).alloc (.cells #[.int .i64 0, .int .i64 0, .int .i64 0] 29)) w.heap.size m.proc) := z4
  have Z7 := hide z7
  have Z8 := hide z8
  have HB0 := hide hb0
  have HSZ := hide hsz
  have HL7 : Hid ((#[.int .u32 0, .int .u32 0, .int .u32 0, .int .u32 0, .int .u32 0, .int .u32 0, .int .u32 0, .int .u32 0, .int .u32 0, .int .u32 0, .int .u32 0, .int .u32 0, .int .u32 0, .int .u32 0, .int .u32 0, .int .u32 0, .int .u32 0, .int .i64 0, .int .i64 0, .int .i64 0, .int .i64 0] : Array Value).toList.length = 21) := rfl
  have HL8 : Hid ((#[.int .i64 0, .int .i64 0, .int .i64 0] : Array Value).toList.length = 3) := rfl
  have hu26 := Tryd.underlying26
  have hi26 : (Tryd.prog.info? 26).map (·.size) = some m.proc.length := by rw [HPL.out]; exact infoProc
  have HU := hide hu26
  have HI := hide hi26
  clear hs ok z4 z7 z8 hb0 hsz hu26 hi26
  go_enter Tryd.func11, Tryd.ntmps11
  go_upto_region 1 with fail
  generalize (#[.int .u32 0, .int .u32 0, .int .u32 0, .int .u32 0, .int .u32 0, .int .u32 0, .int .u32 0, .int .u32 0, .int .u32 0, .int .u32 0, .int .u32 0, .int .u32 0, .int .u32 0, .int .u32 0, .int .u32 0, .int .u32 0, .int .u32 0, .int .i64 0, .int .i64 0, .int .i64 0, .int .i64 0] : Array Value) = ZA at *
  generalize (#[.int .i64 0, .int .i64 0, .int .i64 0] : Array Value) = ZS at *
  generalize ((w.alloc (.cells m.proc.toArray 26)).alloc (.cells ZA 26)).alloc (.cells ZS 29) = W0 at *
  have r4 : W0.rangeAt w.heap.size 0 m.proc := bl_range Z4.out
  have HRN := hide (rrun_any a len cap m n W0 (HS.out.below HB0.out) OK.out hn hn0)
  generalize hR : m.run n.toNat = R at *
  generalize m.path n.toNat = PT at *
  go_wp2_with (first | (refine wpList_load_mid (op := { dst := some 13, op := Go.Op.load 26 (Go.Operand.tmp 4), type := 26, pos := "ref.go:159", after := #[], guard := none }) rfl 26 (.tmp 4) rfl w.heap.size 0 rfl m.proc _ r4 HU.out rfl HI.out ?_) | fail)
  refine Calls.mono HRN.out ?_
  rintro e w1 ⟨v, pv, rfl, ho, hu, okR, b1⟩
  have HO := hide ho
  have OKR := hide okR
  have HB1 := hide b1
  obtain ⟨va, vc, hv, _, _⟩ := ho.pgs okR.ok okR.most
  have HVV := hide hv
  have HML : Hid ((mch v R.m.proc (R.kind : Int) (R.steps : Int) R.code).length = 25) := mch_len (proc_len okR) _ _ _ _
  have HIA : Hid ((Tryd.prog.info? 56).map (·.size) = some (mch v R.m.proc (R.kind : Int) (R.steps : Int) R.code).toArray.size) := by unfold Hid; rw [List.size_toArray, HML.out]; exact infoMch
  have HONE : Hid (∀ u ∈ (mch v R.m.proc (R.kind : Int) (R.steps : Int) R.code), u.oneCell' = true) := by unfold Hid; rw [HVV.out]; exact mch_one _ _ _ _ _ _ _
  have HPV := hide hu
  obtain ⟨ua, uc, rfl⟩ := hu.sl
  clear ho okR b1 hu hv HRN r4
  go_upto_region 2 with (first | (refine wpList_store_new (op := { dst := none, op := Go.Op.store 56 (Go.Operand.tmp 9) (Go.Operand.tmp 16), type := 0, pos := "ref.go:159", after := #[{ on := 7, ground := Go.Ground.data }, { on := 5, ground := Go.Ground.data }, { on := 3, ground := Go.Ground.chain }, { on := 0, ground := Go.Ground.phase }, { on := 1, ground := Go.Ground.phase }, { on := 2, ground := Go.Ground.phase }, { on := 3, ground := Go.Ground.phase }, { on := 4, ground := Go.Ground.phase }, { on := 5, ground := Go.Ground.phase }, { on := 6, ground := Go.Ground.textOnly Go.Departure.lateStores }, { on := 7, ground := Go.Ground.phase }], guard := none }) rfl 56 (.tmp 9) (.tmp 16) rfl (mch v R.m.proc (R.kind : Int) (R.steps : Int) R.code).toArray rfl rfl HIA.out (show (25 : Nat) = (mch v R.m.proc (R.kind : Int) (R.steps : Int) R.code).toArray.size by rw [show (mch v R.m.proc (R.kind : Int) (R.steps : Int) R.code).toArray.size = (mch v R.m.proc (R.kind : Int) (R.steps : Int) R.code).length from List.size_toArray, HML.out]) (all_oneCell_toArray HONE.out) ?_) | fail)
  try simp only [Act.put]
  have hbl : Bl (w1.alloc (.cells (mch v R.m.proc (R.kind : Int) (R.steps : Int) R.code).toArray 56)) w1.heap.size (mch v R.m.proc (R.kind : Int) (R.steps : Int) R.code) := bl_alloc w1 (mch v R.m.proc (R.kind : Int) (R.steps : Int) R.code).toArray 56
  have hba : Below w1.heap.size w1 (w1.alloc (.cells (mch v R.m.proc (R.kind : Int) (R.steps : Int) R.code).toArray 56)) := (Below.refl _ _).alloc (Nat.le_refl _) _
  have hza : w1.heap.size < (w1.alloc (.cells (mch v R.m.proc (R.kind : Int) (R.steps : Int) R.code).toArray 56)).heap.size := by simp
  generalize w1.alloc (.cells (mch v R.m.proc (R.kind : Int) (R.steps : Int) R.code).toArray 56) = W2 at *
  have HBL := hide hbl
  have HW2 := hide (chain HB1.out hba)
  have HO2 := hide (HO.out.below hba)
  have HG9 : Hid (W0.heap.size ≤ w1.heap.size ∧ w1.heap.size < W2.heap.size) := ⟨HB1.out.size, hza⟩
  have Z72 := hide (Z7.out.below (by rw [HSZ.out]; omega) HW2.out)
  have Z82 := hide (Z8.out.below (by rw [HSZ.out]; omega) HW2.out)
  clear hbl hba hza
  obtain ⟨g7, hg7⟩ : ∃ g7, w.heap.size + 1 = g7 := ⟨_, rfl⟩
  rw [hg7] at Z72 Z82 ⊢
  obtain ⟨g8, hg8⟩ : ∃ g8, g7 + 1 = g8 := ⟨_, rfl⟩
  rw [hg8] at Z82 ⊢
  have HGG : Hid (w.heap.size ≤ g7 ∧ w.heap.size ≤ g8 ∧ g7 ≠ g8 ∧ g7 < W0.heap.size ∧ g8 < W0.heap.size) := by have := HSZ.out; exact ⟨by omega, by omega, by omega, by omega, by omega⟩
  clear hg7 hg8
  generalize w1.heap.size = g9 at *
  have HN9 : Hid (g7 ≠ g9 ∧ g8 ≠ g9) := by have h1 := HGG.out; have h2 := HG9.out; exact ⟨by omega, by omega⟩
  have HNO : Hid (v.ownBlock ≠ some g7 ∧ v.ownBlock ≠ some g8) := by have h1 := HGG.out; exact ⟨fun e => by have := (World.ownsRow.lt HO.out _ e).1; omega, fun e => by have := (World.ownsRow.lt HO.out _ e).1; omega⟩
  have HP21 : Hid (R.m.proc.length = 21) := proc_len OKR.out
  have hi26 : (Tryd.prog.info? 26).map (·.size) = some R.m.proc.length := by rw [HP21.out]; exact infoProc
  have HI2 := hide hi26
  clear hi26
  have HTAIL : Hid (∀ wz, Bl wz g9 (mch v R.m.proc (R.kind : Int) (R.steps : Int) R.code) → (fun wz => wz.cell? ⟨g9, 0, none⟩ = some v ∧ wz.rangeAt g9 1 R.m.proc ∧ wz.cell? ⟨g9, 22, none⟩ = some (.int .i64 (R.kind : Int)) ∧ wz.cell? ⟨g9, 23, none⟩ = some (.int .i64 (R.steps : Int)) ∧ wz.cell? ⟨g9, 24, none⟩ = some (.int .i64 R.code)) wz) := fun wz h => mch_tail OKR.out h
  have HBD : Hid (Bl W2.drew g9 (mch v R.m.proc (R.kind : Int) (R.steps : Int) R.code)) := HBL.out.drew
  have hth7 : W2.drew.there g7 0 R.m.proc.length := by rw [HP21.out, ← HL7.out]; exact bl_there Z72.out.drew
  have HTH7 := hide hth7
  clear hth7
  obtain ⟨va, vc, rfl⟩ : ∃ va vc, v = .slice va R.m.pages.length vc := ⟨_, _, HVV.out⟩
  refine wp_region_held_drew (S := fun wz => wz.cell? ⟨g9, 0, none⟩ = some (.slice va R.m.pages.length vc) ∧ wz.rangeAt g9 1 R.m.proc ∧ wz.cell? ⟨g9, 22, none⟩ = some (.int .i64 (R.kind : Int)) ∧ wz.cell? ⟨g9, 23, none⟩ = some (.int .i64 (R.steps : Int)) ∧ wz.cell? ⟨g9, 24, none⟩ = some (.int .i64 R.code)) (by kernel_rfl) (HTAIL.out _ HBD.out) (fun hHeld => ?_)
  refine wpAnyH_take (i := 0) (oi := { dst := some 18, op := Go.Op.fieldAddr 56 (Go.Operand.tmp 9) 0, type := 0, pos := "ref.go:160", after := #[], guard := none }) (v := ?_) rfl (by kernel_rfl) (by kernel_rfl) (by kernel_rfl) (fun _ _ _ h => h) (Or.inl ⟨by rfl, ?_⟩) (by assumption) ?_
  rotate_left
  · intro w hSw
    try dsimp only at hSw
    go_simp
    try with_reducible rfl
  simp only [Act.put, List.setIfInBounds_toArray, List.set_cons_zero, List.set_cons_succ]
  refine wpAnyH_take (i := 1) (oi := { dst := some 19, op := Go.Op.load 22 (Go.Operand.tmp 18), type := 22, pos := "ref.go:160", after := #[{ on := 0, ground := Go.Ground.data }], guard := none }) (v := ?_) rfl (by kernel_rfl) (by kernel_rfl) (by kernel_rfl) (fun _ _ _ h => h) (Or.inl ⟨by rfl, ?_⟩) (by assumption) ?_
  rotate_left
  · intro w hSw
    try dsimp only at hSw
    go_simp
    try with_reducible rfl
  simp only [Act.put, List.setIfInBounds_toArray, List.set_cons_zero, List.set_cons_succ]
  refine wpAnyH_take (i := 2) (oi := { dst := some 20, op := Go.Op.fieldAddr 56 (Go.Operand.tmp 9) 1, type := 0, pos := "ref.go:160", after := #[{ on := 6, ground := Go.Ground.gcOnly Go.Departure.lateStores }], guard := none }) (v := ?_) rfl (by kernel_rfl) (by kernel_rfl) (by kernel_rfl) (fun _ _ _ h => h) (Or.inl ⟨by rfl, ?_⟩) (by assumption) ?_
  rotate_left
  · intro w hSw
    try dsimp only at hSw
    go_simp
    try with_reducible rfl
  simp only [Act.put, List.setIfInBounds_toArray, List.set_cons_zero, List.set_cons_succ]
  refine wpAnyH_take (i := 3) (oi := { dst := some 21, op := Go.Op.load 26 (Go.Operand.tmp 20), type := 26, pos := "ref.go:160", after := #[{ on := 2, ground := Go.Ground.data }, { on := 6, ground := Go.Ground.gcOnly Go.Departure.lateStores }], guard := none }) rfl (by kernel_rfl) (by kernel_rfl) (by kernel_rfl) (fun _ _ _ h => h) (yieldsIf_load_mid (by rfl) _ _ rfl _ _ rfl _ _ (fun _ h => h.2.1) HU.out rfl HI2.out) (by assumption) ?_
  simp only [Act.put, List.setIfInBounds_toArray, List.set_cons_zero, List.set_cons_succ]
  refine wpAnyH_take (i := 4) (oi := { dst := some 22, op := Go.Op.fieldAddr 56 (Go.Operand.tmp 9) 2, type := 0, pos := "ref.go:160", after := #[{ on := 7, ground := Go.Ground.gcOnly Go.Departure.lateStores }], guard := none }) (v := ?_) rfl (by kernel_rfl) (by kernel_rfl) (by kernel_rfl) (fun _ _ _ h => h) (Or.inl ⟨by rfl, ?_⟩) (by assumption) ?_
  rotate_left
  · intro w hSw
    try dsimp only at hSw
    go_simp
    try with_reducible rfl
  simp only [Act.put, List.setIfInBounds_toArray, List.set_cons_zero, List.set_cons_succ]
  refine wpAnyH_take (i := 5) (oi := { dst := some 23, op := Go.Op.load 29 (Go.Operand.tmp 22), type := 29, pos := "ref.go:160", after := #[{ on := 4, ground := Go.Ground.data }, { on := 7, ground := Go.Ground.gcOnly Go.Departure.lateStores }], guard := none }) (v := ?_) rfl (by kernel_rfl) (by kernel_rfl) (by kernel_rfl) (fun _ _ _ h => h) (Or.inl ⟨by rfl, ?_⟩) (by assumption) ?_
  rotate_left
  · intro w hSw
    try dsimp only at hSw
    go_simp
    try with_reducible rfl
  simp only [Act.put, List.setIfInBounds_toArray, List.set_cons_zero, List.set_cons_succ]
  refine wpAnyH_take (i := 6) (oi := { dst := some 6, op := Go.Op.assign (Go.Operand.tmp 19), type := 22, pos := "ref.go:160", after := #[{ on := 1, ground := Go.Ground.data }, { on := 0, ground := Go.Ground.phase }, { on := 1, ground := Go.Ground.phase }, { on := 2, ground := Go.Ground.textOnly Go.Departure.lateStores }, { on := 3, ground := Go.Ground.textOnly Go.Departure.lateStores }, { on := 4, ground := Go.Ground.textOnly Go.Departure.lateStores }, { on := 5, ground := Go.Ground.textOnly Go.Departure.lateStores }], guard := none }) (v := ?_) rfl (by kernel_rfl) (by kernel_rfl) (by kernel_rfl) (fun _ _ _ h => h) (Or.inl ⟨by rfl, ?_⟩) (by assumption) ?_
  rotate_left
  · intro w hSw
    try dsimp only at hSw
    go_simp
    try with_reducible rfl
  simp only [Act.put, List.setIfInBounds_toArray, List.set_cons_zero, List.set_cons_succ]
  refine wpAnyH_ready (rs := [7]) (by kernel_rfl) (by simp) ?_
  refine AllReadyH.cons (o := { dst := none, op := Go.Op.store 26 (Go.Operand.tmp 7) (Go.Operand.tmp 21), type := 0, pos := "ref.go:160", after := #[{ on := 3, ground := Go.Ground.data }, { on := 6, ground := Go.Ground.chain }, { on := 0, ground := Go.Ground.phase }, { on := 1, ground := Go.Ground.phase }, { on := 2, ground := Go.Ground.phase }, { on := 3, ground := Go.Ground.phase }, { on := 4, ground := Go.Ground.textOnly Go.Departure.lateStores }, { on := 5, ground := Go.Ground.textOnly Go.Departure.lateStores }, { on := 6, ground := Go.Ground.phase }], guard := none }) rfl (fun K hK => ?_) AllReadyH.nil
  refine step_store rfl 26 (.tmp 7) (.tmp 21) rfl g7 0 R.m.proc rfl rfl HTH7.out HI2.out (proc_one R.m) ?_
  have HBD2 := hide (HBD.out.farCells (o := 0) (vs := R.m.proc) HN9.out.1)
  have HZ7 : Hid (Bl (W2.drew.setCells g7 0 R.m.proc) g7 R.m.proc) := bl_setCells (cs := ZA.toList) Z72.out.drew (by rw [HP21.out]; exact HL7.out)
  have HZ8 := hide (Z82.out.drew.farCells (o := 0) (vs := R.m.proc) HGG.out.2.2.1)
  have HOW := hide (own_farCells HNO.out.1 R.m.proc 0 W2.drew (World.ownsRow.drew HO2.out))
  have HBE := hide (below_setCells HGG.out.1 R.m.proc 0 W2.drew (chain HB0.out HW2.out).drew)
  refine hK.out _ _ (HTAIL.out _ HBD2.out) (fun hHeld2 => ?_)
  clear hK K hHeld
  generalize W2.drew.setCells g7 0 R.m.proc = W7 at *
  try simp only [Act.put, List.setIfInBounds_toArray, List.set_cons_zero, List.set_cons_succ]
  refine wpAnyH_ready (rs := [8]) (by kernel_rfl) (by simp) ?_
  refine AllReadyH.cons (o := { dst := none, op := Go.Op.store 29 (Go.Operand.tmp 8) (Go.Operand.tmp 23), type := 0, pos := "ref.go:160", after := #[{ on := 5, ground := Go.Ground.data }, { on := 7, ground := Go.Ground.chain }, { on := 0, ground := Go.Ground.phase }, { on := 1, ground := Go.Ground.phase }, { on := 2, ground := Go.Ground.phase }, { on := 3, ground := Go.Ground.phase }, { on := 4, ground := Go.Ground.phase }, { on := 5, ground := Go.Ground.phase }, { on := 6, ground := Go.Ground.phase }, { on := 7, ground := Go.Ground.phase }], guard := none }) rfl (fun K hK => ?_) AllReadyH.nil
  refine step_store rfl 29 (.tmp 8) (.tmp 23) rfl g8 0 [.int .i64 (R.kind : Int), .int .i64 (R.steps : Int), .int .i64 R.code] rfl rfl (show W7.there g8 0 3 by rw [← HL8.out]; exact bl_there HZ8.out) infoStop (stop_one R) ?_
  have HBD3 := hide (HBD2.out.farCells (o := 0) (vs := [.int .i64 (R.kind : Int), .int .i64 (R.steps : Int), .int .i64 R.code]) HN9.out.2)
  have HR7 := hide (HZ7.out.farCells (o := 0) (vs := [.int .i64 (R.kind : Int), .int .i64 (R.steps : Int), .int .i64 R.code]) HGG.out.2.2.1.symm)
  have HR8 := hide (bl_setCells (vs := [.int .i64 (R.kind : Int), .int .i64 (R.steps : Int), .int .i64 R.code]) HZ8.out HL8.out)
  have HOW3 := hide (own_farCells HNO.out.2 [.int .i64 (R.kind : Int), .int .i64 (R.steps : Int), .int .i64 R.code] 0 W7 HOW.out)
  have HBE3 := hide (below_setCells HGG.out.2.1 [.int .i64 (R.kind : Int), .int .i64 (R.steps : Int), .int .i64 R.code] 0 W7 HBE.out)
  refine hK.out _ _ (HTAIL.out _ HBD3.out) (fun hHeld3 => ?_)
  clear hK K hHeld2
  generalize W7.setCells g8 0 [.int .i64 (R.kind : Int), .int .i64 (R.steps : Int), .int .i64 R.code] = W9 at *
  try simp only [Act.put, List.setIfInBounds_toArray, List.set_cons_zero, List.set_cons_succ]
  refine wpAnyH_done (by kernel_rfl) ?_ _
  (try simp only [Exit.inBlock, Exit.then])
  go_wp2
  (try simp only [Exit.inBlock, Exit.then])
  refine bodyPost_ret (v := .tuple #[.slice va R.m.pages.length vc, .agg R.m.proc.toArray, .agg (stopL R).toArray]) (res_rRun _ W9 g7 g8 _ _ _ rfl rfl rfl (bl_range HR7.out) (bl_range HR8.out) HP21.out rfl) rfl ?_
  subst hR
  exact ⟨_, rfl, HOW3.out.weaken HB0.out.size, OKR.out, HBE3.out⟩

set_option maxRecDepth 100000 in
set_option maxHeartbeats 8000000 in
theorem rStep_any (a : Option Addr) (len cap : Nat) (m : Mc) (w : World) (hs : Pgs w a len cap m.pages) (ok : m.Ok) :
    Calls Tryd.prog 6 #[.slice a len cap, .agg m.proc.toArray] w fun e w' => ∃ v, e = .returned (.tuple #[v, .agg (m.run 1).m.proc.toArray, .agg (stopL (m.run 1)).toArray]) ∧ POwn w' w.heap.size v (m.run 1).m.pages ∧ (m.run 1).m.Ok ∧ Below w.heap.size w w' := by
  have HS := hide hs
  have OK := hide ok
  have HPL : Hid (m.proc.length = 21) := proc_len ok
  obtain ⟨z4, z7, z8, hb0, hsz⟩ := three_alloc w m.proc.toArray #[.int .u32 0, .int .u32 0, .int .u32 0, .int .u32 0, .int .u32 0, .int .u32 0, .int .u32 0, .int .u32 0, .int .u32 0, .int .u32 0, .int .u32 0, .int .u32 0, .int .u32 0, .int .u32 0, .int .u32 0, .int .u32 0, .int .u32 0, .int .i64 0, .int .i64 0, .int .i64 0, .int .i64 0] #[.int .i64 0, .int .i64 0, .int .i64 0] 26 29
  have Z4 : Hid (Bl (((w.alloc (.cells m.proc.toArray 26)).alloc (.cells #[.int .u32 0, .int .u32 0, .int .u32 0, .int .u32 0, .int .u32 0, .int .u32 0, .int .u32 0, .int .u32 0, .int .u32 0, .int .u32 0, .int .u32 0, .int .u32 0, .int .u32 0, .int .u32 0, .int .u32 0, .int .u32 0, .int .u32 0, .int .i64 0, .int .i64 0, .int .i64 0, .int .i64 0] 26)).alloc (.cells #[.int .i64 0, .int .i64 0, .int .i64 0] 29)) w.heap.size m.proc) := z4
  have Z7 := hide z7
  have Z8 := hide z8
  have HB0 := hide hb0
  have HSZ := hide hsz
  have HL7 : Hid ((#[.int .u32 0, .int .u32 0, .int .u32 0, .int .u32 0, .int .u32 0, .int .u32 0, .int .u32 0, .int .u32 0, .int .u32 0, .int .u32 0, .int .u32 0, .int .u32 0, .int .u32 0, .int .u32 0, .int .u32 0, .int .u32 0, .int .u32 0, .int .i64 0, .int .i64 0, .int .i64 0, .int .i64 0] : Array Value).toList.length = 21) := rfl
  have HL8 : Hid ((#[.int .i64 0, .int .i64 0, .int .i64 0] : Array Value).toList.length = 3) := rfl
  have hu26 := Tryd.underlying26
  have hi26 : (Tryd.prog.info? 26).map (·.size) = some m.proc.length := by rw [HPL.out]; exact infoProc
  have HU := hide hu26
  have HI := hide hi26
  clear hs ok z4 z7 z8 hb0 hsz hu26 hi26
  go_enter Tryd.func6, Tryd.ntmps6
  go_upto_region 1 with fail
  generalize (#[.int .u32 0, .int .u32 0, .int .u32 0, .int .u32 0, .int .u32 0, .int .u32 0, .int .u32 0, .int .u32 0, .int .u32 0, .int .u32 0, .int .u32 0, .int .u32 0, .int .u32 0, .int .u32 0, .int .u32 0, .int .u32 0, .int .u32 0, .int .i64 0, .int .i64 0, .int .i64 0, .int .i64 0] : Array Value) = ZA at *
  generalize (#[.int .i64 0, .int .i64 0, .int .i64 0] : Array Value) = ZS at *
  generalize ((w.alloc (.cells m.proc.toArray 26)).alloc (.cells ZA 26)).alloc (.cells ZS 29) = W0 at *
  have r4 : W0.rangeAt w.heap.size 0 m.proc := bl_range Z4.out
  have HRN := hide (rRun_any a len cap m 1 W0 (HS.out.below HB0.out) OK.out (by decide) (by decide))
  rw [show (1 : Int).toNat = 1 from rfl] at HRN
  generalize hR : m.run 1 = R at *
  go_wp2_with (first | (refine wpList_load_mid (op := { dst := some 8, op := Go.Op.load 26 (Go.Operand.tmp 3), type := 26, pos := "ref.go:156", after := #[], guard := none }) rfl 26 (.tmp 3) rfl w.heap.size 0 rfl m.proc _ r4 HU.out rfl HI.out ?_) | fail)
  refine Calls.mono HRN.out ?_
  rintro e w1 ⟨v, rfl, ho, okR, b1⟩
  obtain ⟨va, vc, rfl, _, _⟩ := ho.pgs okR.ok okR.most
  have HO := hide ho
  have OKR := hide okR
  have HP21 : Hid (R.m.proc.length = 21) := proc_len okR
  have Z71 := hide (Z7.out.below (by rw [HSZ.out]; omega) b1)
  have Z81 := hide (Z8.out.below (by rw [HSZ.out]; omega) b1)
  have HB1 := hide (chain HB0.out b1)
  have HNO : Hid ((Value.slice va R.m.pages.length vc).ownBlock ≠ some (w.heap.size + 1) ∧ (Value.slice va R.m.pages.length vc).ownBlock ≠ some (w.heap.size + 1 + 1)) := by have h1 := HSZ.out; exact ⟨fun e => by have := (World.ownsRow.lt ho _ e).1; omega, fun e => by have := (World.ownsRow.lt ho _ e).1; omega⟩
  have HTH7 : Hid (w1.there (w.heap.size + 1) 0 R.m.proc.toArray.size) := by
    have := bl_there Z71.out
    rw [HL7.out] at this
    unfold Hid
    rw [show R.m.proc.toArray.size = R.m.proc.length from List.size_toArray, HP21.out]
    exact this
  have HI7 : Hid ((Tryd.prog.info? 26).map (·.size) = some R.m.proc.toArray.size) := by unfold Hid; rw [show R.m.proc.toArray.size = R.m.proc.length from List.size_toArray, HP21.out]; exact infoProc
  have HTH8 : Hid ((w1.setCells (w.heap.size + 1) 0 R.m.proc).there (w.heap.size + 1 + 1) 0 (stopL R).toArray.size) := by
    have := bl_there (Z81.out.farCells (g' := w.heap.size + 1) (o := 0) (vs := R.m.proc) (by omega))
    rw [HL8.out] at this
    exact this
  have HI8 : Hid ((Tryd.prog.info? 29).map (·.size) = some (stopL R).toArray.size) := infoStop
  have HR7 : Hid (Bl ((w1.setCells (w.heap.size + 1) 0 R.m.proc).setCells (w.heap.size + 1 + 1) 0 (stopL R)) (w.heap.size + 1) R.m.proc) := (bl_setCells Z71.out (by rw [HL7.out, HP21.out])).farCells (by omega)
  have HR8 : Hid (Bl ((w1.setCells (w.heap.size + 1) 0 R.m.proc).setCells (w.heap.size + 1 + 1) 0 (stopL R)) (w.heap.size + 1 + 1) (stopL R)) := bl_setCells (Z81.out.farCells (g' := w.heap.size + 1) (o := 0) (vs := R.m.proc) (by omega)) HL8.out
  have HOW : Hid (POwn ((w1.setCells (w.heap.size + 1) 0 R.m.proc).setCells (w.heap.size + 1 + 1) 0 (stopL R)) W0.heap.size (.slice va R.m.pages.length vc) R.m.pages) := own_farCells HNO.out.2 _ _ _ (own_farCells HNO.out.1 _ _ _ HO.out)
  have HBE : Hid (Below w.heap.size w ((w1.setCells (w.heap.size + 1) 0 R.m.proc).setCells (w.heap.size + 1 + 1) 0 (stopL R))) := below_setCells (by omega) _ _ _ (below_setCells (by omega) _ _ _ HB1.out)
  have HSL : Hid ((stopL R).length = 3) := rfl
  have HONE : Hid (∀ u ∈ stopL R, u.oneCell' = true) := stop_one R
  clear ho okR b1 HRN r4
  generalize hSS : stopL R = SS at *
  go_wp2_with (first | (refine wpList_store_mid (op := { dst := none, op := Go.Op.store 26 (Go.Operand.tmp 5) (Go.Operand.tmp 11), type := 0, pos := "ref.go:156", after := #[{ on := 4, ground := Go.Ground.data }, { on := 6, ground := Go.Ground.chain }, { on := 0, ground := Go.Ground.phase }, { on := 1, ground := Go.Ground.phase }, { on := 2, ground := Go.Ground.phase }, { on := 3, ground := Go.Ground.phase }, { on := 4, ground := Go.Ground.phase }, { on := 5, ground := Go.Ground.phase }, { on := 6, ground := Go.Ground.phase }], guard := none }) rfl 26 (.tmp 5) (.tmp 11) rfl (w.heap.size + 1) 0 R.m.proc.toArray rfl rfl HTH7.out HI7.out (all_oneCell_toArray (proc_one R.m)) ?_) | (refine wpList_store_mid (op := { dst := none, op := Go.Op.store 29 (Go.Operand.tmp 6) (Go.Operand.tmp 12), type := 0, pos := "ref.go:156", after := #[{ on := 5, ground := Go.Ground.data }, { on := 7, ground := Go.Ground.chain }, { on := 0, ground := Go.Ground.phase }, { on := 1, ground := Go.Ground.phase }, { on := 2, ground := Go.Ground.phase }, { on := 3, ground := Go.Ground.phase }, { on := 4, ground := Go.Ground.phase }, { on := 5, ground := Go.Ground.phase }, { on := 6, ground := Go.Ground.phase }, { on := 7, ground := Go.Ground.phase }], guard := none }) rfl 29 (.tmp 6) (.tmp 12) rfl (w.heap.size + 1 + 1) 0 SS.toArray rfl rfl HTH8.out HI8.out (all_oneCell_toArray HONE.out) ?_) | fail)
  try simp only [Act.put]
  generalize (w1.setCells (w.heap.size + 1) 0 R.m.proc).setCells (w.heap.size + 1 + 1) 0 SS = W9 at *
  try go_wp2
  (try simp only [Exit.inBlock, Exit.then])
  refine bodyPost_ret (v := .tuple #[.slice va R.m.pages.length vc, .agg R.m.proc.toArray, .agg SS.toArray]) (res_rStep _ W9 (w.heap.size + 1) (w.heap.size + 1 + 1) _ _ _ rfl rfl rfl (bl_range HR7.out) (bl_range HR8.out) HP21.out HSL.out) rfl ?_
  subst hSS
  subst hR
  exact ⟨_, rfl, HOW.out.weaken HB0.out.size, OKR.out, HBE.out⟩
end Go.Proofs.YtegkodgondlcmaaDoor
