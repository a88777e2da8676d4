/-
  CoreGuards: the law walked.
-/
import Derived.Test.YteopkgjkbhcicaaDoorCmKeep
import Derived.Test.YteopkgjkbhcicaaDoorCoreMem
namespace Go.Proofs.YteopkgjkbhcicaaDoor.coreGuards
open Go.RowKit FerryCrc FerryAlu
set_option linter.unusedVariables false
set_option linter.unusedSimpArgs false

theorem proc_hi (m : Mc) (ok : m.Ok) : m.proc[17]? = some (.int .i64 m.st) ∧ m.proc[18]? = some (.int .i64 m.prio) ∧ m.proc[19]? = some (.int .i64 m.wait) ∧ m.proc[20]? = some (.int .i64 m.obj) := by
  have h : (m.regs.map u32v).length = 16 := by rw [List.length_map]; exact ok.size
  unfold Mc.proc
  refine ⟨?_, ?_, ?_, ?_⟩
  all_goals
    rw [List.getElem?_append_right (by omega), h]
    rfl
theorem proc_lo (m : Mc) (h : m.zero) : m.proc[0]? = some (.int .u32 0) := by
  unfold Mc.zero at h
  have hl := (List.getElem?_eq_some_iff.1 h).1
  unfold Mc.proc
  rw [List.getElem?_append_left (by rw [List.length_map]; exact hl), List.getElem?_map, h]
  rfl
theorem and2 (r : Int) : (bits .and .i64 r 2 == 0) = !(rbit r 1) := by
  have h := right_bit (k := 1) (r := 2) (x := r) (by unfold Right; omega)
  rw [← h]
  cases hb : (bits .and .i64 r 2 == 0) <;> simp [bne, hb]

theorem neq_data {p q : Pg} (hp : p.Ok) (hq : q.Ok) (ev : Operand → Value) (x y : Operand) (hx : ev x = .agg p.row.toArray) (hy : ev y = .agg q.row.toArray) (o : Oper) (t : TypeId) (ho : o.op = .binOp .neq 45 x y t) (w : World) : (execOp ev o).run Tryd.prog w = .ok (.value (.bool (!decide (p.data = q.data)))) w := by
  unfold execOp
  simp only [ho, hx, hy, Sem.run_bind, run_eqGuard_agg _ _ _ _ _ _ _ (show Tryd.prog.eqGuardType Tryd.prog.depth 45 = false by kernel_rfl), Result.andThen_ok, neq_rows hp hq]
  rfl
theorem neq_pg {p : Pg} (hp : p.Ok) (ev : Operand → Value) (x y : Operand) (hx : ev x = .agg p.cells.toArray) (hy : ev y = .agg p.cells.toArray) (o : Oper) (t : TypeId) (ho : o.op = .binOp .neq 47 x y t) (w : World) : (execOp ev o).run Tryd.prog w = .ok (.value (.bool false)) w := by
  unfold execOp
  simp only [ho, hx, hy, Sem.run_bind, run_eqGuard_agg _ _ _ _ _ _ _ (show Tryd.prog.eqGuardType Tryd.prog.depth 47 = false by kernel_rfl), Result.andThen_ok, neq_page hp]
  rfl

set_option maxRecDepth 100000 in
set_option maxHeartbeats 8000000 in
theorem law (a : Option Addr) (len cap : Nat) (m : Mc) (n : Int) (w : World) (A : Addr) (hv : Cov w A) (hs : Pgs w a len cap m.pages) (ok : m.Ok) (i1 : -9223372036854775808 ≤ n) (i2 : n ≤ 9223372036854775807) :
    Calls Tryd.prog 5 #[.slice a len cap, .agg m.proc.toArray, .int .i64 n] w fun e w' => e = .returned (.bool true) ∧ Below w.heap.size w w' := by
  have hm := hs.most
  have HLEN := hide hs.size
  have HS := hide hs
  have HV := hide hv
  have OK := hide ok
  have HPL : Hid (m.proc.length = 21) := proc_len ok
  obtain ⟨z4, hb0, hsz⟩ := one_alloc w m.proc.toArray 26
  have Z4 : Hid (Bl (w.alloc (.cells m.proc.toArray 26)) w.heap.size m.proc) := z4
  have HB0 := hide hb0
  have HSZ := hide hsz
  have hu26 := Tryd.underlying26
  have hi26 : (Tryd.prog.info? 26).map (·.size) = some m.proc.length := by rw [HPL.out]; exact infoProc
  have HU := hide hu26
  have HI := hide hi26
  clear hs hv ok z4 hb0 hsz hu26 hi26
  obtain ⟨na, hna⟩ : ∃ na, (if 3000 < n then 3000 else n) = na := ⟨_, rfl⟩
  have BA := hide (bounded_any n)
  rw [hna] at BA
  have a1 : na ≤ 3000 := by rw [← hna]; split <;> omega
  have a3 : -9223372036854775808 ≤ na := by rw [← hna]; split <;> omega
  clear hna
  go_enter Tryd.func5, Tryd.ntmps5
  go_upto_region 1 with fail
  generalize w.alloc (.cells m.proc.toArray 26) = W0 at *
  go_wp2_with fail
  refine Calls.mono (awake_any W0 A (HV.out.below HB0.out)) ?_
  rintro e w1 ⟨rfl, b1⟩
  have Z41 := hide (Z4.out.below (by rw [HSZ.out]; omega) b1)
  have D1 := hide (chain HB0.out b1)
  have L41 : Hid (w.heap.size < w1.heap.size) := by have h1 := HSZ.out; have h2 := b1.size; unfold Hid; omega
  clear b1 Z4 HB0
  go_wp2_with fail
  refine Calls.mono (BA.out _) ?_
  rintro e w' ⟨rfl, rfl⟩
  have HR1 : Hid (∀ (W : World), Below w.heap.size w W → Calls Tryd.prog 10 #[.slice a len cap, .agg m.proc.toArray, .int .i64 na] W fun e w' => ∃ v, e = .returned (.tuple #[v, .agg (m.run na.toNat).m.proc.toArray, .agg (stopL (m.run na.toNat)).toArray]) ∧ POwn w' W.heap.size v (m.run na.toNat).m.pages ∧ (m.run na.toNat).m.Ok ∧ Below W.heap.size W w') := fun W hW =>
    run_any a len cap m na W (HS.out.below hW) OK.out A (HV.out.below hW) (by omega) (by omega)
  have HELD : Hid (Held m (m.run na.toNat).m) := run_held OK.out _
  have HZR : Hid ((m.run na.toNat).m.zero) := run_zero OK.out _
  have HFA : Hid ((m.run na.toNat).kind = 2 → (m.run na.toNat).m.run 1 = ⟨(m.run na.toNat).m, 2, (m.run na.toNat).code, 1⟩) := fault_again OK.out _
  have HSS : Hid (stl (stopL (m.run na.toNat))) := stl_stop _
  have HS1 : Hid (stopL (m.run na.toNat) = [.int .i64 ((m.run na.toNat).kind : Int), .int .i64 ((m.run na.toNat).steps : Int), .int .i64 (m.run na.toNat).code]) := rfl
  have HL1 : Hid ((m.run na.toNat).m.pages.length = len) := by
    unfold Hid
    rw [HELD.out.pages.size]
    exact HLEN.out
  generalize (m.run na.toNat) = R1 at *
  generalize hS1 : stopL R1 = S1 at *
  have HSE := hide hS1
  clear hS1 BA i1 i2
  have r4 : w1.rangeAt w.heap.size 0 m.proc := bl_range Z41.out
  go_wp2_with (first | (refine wpList_load_mid (op := { dst := some 22, op := Go.Op.load 26 (Go.Operand.tmp 4), type := 26, pos := "outright.go:77", after := #[], guard := none }) rfl 26 (.tmp 4) rfl w.heap.size 0 rfl m.proc _ r4 HU.out rfl HI.out ?_) | fail)
  refine Calls.mono (HR1.out w1 D1.out) ?_
  rintro e w3 ⟨v1, rfl, hoA, ok1, bA⟩
  have OK1 := hide ok1
  clear ok1 HR1
  obtain ⟨t1A, t2A, ⟨j1A, j2A, j3A, j4A⟩, k1A, k2A, k3A, k4A⟩ := keepR w3 R1.m S1 OK1.out HSS.out
  have T1A := hide t1A
  have T2A := hide t2A
  have J1A := hide j1A
  have J2A := hide j2A
  have J3A := hide j3A
  have J4A := hide j4A
  have K1A := hide k1A
  have K2A := hide k2A
  have K3A := hide k3A
  have K4A := hide k4A
  have HOA := hide (hoA.below k3A)
  have D1' := hide (chain D1.out (chain bA k3A))
  have HBBA := hide (chain bA k3A)
  clear t1A t2A j1A j2A j3A j4A k1A k2A k3A k4A hoA
  go_upto_region 5 with (first | (refine wpList_store_mid (op := { dst := none, op := Go.Op.store 26 (Go.Operand.tmp 8) (Go.Operand.tmp 26), type := 0, pos := "outright.go:77", after := #[{ on := 8, ground := Go.Ground.data }, { on := 6, ground := Go.Ground.data }, { on := 10, ground := Go.Ground.chain }, { on := 0, ground := Go.Ground.phase }, { on := 1, ground := Go.Ground.phase }, { on := 2, ground := Go.Ground.phase }, { on := 3, ground := Go.Ground.phase }, { on := 4, ground := Go.Ground.phase }, { on := 5, ground := Go.Ground.phase }, { on := 6, ground := Go.Ground.phase }, { on := 7, ground := Go.Ground.textOnly Go.Departure.lateStores }, { on := 8, ground := Go.Ground.phase }, { on := 9, ground := Go.Ground.phase }, { on := 10, ground := Go.Ground.phase }], guard := none }) rfl 26 (.tmp 8) (.tmp 26) rfl w3.heap.size 0 R1.m.proc.toArray rfl rfl T1A.out J1A.out J3A.out ?_) | (refine wpList_store_mid (op := { dst := none, op := Go.Op.store 32 (Go.Operand.tmp 9) (Go.Operand.tmp 27), type := 0, pos := "outright.go:77", after := #[{ on := 9, ground := Go.Ground.data }, { on := 7, ground := Go.Ground.data }, { on := 11, ground := Go.Ground.chain }, { on := 0, ground := Go.Ground.phase }, { on := 1, ground := Go.Ground.phase }, { on := 2, ground := Go.Ground.phase }, { on := 3, ground := Go.Ground.phase }, { on := 4, ground := Go.Ground.phase }, { on := 5, ground := Go.Ground.phase }, { on := 6, ground := Go.Ground.phase }, { on := 7, ground := Go.Ground.phase }, { on := 8, ground := Go.Ground.phase }, { on := 9, ground := Go.Ground.phase }, { on := 10, ground := Go.Ground.phase }, { on := 11, ground := Go.Ground.phase }], guard := none }) rfl 32 (.tmp 9) (.tmp 27) rfl (w3.heap.size + 1) 0 S1.toArray rfl rfl T2A.out J2A.out J4A.out ?_) | fail)
  simp only [Act.put]
  generalize (((w3.alloc (.cells #[.int .u32 0, .int .u32 0, .int .u32 0, .int .u32 0, .int .u32 0, .int .u32 0, .int .u32 0, .int .u32 0, .int .u32 0, .int .u32 0, .int .u32 0, .int .u32 0, .int .u32 0, .int .u32 0, .int .u32 0, .int .u32 0, .int .u32 0, .int .i64 0, .int .i64 0, .int .i64 0, .int .i64 0] 26)).alloc (.cells #[.int .i64 0, .int .i64 0, .int .i64 0] 32)).setCells w3.heap.size 0 R1.m.proc).setCells (w3.heap.size + 1) 0 S1 = W4 at *
  have Z43 := hide (Z41.out.below L41.out HBBA.out)
  have L43 : Hid (w.heap.size < W4.heap.size) := by have h1 := L41.out; have h2 := HBBA.out.size; unfold Hid; omega
  obtain ⟨va, ca, rfl, pA, _⟩ := HOA.out.pgs OK1.out.ok OK1.out.most
  rw [HL1.out] at pA ⊢
  have PA := hide pA
  have hp := proc_hi m OK.out
  have hq := proc_hi R1.m OK1.out
  rw [HELD.out.st, HELD.out.prio, HELD.out.wait, HELD.out.obj] at hq
  have q0 := K1A.out.cell 0 _ (proc_lo R1.m HZR.out)
  have q17 := K1A.out.cell 17 _ hq.1
  have q18 := K1A.out.cell 18 _ hq.2.1
  have q19 := K1A.out.cell 19 _ hq.2.2.1
  have q20 := K1A.out.cell 20 _ hq.2.2.2
  have p17 := Z43.out.cell 17 _ hp.1
  have p18 := Z43.out.cell 18 _ hp.2.1
  have p19 := Z43.out.cell 19 _ hp.2.2.1
  have p20 := Z43.out.cell 20 _ hp.2.2.2
  clear hp hq pA r4
  go_wp2
  clear q0 q17 q18 q19 q20 p17 p18 p19 p20
  have hu47 := Tryd.underlying47
  have hz47 : ∀ w, (zeroValue 47).run Tryd.prog w = .ok (.agg zPage) w := zero_page
  go_loopw [69] (fun i wr => ∃ k : Nat, k ≤ len ∧ i = .int .i64 (k : Int) ∧ Hid (Below W4.heap.size W4 wr)) (fun i _ => len - (intOf i).toNat)
  case atStart => exact ⟨0, by omega, rfl, Below.refl _ _⟩
  case round =>
    obtain ⟨k, hk, rfl, hb⟩ := hrel
    by_cases hlt : k < len
    · obtain ⟨p, hp⟩ : ∃ p, m.pages[k]? = some p := ⟨_, List.getElem?_eq_getElem (by rw [HLEN.out]; exact hlt)⟩
      obtain ⟨q, hq⟩ : ∃ q, R1.m.pages[k]? = some q := ⟨_, List.getElem?_eq_getElem (by rw [HL1.out]; exact hlt)⟩
      obtain ⟨b, off, rfl, hr⟩ := HS.out.cell k p hp
      obtain ⟨b', off', rfl, hr'⟩ := PA.out.cell k q hq
      have hkept := HELD.out.pages.at' k p q hp hq
      have hpo : p.Ok := OK.out.ok p (List.mem_of_getElem? hp)
      have hqo : q.Ok := OK1.out.ok q (List.mem_of_getElem? hq)
      have hrp : wr.rangeAt b (off + k * 66) p.cells := range_below (range_below hr D1'.out) hb.out
      have hrq : wr.rangeAt b' (off' + k * 66) q.cells := range_below hr' hb.out
      have hin := hpo.cells
      have hiqn := hqo.cells
      have HIN := hide hin
      have HIQN := hide hiqn
      have hi : Hid ((Tryd.prog.info? 47).map (·.size) = some p.cells.length) := by unfold Hid; rw [HIN.out]; exact sizePage
      have hiq : Hid ((Tryd.prog.info? 47).map (·.size) = some q.cells.length) := by unfold Hid; rw [HIQN.out]; exact sizePage
      have HKEPT := hide hkept
      have HPO := hide hpo
      have HQO := hide hqo
      have HRQ := hide hrq
      clear hr hr' hp hq hkept hpo hqo hin hiqn hrq
      go_upto_region 10 with fail
      refine wp_region_list ?_
      refine wpList_tail (pre := [{ dst := some 72, op := Go.Op.move (Go.Operand.tmp 0), type := 22, pos := "outright.go:82", after := #[], guard := none }, { dst := some 73, op := Go.Op.move (Go.Operand.tmp 10), type := 3, pos := "outright.go:82", after := #[], guard := none }, { dst := some 74, op := Go.Op.indexAddr 22 (Go.Operand.tmp 72) (Go.Operand.tmp 73), type := 0, pos := "outright.go:82", after := #[{ on := 0, ground := Go.Ground.data }, { on := 1, ground := Go.Ground.data }], guard := none }]) _ ?_
      intro tl htl
      have HTL := hide htl
      clear htl
      simp only [List.cons_append, List.nil_append]
      go_wp2_with fail
      have htl := HTL.out
      clear HTL
      subst htl
      refine wpList_load_g (op := { dst := some 75, op := Go.Op.load 47 (Go.Operand.tmp 74), type := 47, pos := "outright.go:82", after := #[{ on := 2, ground := Go.Ground.data }], guard := none }) (by rfl) 47 (.tmp 74) rfl b (off + k * 66) rfl p.cells _ hrp hu47 rfl hi.out ?_
      simp only [Act.put, List.setIfInBounds_toArray, List.set_cons_zero, List.set_cons_succ]
      refine wpList_tail (pre := [{ dst := some 11, op := Go.Op.alloc 47, type := 0, pos := "outright.go:82", after := #[], guard := none }]) _ ?_
      intro tl htl
      have HTL := hide htl
      clear htl
      simp only [List.cons_append, List.nil_append]
      go_wp2_with fail
      have htl := HTL.out
      clear HTL
      subst htl
      refine wpList_store_new (op := { dst := none, op := Go.Op.store 47 (Go.Operand.tmp 11) (Go.Operand.tmp 75), type := 0, pos := "outright.go:82", after := #[{ on := 4, ground := Go.Ground.data }, { on := 3, ground := Go.Ground.data }, { on := 0, ground := Go.Ground.phase }, { on := 1, ground := Go.Ground.phase }, { on := 2, ground := Go.Ground.phase }, { on := 3, ground := Go.Ground.phase }, { on := 4, ground := Go.Ground.phase }], guard := none }) rfl 47 (.tmp 11) (.tmp 75) rfl p.cells.toArray rfl rfl (by rw [List.size_toArray]; exact hi.out) (show zPage.size = p.cells.toArray.size by rw [show p.cells.toArray.size = p.cells.length from List.size_toArray, HIN.out]; rfl) (all_oneCell_toArray (Pg.one p)) ?_
      simp only [Act.put, List.setIfInBounds_toArray, List.set_cons_zero, List.set_cons_succ]
      go_upto_region 11 with fail
      have e1 := rangeNew wr p.cells 47
      have hbV : Below wr.heap.size wr (wr.alloc (.cells p.cells.toArray 47)) := (Below.refl _ _).alloc (Nat.le_refl _) _
      have hzV : (wr.alloc (.cells p.cells.toArray 47)).heap.size = wr.heap.size + 1 := by simp
      obtain ⟨V1, hV1⟩ : ∃ V, wr.alloc (.cells p.cells.toArray 47) = V := ⟨_, rfl⟩
      rw [hV1] at e1 hbV hzV ⊢
      have E1 := hide e1
      have HBV := hide hbV
      have HZV := hide hzV
      clear hrp hV1 e1 hbV hzV
      have hrq : V1.rangeAt b' (off' + k * 66) q.cells := range_below HRQ.out HBV.out
      go_upto_region 11 with fail
      refine wp_region_list ?_
      refine wpList_tail (pre := [{ dst := some 76, op := Go.Op.move (Go.Operand.tmp 7), type := 22, pos := "outright.go:83", after := #[], guard := none }, { dst := some 77, op := Go.Op.move (Go.Operand.tmp 10), type := 3, pos := "outright.go:83", after := #[], guard := none }, { dst := some 78, op := Go.Op.indexAddr 22 (Go.Operand.tmp 76) (Go.Operand.tmp 77), type := 0, pos := "outright.go:83", after := #[{ on := 0, ground := Go.Ground.data }, { on := 1, ground := Go.Ground.data }], guard := none }]) _ ?_
      intro tl htl
      have HTL := hide htl
      clear htl
      simp only [List.cons_append, List.nil_append]
      go_wp2_with fail
      have htl := HTL.out
      clear HTL
      subst htl
      refine wpList_load_g (op := { dst := some 79, op := Go.Op.load 47 (Go.Operand.tmp 78), type := 47, pos := "outright.go:83", after := #[{ on := 2, ground := Go.Ground.data }], guard := none }) (by rfl) 47 (.tmp 78) rfl b' (off' + k * 66) rfl q.cells _ hrq hu47 rfl hiq.out ?_
      simp only [Act.put, List.setIfInBounds_toArray, List.set_cons_zero, List.set_cons_succ]
      refine wpList_tail (pre := [{ dst := some 12, op := Go.Op.alloc 47, type := 0, pos := "outright.go:83", after := #[], guard := none }]) _ ?_
      intro tl htl
      have HTL := hide htl
      clear htl
      simp only [List.cons_append, List.nil_append]
      go_wp2_with fail
      have htl := HTL.out
      clear HTL
      subst htl
      refine wpList_store_new (op := { dst := none, op := Go.Op.store 47 (Go.Operand.tmp 12) (Go.Operand.tmp 79), type := 0, pos := "outright.go:83", after := #[{ on := 4, ground := Go.Ground.data }, { on := 3, ground := Go.Ground.data }, { on := 0, ground := Go.Ground.phase }, { on := 1, ground := Go.Ground.phase }, { on := 2, ground := Go.Ground.phase }, { on := 3, ground := Go.Ground.phase }, { on := 4, ground := Go.Ground.phase }], guard := none }) rfl 47 (.tmp 12) (.tmp 79) rfl q.cells.toArray rfl rfl (by rw [List.size_toArray]; exact hiq.out) (show zPage.size = q.cells.toArray.size by rw [show q.cells.toArray.size = q.cells.length from List.size_toArray, HIQN.out]; rfl) (all_oneCell_toArray (Pg.one q)) ?_
      simp only [Act.put, List.setIfInBounds_toArray, List.set_cons_zero, List.set_cons_succ]
      go_upto_region 12 with fail
      have e2 := rangeNew V1 q.cells 47
      have hbW : Below V1.heap.size V1 (V1.alloc (.cells q.cells.toArray 47)) := (Below.refl _ _).alloc (Nat.le_refl _) _
      rw [HZV.out] at e2 ⊢
      obtain ⟨V2, hV2⟩ : ∃ V, V1.alloc (.cells q.cells.toArray 47) = V := ⟨_, rfl⟩
      rw [hV2] at e2 hbW ⊢
      have e1 := range_below E1.out hbW
      have HB2 := hide (chain hb.out (chain HBV.out hbW))
      clear hV2 hbW HBV HZV hrq E1 hb
      have c10 := e1 0 (.int .i64 p.rights) rfl
      have c11 := e1 1 (.bool p.dirty) rfl
      have c20 := e2 0 (.int .i64 q.rights) rfl
      have c21 := e2 1 (.bool q.dirty) rfl
      have f1 : V2.rangeAt wr.heap.size 2 p.row := range_row e1
      have hu45 := Tryd.underlying45
      have hi45 : Hid ((Tryd.prog.info? 45).map (·.size) = some p.row.length) := by unfold Hid; rw [HPO.out.row]; exact sizeData
      have hi45q : Hid ((Tryd.prog.info? 45).map (·.size) = some q.row.length) := by unfold Hid; rw [HQO.out.row]; exact sizeData
      have f2 : V2.rangeAt (wr.heap.size + 1) 2 q.row := range_row e2
      rw [HKEPT.out.rights] at c20
      have hand := and2 p.rights
      cases hrb : rbit p.rights 1
      · have hqp : q = p := HKEPT.out.still hrb
        subst hqp
        rw [hrb] at hand
        have HDV : Hid ((!decide (q.data = q.data)) = false) := by unfold Hid; simp
        have hand' : (bits .and .i64 q.rights 2 == 0) = true := hand
        clear hand hrb
        obtain ⟨pd, hpd⟩ : ∃ d, q.dirty = d := ⟨_, rfl⟩
        rw [hpd] at c11 c21
        clear hpd
        cases pd
        · --
          as_aux_lemma =>
            refine wp_region_list ?_
            refine wpList_tail (pre := [{ dst := some 80, op := Go.Op.fieldAddr 47 (Go.Operand.tmp 11) 0, type := 0, pos := "outright.go:84", after := #[], guard := none }, { dst := some 81, op := Go.Op.load 3 (Go.Operand.tmp 80), type := 3, pos := "outright.go:84", after := #[{ on := 0, ground := Go.Ground.data }], guard := none }, { dst := some 82, op := Go.Op.fieldAddr 47 (Go.Operand.tmp 12) 0, type := 0, pos := "outright.go:84", after := #[], guard := none }, { dst := some 83, op := Go.Op.load 3 (Go.Operand.tmp 82), type := 3, pos := "outright.go:84", after := #[{ on := 2, ground := Go.Ground.data }], guard := none }, { dst := some 84, op := Go.Op.binOp Go.BinOp.neq 3 (Go.Operand.tmp 81) (Go.Operand.tmp 83) 3, type := 4, pos := "outright.go:84", after := #[{ on := 1, ground := Go.Ground.data }, { on := 3, ground := Go.Ground.data }], guard := none }, { dst := some 85, op := Go.Op.move (Go.Operand.tmp 84), type := 4, pos := "outright.go:84", after := #[{ on := 4, ground := Go.Ground.data }], guard := none }, { dst := some 86, op := Go.Op.fieldAddr 47 (Go.Operand.tmp 11) 0, type := 0, pos := "outright.go:84", after := #[{ on := 5, ground := Go.Ground.guard }], guard := some (5, false) }, { dst := some 87, op := Go.Op.load 3 (Go.Operand.tmp 86), type := 3, pos := "outright.go:84", after := #[{ on := 6, ground := Go.Ground.data }, { on := 5, ground := Go.Ground.guard }], guard := some (5, false) }, { dst := some 88, op := Go.Op.binOp Go.BinOp.and 3 (Go.Operand.tmp 87) (Go.Operand.const (Go.Value.int Go.IntKind.i64 2)) 3, type := 3, pos := "outright.go:84", after := #[{ on := 7, ground := Go.Ground.data }, { on := 5, ground := Go.Ground.guard }], guard := some (5, false) }, { dst := some 89, op := Go.Op.binOp Go.BinOp.eql 3 (Go.Operand.tmp 88) (Go.Operand.const (Go.Value.int Go.IntKind.i64 0)) 3, type := 4, pos := "outright.go:84", after := #[{ on := 8, ground := Go.Ground.data }, { on := 5, ground := Go.Ground.guard }], guard := some (5, false) }, { dst := some 90, op := Go.Op.move (Go.Operand.tmp 89), type := 4, pos := "outright.go:84", after := #[{ on := 9, ground := Go.Ground.data }, { on := 5, ground := Go.Ground.chain }, { on := 5, ground := Go.Ground.guard }], guard := some (5, false) }]) _ ?_
            intro tl htl
            have HTL := hide htl
            clear htl
            simp only [List.cons_append, List.nil_append]
            go_wp2_with fail
            have htl := HTL.out
            clear HTL
            subst htl
            refine wpList_load_g (op := { dst := some 91, op := Go.Op.load 47 (Go.Operand.tmp 11), type := 47, pos := "outright.go:84", after := #[{ on := 10, ground := Go.Ground.guard }], guard := some (10, true) }) (by rfl) 47 (.tmp 11) rfl wr.heap.size (0) rfl q.cells _ e1 hu47 rfl hi.out ?_
            simp only [Act.put, List.setIfInBounds_toArray, List.set_cons_zero, List.set_cons_succ]
            refine wpList_load_g (op := { dst := some 92, op := Go.Op.load 47 (Go.Operand.tmp 12), type := 47, pos := "outright.go:84", after := #[{ on := 10, ground := Go.Ground.guard }], guard := some (10, true) }) (by rfl) 47 (.tmp 12) rfl (wr.heap.size + 1) (0) rfl q.cells _ e2 hu47 rfl hi.out ?_
            simp only [Act.put, List.setIfInBounds_toArray, List.set_cons_zero, List.set_cons_succ]
            refine wpList_run_g (op := { dst := some 93, op := Go.Op.binOp Go.BinOp.neq 47 (Go.Operand.tmp 91) (Go.Operand.tmp 92) 47, type := 4, pos := "outright.go:84", after := #[{ on := 11, ground := Go.Ground.data }, { on := 12, ground := Go.Ground.data }, { on := 10, ground := Go.Ground.guard }], guard := some (10, true) }) (by rfl) (.bool false) (neq_pg HPO.out _ (.tmp 91) (.tmp 92) rfl rfl _ _ rfl _) ?_
            simp only [Act.put, List.setIfInBounds_toArray, List.set_cons_zero, List.set_cons_succ]
            refine wpList_tail (pre := [{ dst := some 94, op := Go.Op.pick (Go.Operand.tmp 90) (Go.Operand.tmp 93) (Go.Operand.const (Go.Value.bool false)), type := 4, pos := "outright.go:84", after := #[{ on := 10, ground := Go.Ground.data }, { on := 13, ground := Go.Ground.data }, { on := 5, ground := Go.Ground.guard }], guard := some (5, false) }, { dst := some 95, op := Go.Op.pick (Go.Operand.tmp 85) (Go.Operand.const (Go.Value.bool true)) (Go.Operand.tmp 94), type := 4, pos := "outright.go:84", after := #[{ on := 5, ground := Go.Ground.data }, { on := 14, ground := Go.Ground.data }], guard := none }, { dst := some 96, op := Go.Op.move (Go.Operand.tmp 95), type := 4, pos := "outright.go:84", after := #[{ on := 15, ground := Go.Ground.data }, { on := 10, ground := Go.Ground.chain }], guard := none }, { dst := some 97, op := Go.Op.fieldAddr 47 (Go.Operand.tmp 11) 1, type := 0, pos := "outright.go:84", after := #[{ on := 16, ground := Go.Ground.guard }], guard := some (16, false) }, { dst := some 98, op := Go.Op.load 4 (Go.Operand.tmp 97), type := 4, pos := "outright.go:84", after := #[{ on := 17, ground := Go.Ground.data }, { on := 16, ground := Go.Ground.guard }], guard := some (16, false) }, { dst := some 99, op := Go.Op.move (Go.Operand.tmp 98), type := 4, pos := "outright.go:84", after := #[{ on := 18, ground := Go.Ground.data }, { on := 16, ground := Go.Ground.chain }, { on := 16, ground := Go.Ground.guard }], guard := some (16, false) }, { dst := some 100, op := Go.Op.fieldAddr 47 (Go.Operand.tmp 12) 1, type := 0, pos := "outright.go:84", after := #[{ on := 19, ground := Go.Ground.guard }], guard := some (19, true) }, { dst := some 101, op := Go.Op.load 4 (Go.Operand.tmp 100), type := 4, pos := "outright.go:84", after := #[{ on := 20, ground := Go.Ground.data }, { on := 19, ground := Go.Ground.guard }], guard := some (19, true) }, { dst := some 102, op := Go.Op.unOp Go.UnOp.not 4 (Go.Operand.tmp 101), type := 4, pos := "outright.go:84", after := #[{ on := 21, ground := Go.Ground.data }, { on := 19, ground := Go.Ground.guard }], guard := some (19, true) }, { dst := some 103, op := Go.Op.pick (Go.Operand.tmp 99) (Go.Operand.tmp 102) (Go.Operand.const (Go.Value.bool false)), type := 4, pos := "outright.go:84", after := #[{ on := 19, ground := Go.Ground.data }, { on := 22, ground := Go.Ground.data }, { on := 16, ground := Go.Ground.guard }], guard := some (16, false) }, { dst := some 104, op := Go.Op.pick (Go.Operand.tmp 96) (Go.Operand.const (Go.Value.bool true)) (Go.Operand.tmp 103), type := 4, pos := "outright.go:84", after := #[{ on := 16, ground := Go.Ground.data }, { on := 23, ground := Go.Ground.data }], guard := none }, { dst := some 105, op := Go.Op.move (Go.Operand.tmp 104), type := 4, pos := "outright.go:84", after := #[{ on := 24, ground := Go.Ground.data }, { on := 19, ground := Go.Ground.chain }], guard := none }, { dst := some 106, op := Go.Op.fieldAddr 47 (Go.Operand.tmp 11) 2, type := 0, pos := "outright.go:84", after := #[{ on := 25, ground := Go.Ground.guard }], guard := some (25, false) }]) _ ?_
            intro tl htl
            have HTL := hide htl
            clear htl
            simp only [List.cons_append, List.nil_append]
            go_wp2_with fail
            have htl := HTL.out
            clear HTL
            subst htl
            refine wpList_load_g (op := { dst := some 107, op := Go.Op.load 45 (Go.Operand.tmp 106), type := 45, pos := "outright.go:84", after := #[{ on := 26, ground := Go.Ground.data }, { on := 25, ground := Go.Ground.guard }], guard := some (25, false) }) (by rfl) 45 (.tmp 106) rfl wr.heap.size (2) rfl q.row _ f1 hu45 rfl hi45.out ?_
            simp only [Act.put, List.setIfInBounds_toArray, List.set_cons_zero, List.set_cons_succ]
            refine wpList_tail (pre := [{ dst := some 108, op := Go.Op.fieldAddr 47 (Go.Operand.tmp 12) 2, type := 0, pos := "outright.go:84", after := #[{ on := 25, ground := Go.Ground.guard }], guard := some (25, false) }]) _ ?_
            intro tl htl
            have HTL := hide htl
            clear htl
            simp only [List.cons_append, List.nil_append]
            go_wp2_with fail
            have htl := HTL.out
            clear HTL
            subst htl
            refine wpList_load_g (op := { dst := some 109, op := Go.Op.load 45 (Go.Operand.tmp 108), type := 45, pos := "outright.go:84", after := #[{ on := 28, ground := Go.Ground.data }, { on := 25, ground := Go.Ground.guard }], guard := some (25, false) }) (by rfl) 45 (.tmp 108) rfl (wr.heap.size + 1) (2) rfl q.row _ f2 hu45 rfl hi45.out ?_
            simp only [Act.put, List.setIfInBounds_toArray, List.set_cons_zero, List.set_cons_succ]
            refine wpList_run_g (op := { dst := some 110, op := Go.Op.binOp Go.BinOp.neq 45 (Go.Operand.tmp 107) (Go.Operand.tmp 109) 45, type := 4, pos := "outright.go:84", after := #[{ on := 27, ground := Go.Ground.data }, { on := 29, ground := Go.Ground.data }, { on := 25, ground := Go.Ground.guard }], guard := some (25, false) }) (by rfl) (.bool false) ((neq_data HPO.out HPO.out _ (.tmp 107) (.tmp 109) rfl rfl _ _ rfl _).trans (by simp)) ?_
            simp only [Act.put, List.setIfInBounds_toArray, List.set_cons_zero, List.set_cons_succ]
            go_wp2
            go_roundw
            case rel => exact ⟨k + 1, by omega, by go_num, HB2.out⟩
            case measure => simp [intOf]; omega
        · --
          as_aux_lemma =>
            refine wp_region_list ?_
            refine wpList_tail (pre := [{ dst := some 80, op := Go.Op.fieldAddr 47 (Go.Operand.tmp 11) 0, type := 0, pos := "outright.go:84", after := #[], guard := none }, { dst := some 81, op := Go.Op.load 3 (Go.Operand.tmp 80), type := 3, pos := "outright.go:84", after := #[{ on := 0, ground := Go.Ground.data }], guard := none }, { dst := some 82, op := Go.Op.fieldAddr 47 (Go.Operand.tmp 12) 0, type := 0, pos := "outright.go:84", after := #[], guard := none }, { dst := some 83, op := Go.Op.load 3 (Go.Operand.tmp 82), type := 3, pos := "outright.go:84", after := #[{ on := 2, ground := Go.Ground.data }], guard := none }, { dst := some 84, op := Go.Op.binOp Go.BinOp.neq 3 (Go.Operand.tmp 81) (Go.Operand.tmp 83) 3, type := 4, pos := "outright.go:84", after := #[{ on := 1, ground := Go.Ground.data }, { on := 3, ground := Go.Ground.data }], guard := none }, { dst := some 85, op := Go.Op.move (Go.Operand.tmp 84), type := 4, pos := "outright.go:84", after := #[{ on := 4, ground := Go.Ground.data }], guard := none }, { dst := some 86, op := Go.Op.fieldAddr 47 (Go.Operand.tmp 11) 0, type := 0, pos := "outright.go:84", after := #[{ on := 5, ground := Go.Ground.guard }], guard := some (5, false) }, { dst := some 87, op := Go.Op.load 3 (Go.Operand.tmp 86), type := 3, pos := "outright.go:84", after := #[{ on := 6, ground := Go.Ground.data }, { on := 5, ground := Go.Ground.guard }], guard := some (5, false) }, { dst := some 88, op := Go.Op.binOp Go.BinOp.and 3 (Go.Operand.tmp 87) (Go.Operand.const (Go.Value.int Go.IntKind.i64 2)) 3, type := 3, pos := "outright.go:84", after := #[{ on := 7, ground := Go.Ground.data }, { on := 5, ground := Go.Ground.guard }], guard := some (5, false) }, { dst := some 89, op := Go.Op.binOp Go.BinOp.eql 3 (Go.Operand.tmp 88) (Go.Operand.const (Go.Value.int Go.IntKind.i64 0)) 3, type := 4, pos := "outright.go:84", after := #[{ on := 8, ground := Go.Ground.data }, { on := 5, ground := Go.Ground.guard }], guard := some (5, false) }, { dst := some 90, op := Go.Op.move (Go.Operand.tmp 89), type := 4, pos := "outright.go:84", after := #[{ on := 9, ground := Go.Ground.data }, { on := 5, ground := Go.Ground.chain }, { on := 5, ground := Go.Ground.guard }], guard := some (5, false) }]) _ ?_
            intro tl htl
            have HTL := hide htl
            clear htl
            simp only [List.cons_append, List.nil_append]
            go_wp2_with fail
            have htl := HTL.out
            clear HTL
            subst htl
            refine wpList_load_g (op := { dst := some 91, op := Go.Op.load 47 (Go.Operand.tmp 11), type := 47, pos := "outright.go:84", after := #[{ on := 10, ground := Go.Ground.guard }], guard := some (10, true) }) (by rfl) 47 (.tmp 11) rfl wr.heap.size (0) rfl q.cells _ e1 hu47 rfl hi.out ?_
            simp only [Act.put, List.setIfInBounds_toArray, List.set_cons_zero, List.set_cons_succ]
            refine wpList_load_g (op := { dst := some 92, op := Go.Op.load 47 (Go.Operand.tmp 12), type := 47, pos := "outright.go:84", after := #[{ on := 10, ground := Go.Ground.guard }], guard := some (10, true) }) (by rfl) 47 (.tmp 12) rfl (wr.heap.size + 1) (0) rfl q.cells _ e2 hu47 rfl hi.out ?_
            simp only [Act.put, List.setIfInBounds_toArray, List.set_cons_zero, List.set_cons_succ]
            refine wpList_run_g (op := { dst := some 93, op := Go.Op.binOp Go.BinOp.neq 47 (Go.Operand.tmp 91) (Go.Operand.tmp 92) 47, type := 4, pos := "outright.go:84", after := #[{ on := 11, ground := Go.Ground.data }, { on := 12, ground := Go.Ground.data }, { on := 10, ground := Go.Ground.guard }], guard := some (10, true) }) (by rfl) (.bool false) (neq_pg HPO.out _ (.tmp 91) (.tmp 92) rfl rfl _ _ rfl _) ?_
            simp only [Act.put, List.setIfInBounds_toArray, List.set_cons_zero, List.set_cons_succ]
            refine wpList_tail (pre := [{ dst := some 94, op := Go.Op.pick (Go.Operand.tmp 90) (Go.Operand.tmp 93) (Go.Operand.const (Go.Value.bool false)), type := 4, pos := "outright.go:84", after := #[{ on := 10, ground := Go.Ground.data }, { on := 13, ground := Go.Ground.data }, { on := 5, ground := Go.Ground.guard }], guard := some (5, false) }, { dst := some 95, op := Go.Op.pick (Go.Operand.tmp 85) (Go.Operand.const (Go.Value.bool true)) (Go.Operand.tmp 94), type := 4, pos := "outright.go:84", after := #[{ on := 5, ground := Go.Ground.data }, { on := 14, ground := Go.Ground.data }], guard := none }, { dst := some 96, op := Go.Op.move (Go.Operand.tmp 95), type := 4, pos := "outright.go:84", after := #[{ on := 15, ground := Go.Ground.data }, { on := 10, ground := Go.Ground.chain }], guard := none }, { dst := some 97, op := Go.Op.fieldAddr 47 (Go.Operand.tmp 11) 1, type := 0, pos := "outright.go:84", after := #[{ on := 16, ground := Go.Ground.guard }], guard := some (16, false) }, { dst := some 98, op := Go.Op.load 4 (Go.Operand.tmp 97), type := 4, pos := "outright.go:84", after := #[{ on := 17, ground := Go.Ground.data }, { on := 16, ground := Go.Ground.guard }], guard := some (16, false) }, { dst := some 99, op := Go.Op.move (Go.Operand.tmp 98), type := 4, pos := "outright.go:84", after := #[{ on := 18, ground := Go.Ground.data }, { on := 16, ground := Go.Ground.chain }, { on := 16, ground := Go.Ground.guard }], guard := some (16, false) }, { dst := some 100, op := Go.Op.fieldAddr 47 (Go.Operand.tmp 12) 1, type := 0, pos := "outright.go:84", after := #[{ on := 19, ground := Go.Ground.guard }], guard := some (19, true) }, { dst := some 101, op := Go.Op.load 4 (Go.Operand.tmp 100), type := 4, pos := "outright.go:84", after := #[{ on := 20, ground := Go.Ground.data }, { on := 19, ground := Go.Ground.guard }], guard := some (19, true) }, { dst := some 102, op := Go.Op.unOp Go.UnOp.not 4 (Go.Operand.tmp 101), type := 4, pos := "outright.go:84", after := #[{ on := 21, ground := Go.Ground.data }, { on := 19, ground := Go.Ground.guard }], guard := some (19, true) }, { dst := some 103, op := Go.Op.pick (Go.Operand.tmp 99) (Go.Operand.tmp 102) (Go.Operand.const (Go.Value.bool false)), type := 4, pos := "outright.go:84", after := #[{ on := 19, ground := Go.Ground.data }, { on := 22, ground := Go.Ground.data }, { on := 16, ground := Go.Ground.guard }], guard := some (16, false) }, { dst := some 104, op := Go.Op.pick (Go.Operand.tmp 96) (Go.Operand.const (Go.Value.bool true)) (Go.Operand.tmp 103), type := 4, pos := "outright.go:84", after := #[{ on := 16, ground := Go.Ground.data }, { on := 23, ground := Go.Ground.data }], guard := none }, { dst := some 105, op := Go.Op.move (Go.Operand.tmp 104), type := 4, pos := "outright.go:84", after := #[{ on := 24, ground := Go.Ground.data }, { on := 19, ground := Go.Ground.chain }], guard := none }, { dst := some 106, op := Go.Op.fieldAddr 47 (Go.Operand.tmp 11) 2, type := 0, pos := "outright.go:84", after := #[{ on := 25, ground := Go.Ground.guard }], guard := some (25, false) }]) _ ?_
            intro tl htl
            have HTL := hide htl
            clear htl
            simp only [List.cons_append, List.nil_append]
            go_wp2_with fail
            have htl := HTL.out
            clear HTL
            subst htl
            refine wpList_load_g (op := { dst := some 107, op := Go.Op.load 45 (Go.Operand.tmp 106), type := 45, pos := "outright.go:84", after := #[{ on := 26, ground := Go.Ground.data }, { on := 25, ground := Go.Ground.guard }], guard := some (25, false) }) (by rfl) 45 (.tmp 106) rfl wr.heap.size (2) rfl q.row _ f1 hu45 rfl hi45.out ?_
            simp only [Act.put, List.setIfInBounds_toArray, List.set_cons_zero, List.set_cons_succ]
            refine wpList_tail (pre := [{ dst := some 108, op := Go.Op.fieldAddr 47 (Go.Operand.tmp 12) 2, type := 0, pos := "outright.go:84", after := #[{ on := 25, ground := Go.Ground.guard }], guard := some (25, false) }]) _ ?_
            intro tl htl
            have HTL := hide htl
            clear htl
            simp only [List.cons_append, List.nil_append]
            go_wp2_with fail
            have htl := HTL.out
            clear HTL
            subst htl
            refine wpList_load_g (op := { dst := some 109, op := Go.Op.load 45 (Go.Operand.tmp 108), type := 45, pos := "outright.go:84", after := #[{ on := 28, ground := Go.Ground.data }, { on := 25, ground := Go.Ground.guard }], guard := some (25, false) }) (by rfl) 45 (.tmp 108) rfl (wr.heap.size + 1) (2) rfl q.row _ f2 hu45 rfl hi45.out ?_
            simp only [Act.put, List.setIfInBounds_toArray, List.set_cons_zero, List.set_cons_succ]
            refine wpList_run_g (op := { dst := some 110, op := Go.Op.binOp Go.BinOp.neq 45 (Go.Operand.tmp 107) (Go.Operand.tmp 109) 45, type := 4, pos := "outright.go:84", after := #[{ on := 27, ground := Go.Ground.data }, { on := 29, ground := Go.Ground.data }, { on := 25, ground := Go.Ground.guard }], guard := some (25, false) }) (by rfl) (.bool false) ((neq_data HPO.out HPO.out _ (.tmp 107) (.tmp 109) rfl rfl _ _ rfl _).trans (by simp)) ?_
            simp only [Act.put, List.setIfInBounds_toArray, List.set_cons_zero, List.set_cons_succ]
            go_wp2
            go_roundw
            case rel => exact ⟨k + 1, by omega, by go_num, HB2.out⟩
            case measure => simp [intOf]; omega
      · rw [hrb] at hand
        have hand' : (bits .and .i64 p.rights 2 == 0) = false := hand
        clear hand hrb
        by_cases hde : q.data = p.data
        · have HDV : Hid ((!decide (p.data = q.data)) = false) := by unfold Hid; simp [hde]
          cases hpd : p.dirty
          · --
            as_aux_lemma =>
              rw [hpd] at c11
              clear hpd hde
              refine wp_region_list ?_
              refine wpList_tail (pre := [{ dst := some 80, op := Go.Op.fieldAddr 47 (Go.Operand.tmp 11) 0, type := 0, pos := "outright.go:84", after := #[], guard := none }, { dst := some 81, op := Go.Op.load 3 (Go.Operand.tmp 80), type := 3, pos := "outright.go:84", after := #[{ on := 0, ground := Go.Ground.data }], guard := none }, { dst := some 82, op := Go.Op.fieldAddr 47 (Go.Operand.tmp 12) 0, type := 0, pos := "outright.go:84", after := #[], guard := none }, { dst := some 83, op := Go.Op.load 3 (Go.Operand.tmp 82), type := 3, pos := "outright.go:84", after := #[{ on := 2, ground := Go.Ground.data }], guard := none }, { dst := some 84, op := Go.Op.binOp Go.BinOp.neq 3 (Go.Operand.tmp 81) (Go.Operand.tmp 83) 3, type := 4, pos := "outright.go:84", after := #[{ on := 1, ground := Go.Ground.data }, { on := 3, ground := Go.Ground.data }], guard := none }, { dst := some 85, op := Go.Op.move (Go.Operand.tmp 84), type := 4, pos := "outright.go:84", after := #[{ on := 4, ground := Go.Ground.data }], guard := none }, { dst := some 86, op := Go.Op.fieldAddr 47 (Go.Operand.tmp 11) 0, type := 0, pos := "outright.go:84", after := #[{ on := 5, ground := Go.Ground.guard }], guard := some (5, false) }, { dst := some 87, op := Go.Op.load 3 (Go.Operand.tmp 86), type := 3, pos := "outright.go:84", after := #[{ on := 6, ground := Go.Ground.data }, { on := 5, ground := Go.Ground.guard }], guard := some (5, false) }, { dst := some 88, op := Go.Op.binOp Go.BinOp.and 3 (Go.Operand.tmp 87) (Go.Operand.const (Go.Value.int Go.IntKind.i64 2)) 3, type := 3, pos := "outright.go:84", after := #[{ on := 7, ground := Go.Ground.data }, { on := 5, ground := Go.Ground.guard }], guard := some (5, false) }, { dst := some 89, op := Go.Op.binOp Go.BinOp.eql 3 (Go.Operand.tmp 88) (Go.Operand.const (Go.Value.int Go.IntKind.i64 0)) 3, type := 4, pos := "outright.go:84", after := #[{ on := 8, ground := Go.Ground.data }, { on := 5, ground := Go.Ground.guard }], guard := some (5, false) }, { dst := some 90, op := Go.Op.move (Go.Operand.tmp 89), type := 4, pos := "outright.go:84", after := #[{ on := 9, ground := Go.Ground.data }, { on := 5, ground := Go.Ground.chain }, { on := 5, ground := Go.Ground.guard }], guard := some (5, false) }, { dst := some 91, op := Go.Op.load 47 (Go.Operand.tmp 11), type := 47, pos := "outright.go:84", after := #[{ on := 10, ground := Go.Ground.guard }], guard := some (10, true) }, { dst := some 92, op := Go.Op.load 47 (Go.Operand.tmp 12), type := 47, pos := "outright.go:84", after := #[{ on := 10, ground := Go.Ground.guard }], guard := some (10, true) }, { dst := some 93, op := Go.Op.binOp Go.BinOp.neq 47 (Go.Operand.tmp 91) (Go.Operand.tmp 92) 47, type := 4, pos := "outright.go:84", after := #[{ on := 11, ground := Go.Ground.data }, { on := 12, ground := Go.Ground.data }, { on := 10, ground := Go.Ground.guard }], guard := some (10, true) }, { dst := some 94, op := Go.Op.pick (Go.Operand.tmp 90) (Go.Operand.tmp 93) (Go.Operand.const (Go.Value.bool false)), type := 4, pos := "outright.go:84", after := #[{ on := 10, ground := Go.Ground.data }, { on := 13, ground := Go.Ground.data }, { on := 5, ground := Go.Ground.guard }], guard := some (5, false) }, { dst := some 95, op := Go.Op.pick (Go.Operand.tmp 85) (Go.Operand.const (Go.Value.bool true)) (Go.Operand.tmp 94), type := 4, pos := "outright.go:84", after := #[{ on := 5, ground := Go.Ground.data }, { on := 14, ground := Go.Ground.data }], guard := none }, { dst := some 96, op := Go.Op.move (Go.Operand.tmp 95), type := 4, pos := "outright.go:84", after := #[{ on := 15, ground := Go.Ground.data }, { on := 10, ground := Go.Ground.chain }], guard := none }, { dst := some 97, op := Go.Op.fieldAddr 47 (Go.Operand.tmp 11) 1, type := 0, pos := "outright.go:84", after := #[{ on := 16, ground := Go.Ground.guard }], guard := some (16, false) }, { dst := some 98, op := Go.Op.load 4 (Go.Operand.tmp 97), type := 4, pos := "outright.go:84", after := #[{ on := 17, ground := Go.Ground.data }, { on := 16, ground := Go.Ground.guard }], guard := some (16, false) }, { dst := some 99, op := Go.Op.move (Go.Operand.tmp 98), type := 4, pos := "outright.go:84", after := #[{ on := 18, ground := Go.Ground.data }, { on := 16, ground := Go.Ground.chain }, { on := 16, ground := Go.Ground.guard }], guard := some (16, false) }, { dst := some 100, op := Go.Op.fieldAddr 47 (Go.Operand.tmp 12) 1, type := 0, pos := "outright.go:84", after := #[{ on := 19, ground := Go.Ground.guard }], guard := some (19, true) }, { dst := some 101, op := Go.Op.load 4 (Go.Operand.tmp 100), type := 4, pos := "outright.go:84", after := #[{ on := 20, ground := Go.Ground.data }, { on := 19, ground := Go.Ground.guard }], guard := some (19, true) }, { dst := some 102, op := Go.Op.unOp Go.UnOp.not 4 (Go.Operand.tmp 101), type := 4, pos := "outright.go:84", after := #[{ on := 21, ground := Go.Ground.data }, { on := 19, ground := Go.Ground.guard }], guard := some (19, true) }, { dst := some 103, op := Go.Op.pick (Go.Operand.tmp 99) (Go.Operand.tmp 102) (Go.Operand.const (Go.Value.bool false)), type := 4, pos := "outright.go:84", after := #[{ on := 19, ground := Go.Ground.data }, { on := 22, ground := Go.Ground.data }, { on := 16, ground := Go.Ground.guard }], guard := some (16, false) }, { dst := some 104, op := Go.Op.pick (Go.Operand.tmp 96) (Go.Operand.const (Go.Value.bool true)) (Go.Operand.tmp 103), type := 4, pos := "outright.go:84", after := #[{ on := 16, ground := Go.Ground.data }, { on := 23, ground := Go.Ground.data }], guard := none }, { dst := some 105, op := Go.Op.move (Go.Operand.tmp 104), type := 4, pos := "outright.go:84", after := #[{ on := 24, ground := Go.Ground.data }, { on := 19, ground := Go.Ground.chain }], guard := none }, { dst := some 106, op := Go.Op.fieldAddr 47 (Go.Operand.tmp 11) 2, type := 0, pos := "outright.go:84", after := #[{ on := 25, ground := Go.Ground.guard }], guard := some (25, false) }]) _ ?_
              intro tl htl
              have HTL := hide htl
              clear htl
              simp only [List.cons_append, List.nil_append]
              go_wp2_with fail
              have htl := HTL.out
              clear HTL
              subst htl
              refine wpList_load_g (op := { dst := some 107, op := Go.Op.load 45 (Go.Operand.tmp 106), type := 45, pos := "outright.go:84", after := #[{ on := 26, ground := Go.Ground.data }, { on := 25, ground := Go.Ground.guard }], guard := some (25, false) }) (by rfl) 45 (.tmp 106) rfl wr.heap.size (2) rfl p.row _ f1 hu45 rfl hi45.out ?_
              simp only [Act.put, List.setIfInBounds_toArray, List.set_cons_zero, List.set_cons_succ]
              refine wpList_tail (pre := [{ dst := some 108, op := Go.Op.fieldAddr 47 (Go.Operand.tmp 12) 2, type := 0, pos := "outright.go:84", after := #[{ on := 25, ground := Go.Ground.guard }], guard := some (25, false) }]) _ ?_
              intro tl htl
              have HTL := hide htl
              clear htl
              simp only [List.cons_append, List.nil_append]
              go_wp2_with fail
              have htl := HTL.out
              clear HTL
              subst htl
              refine wpList_load_g (op := { dst := some 109, op := Go.Op.load 45 (Go.Operand.tmp 108), type := 45, pos := "outright.go:84", after := #[{ on := 28, ground := Go.Ground.data }, { on := 25, ground := Go.Ground.guard }], guard := some (25, false) }) (by rfl) 45 (.tmp 108) rfl (wr.heap.size + 1) (2) rfl q.row _ f2 hu45 rfl hi45q.out ?_
              simp only [Act.put, List.setIfInBounds_toArray, List.set_cons_zero, List.set_cons_succ]
              refine wpList_run_g (op := { dst := some 110, op := Go.Op.binOp Go.BinOp.neq 45 (Go.Operand.tmp 107) (Go.Operand.tmp 109) 45, type := 4, pos := "outright.go:84", after := #[{ on := 27, ground := Go.Ground.data }, { on := 29, ground := Go.Ground.data }, { on := 25, ground := Go.Ground.guard }], guard := some (25, false) }) (by rfl) (.bool false) ((neq_data HPO.out HQO.out _ (.tmp 107) (.tmp 109) rfl rfl _ _ rfl _).trans (by rw [HDV.out])) ?_
              simp only [Act.put, List.setIfInBounds_toArray, List.set_cons_zero, List.set_cons_succ]
              go_wp2
              go_roundw
              case rel => exact ⟨k + 1, by omega, by go_num, HB2.out⟩
              case measure => simp [intOf]; omega
          · --
            as_aux_lemma =>
              have hqd := HKEPT.out.mark hpd
              rw [hpd] at c11
              rw [hqd] at c21
              clear hpd hde hqd
              refine wp_region_list ?_
              refine wpList_tail (pre := [{ dst := some 80, op := Go.Op.fieldAddr 47 (Go.Operand.tmp 11) 0, type := 0, pos := "outright.go:84", after := #[], guard := none }, { dst := some 81, op := Go.Op.load 3 (Go.Operand.tmp 80), type := 3, pos := "outright.go:84", after := #[{ on := 0, ground := Go.Ground.data }], guard := none }, { dst := some 82, op := Go.Op.fieldAddr 47 (Go.Operand.tmp 12) 0, type := 0, pos := "outright.go:84", after := #[], guard := none }, { dst := some 83, op := Go.Op.load 3 (Go.Operand.tmp 82), type := 3, pos := "outright.go:84", after := #[{ on := 2, ground := Go.Ground.data }], guard := none }, { dst := some 84, op := Go.Op.binOp Go.BinOp.neq 3 (Go.Operand.tmp 81) (Go.Operand.tmp 83) 3, type := 4, pos := "outright.go:84", after := #[{ on := 1, ground := Go.Ground.data }, { on := 3, ground := Go.Ground.data }], guard := none }, { dst := some 85, op := Go.Op.move (Go.Operand.tmp 84), type := 4, pos := "outright.go:84", after := #[{ on := 4, ground := Go.Ground.data }], guard := none }, { dst := some 86, op := Go.Op.fieldAddr 47 (Go.Operand.tmp 11) 0, type := 0, pos := "outright.go:84", after := #[{ on := 5, ground := Go.Ground.guard }], guard := some (5, false) }, { dst := some 87, op := Go.Op.load 3 (Go.Operand.tmp 86), type := 3, pos := "outright.go:84", after := #[{ on := 6, ground := Go.Ground.data }, { on := 5, ground := Go.Ground.guard }], guard := some (5, false) }, { dst := some 88, op := Go.Op.binOp Go.BinOp.and 3 (Go.Operand.tmp 87) (Go.Operand.const (Go.Value.int Go.IntKind.i64 2)) 3, type := 3, pos := "outright.go:84", after := #[{ on := 7, ground := Go.Ground.data }, { on := 5, ground := Go.Ground.guard }], guard := some (5, false) }, { dst := some 89, op := Go.Op.binOp Go.BinOp.eql 3 (Go.Operand.tmp 88) (Go.Operand.const (Go.Value.int Go.IntKind.i64 0)) 3, type := 4, pos := "outright.go:84", after := #[{ on := 8, ground := Go.Ground.data }, { on := 5, ground := Go.Ground.guard }], guard := some (5, false) }, { dst := some 90, op := Go.Op.move (Go.Operand.tmp 89), type := 4, pos := "outright.go:84", after := #[{ on := 9, ground := Go.Ground.data }, { on := 5, ground := Go.Ground.chain }, { on := 5, ground := Go.Ground.guard }], guard := some (5, false) }, { dst := some 91, op := Go.Op.load 47 (Go.Operand.tmp 11), type := 47, pos := "outright.go:84", after := #[{ on := 10, ground := Go.Ground.guard }], guard := some (10, true) }, { dst := some 92, op := Go.Op.load 47 (Go.Operand.tmp 12), type := 47, pos := "outright.go:84", after := #[{ on := 10, ground := Go.Ground.guard }], guard := some (10, true) }, { dst := some 93, op := Go.Op.binOp Go.BinOp.neq 47 (Go.Operand.tmp 91) (Go.Operand.tmp 92) 47, type := 4, pos := "outright.go:84", after := #[{ on := 11, ground := Go.Ground.data }, { on := 12, ground := Go.Ground.data }, { on := 10, ground := Go.Ground.guard }], guard := some (10, true) }, { dst := some 94, op := Go.Op.pick (Go.Operand.tmp 90) (Go.Operand.tmp 93) (Go.Operand.const (Go.Value.bool false)), type := 4, pos := "outright.go:84", after := #[{ on := 10, ground := Go.Ground.data }, { on := 13, ground := Go.Ground.data }, { on := 5, ground := Go.Ground.guard }], guard := some (5, false) }, { dst := some 95, op := Go.Op.pick (Go.Operand.tmp 85) (Go.Operand.const (Go.Value.bool true)) (Go.Operand.tmp 94), type := 4, pos := "outright.go:84", after := #[{ on := 5, ground := Go.Ground.data }, { on := 14, ground := Go.Ground.data }], guard := none }, { dst := some 96, op := Go.Op.move (Go.Operand.tmp 95), type := 4, pos := "outright.go:84", after := #[{ on := 15, ground := Go.Ground.data }, { on := 10, ground := Go.Ground.chain }], guard := none }, { dst := some 97, op := Go.Op.fieldAddr 47 (Go.Operand.tmp 11) 1, type := 0, pos := "outright.go:84", after := #[{ on := 16, ground := Go.Ground.guard }], guard := some (16, false) }, { dst := some 98, op := Go.Op.load 4 (Go.Operand.tmp 97), type := 4, pos := "outright.go:84", after := #[{ on := 17, ground := Go.Ground.data }, { on := 16, ground := Go.Ground.guard }], guard := some (16, false) }, { dst := some 99, op := Go.Op.move (Go.Operand.tmp 98), type := 4, pos := "outright.go:84", after := #[{ on := 18, ground := Go.Ground.data }, { on := 16, ground := Go.Ground.chain }, { on := 16, ground := Go.Ground.guard }], guard := some (16, false) }, { dst := some 100, op := Go.Op.fieldAddr 47 (Go.Operand.tmp 12) 1, type := 0, pos := "outright.go:84", after := #[{ on := 19, ground := Go.Ground.guard }], guard := some (19, true) }, { dst := some 101, op := Go.Op.load 4 (Go.Operand.tmp 100), type := 4, pos := "outright.go:84", after := #[{ on := 20, ground := Go.Ground.data }, { on := 19, ground := Go.Ground.guard }], guard := some (19, true) }, { dst := some 102, op := Go.Op.unOp Go.UnOp.not 4 (Go.Operand.tmp 101), type := 4, pos := "outright.go:84", after := #[{ on := 21, ground := Go.Ground.data }, { on := 19, ground := Go.Ground.guard }], guard := some (19, true) }, { dst := some 103, op := Go.Op.pick (Go.Operand.tmp 99) (Go.Operand.tmp 102) (Go.Operand.const (Go.Value.bool false)), type := 4, pos := "outright.go:84", after := #[{ on := 19, ground := Go.Ground.data }, { on := 22, ground := Go.Ground.data }, { on := 16, ground := Go.Ground.guard }], guard := some (16, false) }, { dst := some 104, op := Go.Op.pick (Go.Operand.tmp 96) (Go.Operand.const (Go.Value.bool true)) (Go.Operand.tmp 103), type := 4, pos := "outright.go:84", after := #[{ on := 16, ground := Go.Ground.data }, { on := 23, ground := Go.Ground.data }], guard := none }, { dst := some 105, op := Go.Op.move (Go.Operand.tmp 104), type := 4, pos := "outright.go:84", after := #[{ on := 24, ground := Go.Ground.data }, { on := 19, ground := Go.Ground.chain }], guard := none }, { dst := some 106, op := Go.Op.fieldAddr 47 (Go.Operand.tmp 11) 2, type := 0, pos := "outright.go:84", after := #[{ on := 25, ground := Go.Ground.guard }], guard := some (25, false) }]) _ ?_
              intro tl htl
              have HTL := hide htl
              clear htl
              simp only [List.cons_append, List.nil_append]
              go_wp2_with fail
              have htl := HTL.out
              clear HTL
              subst htl
              refine wpList_load_g (op := { dst := some 107, op := Go.Op.load 45 (Go.Operand.tmp 106), type := 45, pos := "outright.go:84", after := #[{ on := 26, ground := Go.Ground.data }, { on := 25, ground := Go.Ground.guard }], guard := some (25, false) }) (by rfl) 45 (.tmp 106) rfl wr.heap.size (2) rfl p.row _ f1 hu45 rfl hi45.out ?_
              simp only [Act.put, List.setIfInBounds_toArray, List.set_cons_zero, List.set_cons_succ]
              refine wpList_tail (pre := [{ dst := some 108, op := Go.Op.fieldAddr 47 (Go.Operand.tmp 12) 2, type := 0, pos := "outright.go:84", after := #[{ on := 25, ground := Go.Ground.guard }], guard := some (25, false) }]) _ ?_
              intro tl htl
              have HTL := hide htl
              clear htl
              simp only [List.cons_append, List.nil_append]
              go_wp2_with fail
              have htl := HTL.out
              clear HTL
              subst htl
              refine wpList_load_g (op := { dst := some 109, op := Go.Op.load 45 (Go.Operand.tmp 108), type := 45, pos := "outright.go:84", after := #[{ on := 28, ground := Go.Ground.data }, { on := 25, ground := Go.Ground.guard }], guard := some (25, false) }) (by rfl) 45 (.tmp 108) rfl (wr.heap.size + 1) (2) rfl q.row _ f2 hu45 rfl hi45q.out ?_
              simp only [Act.put, List.setIfInBounds_toArray, List.set_cons_zero, List.set_cons_succ]
              refine wpList_run_g (op := { dst := some 110, op := Go.Op.binOp Go.BinOp.neq 45 (Go.Operand.tmp 107) (Go.Operand.tmp 109) 45, type := 4, pos := "outright.go:84", after := #[{ on := 27, ground := Go.Ground.data }, { on := 29, ground := Go.Ground.data }, { on := 25, ground := Go.Ground.guard }], guard := some (25, false) }) (by rfl) (.bool false) ((neq_data HPO.out HQO.out _ (.tmp 107) (.tmp 109) rfl rfl _ _ rfl _).trans (by rw [HDV.out])) ?_
              simp only [Act.put, List.setIfInBounds_toArray, List.set_cons_zero, List.set_cons_succ]
              go_wp2
              go_roundw
              case rel => exact ⟨k + 1, by omega, by go_num, HB2.out⟩
              case measure => simp [intOf]; omega
        · have HDV : Hid ((!decide (p.data = q.data)) = true) := by unfold Hid; simp; exact fun h => hde h.symm
          have hqd := HKEPT.out.seen hde
          rw [hqd] at c21
          obtain ⟨pd, hpd⟩ : ∃ d, p.dirty = d := ⟨_, rfl⟩
          rw [hpd] at c11
          clear hpd hde hqd
          cases pd
          · --
            as_aux_lemma =>
              refine wp_region_list ?_
              refine wpList_tail (pre := [{ dst := some 80, op := Go.Op.fieldAddr 47 (Go.Operand.tmp 11) 0, type := 0, pos := "outright.go:84", after := #[], guard := none }, { dst := some 81, op := Go.Op.load 3 (Go.Operand.tmp 80), type := 3, pos := "outright.go:84", after := #[{ on := 0, ground := Go.Ground.data }], guard := none }, { dst := some 82, op := Go.Op.fieldAddr 47 (Go.Operand.tmp 12) 0, type := 0, pos := "outright.go:84", after := #[], guard := none }, { dst := some 83, op := Go.Op.load 3 (Go.Operand.tmp 82), type := 3, pos := "outright.go:84", after := #[{ on := 2, ground := Go.Ground.data }], guard := none }, { dst := some 84, op := Go.Op.binOp Go.BinOp.neq 3 (Go.Operand.tmp 81) (Go.Operand.tmp 83) 3, type := 4, pos := "outright.go:84", after := #[{ on := 1, ground := Go.Ground.data }, { on := 3, ground := Go.Ground.data }], guard := none }, { dst := some 85, op := Go.Op.move (Go.Operand.tmp 84), type := 4, pos := "outright.go:84", after := #[{ on := 4, ground := Go.Ground.data }], guard := none }, { dst := some 86, op := Go.Op.fieldAddr 47 (Go.Operand.tmp 11) 0, type := 0, pos := "outright.go:84", after := #[{ on := 5, ground := Go.Ground.guard }], guard := some (5, false) }, { dst := some 87, op := Go.Op.load 3 (Go.Operand.tmp 86), type := 3, pos := "outright.go:84", after := #[{ on := 6, ground := Go.Ground.data }, { on := 5, ground := Go.Ground.guard }], guard := some (5, false) }, { dst := some 88, op := Go.Op.binOp Go.BinOp.and 3 (Go.Operand.tmp 87) (Go.Operand.const (Go.Value.int Go.IntKind.i64 2)) 3, type := 3, pos := "outright.go:84", after := #[{ on := 7, ground := Go.Ground.data }, { on := 5, ground := Go.Ground.guard }], guard := some (5, false) }, { dst := some 89, op := Go.Op.binOp Go.BinOp.eql 3 (Go.Operand.tmp 88) (Go.Operand.const (Go.Value.int Go.IntKind.i64 0)) 3, type := 4, pos := "outright.go:84", after := #[{ on := 8, ground := Go.Ground.data }, { on := 5, ground := Go.Ground.guard }], guard := some (5, false) }, { dst := some 90, op := Go.Op.move (Go.Operand.tmp 89), type := 4, pos := "outright.go:84", after := #[{ on := 9, ground := Go.Ground.data }, { on := 5, ground := Go.Ground.chain }, { on := 5, ground := Go.Ground.guard }], guard := some (5, false) }, { dst := some 91, op := Go.Op.load 47 (Go.Operand.tmp 11), type := 47, pos := "outright.go:84", after := #[{ on := 10, ground := Go.Ground.guard }], guard := some (10, true) }, { dst := some 92, op := Go.Op.load 47 (Go.Operand.tmp 12), type := 47, pos := "outright.go:84", after := #[{ on := 10, ground := Go.Ground.guard }], guard := some (10, true) }, { dst := some 93, op := Go.Op.binOp Go.BinOp.neq 47 (Go.Operand.tmp 91) (Go.Operand.tmp 92) 47, type := 4, pos := "outright.go:84", after := #[{ on := 11, ground := Go.Ground.data }, { on := 12, ground := Go.Ground.data }, { on := 10, ground := Go.Ground.guard }], guard := some (10, true) }, { dst := some 94, op := Go.Op.pick (Go.Operand.tmp 90) (Go.Operand.tmp 93) (Go.Operand.const (Go.Value.bool false)), type := 4, pos := "outright.go:84", after := #[{ on := 10, ground := Go.Ground.data }, { on := 13, ground := Go.Ground.data }, { on := 5, ground := Go.Ground.guard }], guard := some (5, false) }, { dst := some 95, op := Go.Op.pick (Go.Operand.tmp 85) (Go.Operand.const (Go.Value.bool true)) (Go.Operand.tmp 94), type := 4, pos := "outright.go:84", after := #[{ on := 5, ground := Go.Ground.data }, { on := 14, ground := Go.Ground.data }], guard := none }, { dst := some 96, op := Go.Op.move (Go.Operand.tmp 95), type := 4, pos := "outright.go:84", after := #[{ on := 15, ground := Go.Ground.data }, { on := 10, ground := Go.Ground.chain }], guard := none }, { dst := some 97, op := Go.Op.fieldAddr 47 (Go.Operand.tmp 11) 1, type := 0, pos := "outright.go:84", after := #[{ on := 16, ground := Go.Ground.guard }], guard := some (16, false) }, { dst := some 98, op := Go.Op.load 4 (Go.Operand.tmp 97), type := 4, pos := "outright.go:84", after := #[{ on := 17, ground := Go.Ground.data }, { on := 16, ground := Go.Ground.guard }], guard := some (16, false) }, { dst := some 99, op := Go.Op.move (Go.Operand.tmp 98), type := 4, pos := "outright.go:84", after := #[{ on := 18, ground := Go.Ground.data }, { on := 16, ground := Go.Ground.chain }, { on := 16, ground := Go.Ground.guard }], guard := some (16, false) }, { dst := some 100, op := Go.Op.fieldAddr 47 (Go.Operand.tmp 12) 1, type := 0, pos := "outright.go:84", after := #[{ on := 19, ground := Go.Ground.guard }], guard := some (19, true) }, { dst := some 101, op := Go.Op.load 4 (Go.Operand.tmp 100), type := 4, pos := "outright.go:84", after := #[{ on := 20, ground := Go.Ground.data }, { on := 19, ground := Go.Ground.guard }], guard := some (19, true) }, { dst := some 102, op := Go.Op.unOp Go.UnOp.not 4 (Go.Operand.tmp 101), type := 4, pos := "outright.go:84", after := #[{ on := 21, ground := Go.Ground.data }, { on := 19, ground := Go.Ground.guard }], guard := some (19, true) }, { dst := some 103, op := Go.Op.pick (Go.Operand.tmp 99) (Go.Operand.tmp 102) (Go.Operand.const (Go.Value.bool false)), type := 4, pos := "outright.go:84", after := #[{ on := 19, ground := Go.Ground.data }, { on := 22, ground := Go.Ground.data }, { on := 16, ground := Go.Ground.guard }], guard := some (16, false) }, { dst := some 104, op := Go.Op.pick (Go.Operand.tmp 96) (Go.Operand.const (Go.Value.bool true)) (Go.Operand.tmp 103), type := 4, pos := "outright.go:84", after := #[{ on := 16, ground := Go.Ground.data }, { on := 23, ground := Go.Ground.data }], guard := none }, { dst := some 105, op := Go.Op.move (Go.Operand.tmp 104), type := 4, pos := "outright.go:84", after := #[{ on := 24, ground := Go.Ground.data }, { on := 19, ground := Go.Ground.chain }], guard := none }, { dst := some 106, op := Go.Op.fieldAddr 47 (Go.Operand.tmp 11) 2, type := 0, pos := "outright.go:84", after := #[{ on := 25, ground := Go.Ground.guard }], guard := some (25, false) }]) _ ?_
              intro tl htl
              have HTL := hide htl
              clear htl
              simp only [List.cons_append, List.nil_append]
              go_wp2_with fail
              have htl := HTL.out
              clear HTL
              subst htl
              refine wpList_load_g (op := { dst := some 107, op := Go.Op.load 45 (Go.Operand.tmp 106), type := 45, pos := "outright.go:84", after := #[{ on := 26, ground := Go.Ground.data }, { on := 25, ground := Go.Ground.guard }], guard := some (25, false) }) (by rfl) 45 (.tmp 106) rfl wr.heap.size (2) rfl p.row _ f1 hu45 rfl hi45.out ?_
              simp only [Act.put, List.setIfInBounds_toArray, List.set_cons_zero, List.set_cons_succ]
              refine wpList_tail (pre := [{ dst := some 108, op := Go.Op.fieldAddr 47 (Go.Operand.tmp 12) 2, type := 0, pos := "outright.go:84", after := #[{ on := 25, ground := Go.Ground.guard }], guard := some (25, false) }]) _ ?_
              intro tl htl
              have HTL := hide htl
              clear htl
              simp only [List.cons_append, List.nil_append]
              go_wp2_with fail
              have htl := HTL.out
              clear HTL
              subst htl
              refine wpList_load_g (op := { dst := some 109, op := Go.Op.load 45 (Go.Operand.tmp 108), type := 45, pos := "outright.go:84", after := #[{ on := 28, ground := Go.Ground.data }, { on := 25, ground := Go.Ground.guard }], guard := some (25, false) }) (by rfl) 45 (.tmp 108) rfl (wr.heap.size + 1) (2) rfl q.row _ f2 hu45 rfl hi45q.out ?_
              simp only [Act.put, List.setIfInBounds_toArray, List.set_cons_zero, List.set_cons_succ]
              refine wpList_run_g (op := { dst := some 110, op := Go.Op.binOp Go.BinOp.neq 45 (Go.Operand.tmp 107) (Go.Operand.tmp 109) 45, type := 4, pos := "outright.go:84", after := #[{ on := 27, ground := Go.Ground.data }, { on := 29, ground := Go.Ground.data }, { on := 25, ground := Go.Ground.guard }], guard := some (25, false) }) (by rfl) (.bool true) ((neq_data HPO.out HQO.out _ (.tmp 107) (.tmp 109) rfl rfl _ _ rfl _).trans (by rw [HDV.out])) ?_
              simp only [Act.put, List.setIfInBounds_toArray, List.set_cons_zero, List.set_cons_succ]
              go_wp2
              go_roundw
              case rel => exact ⟨k + 1, by omega, by go_num, HB2.out⟩
              case measure => simp [intOf]; omega
          · --
            as_aux_lemma =>
              refine wp_region_list ?_
              refine wpList_tail (pre := [{ dst := some 80, op := Go.Op.fieldAddr 47 (Go.Operand.tmp 11) 0, type := 0, pos := "outright.go:84", after := #[], guard := none }, { dst := some 81, op := Go.Op.load 3 (Go.Operand.tmp 80), type := 3, pos := "outright.go:84", after := #[{ on := 0, ground := Go.Ground.data }], guard := none }, { dst := some 82, op := Go.Op.fieldAddr 47 (Go.Operand.tmp 12) 0, type := 0, pos := "outright.go:84", after := #[], guard := none }, { dst := some 83, op := Go.Op.load 3 (Go.Operand.tmp 82), type := 3, pos := "outright.go:84", after := #[{ on := 2, ground := Go.Ground.data }], guard := none }, { dst := some 84, op := Go.Op.binOp Go.BinOp.neq 3 (Go.Operand.tmp 81) (Go.Operand.tmp 83) 3, type := 4, pos := "outright.go:84", after := #[{ on := 1, ground := Go.Ground.data }, { on := 3, ground := Go.Ground.data }], guard := none }, { dst := some 85, op := Go.Op.move (Go.Operand.tmp 84), type := 4, pos := "outright.go:84", after := #[{ on := 4, ground := Go.Ground.data }], guard := none }, { dst := some 86, op := Go.Op.fieldAddr 47 (Go.Operand.tmp 11) 0, type := 0, pos := "outright.go:84", after := #[{ on := 5, ground := Go.Ground.guard }], guard := some (5, false) }, { dst := some 87, op := Go.Op.load 3 (Go.Operand.tmp 86), type := 3, pos := "outright.go:84", after := #[{ on := 6, ground := Go.Ground.data }, { on := 5, ground := Go.Ground.guard }], guard := some (5, false) }, { dst := some 88, op := Go.Op.binOp Go.BinOp.and 3 (Go.Operand.tmp 87) (Go.Operand.const (Go.Value.int Go.IntKind.i64 2)) 3, type := 3, pos := "outright.go:84", after := #[{ on := 7, ground := Go.Ground.data }, { on := 5, ground := Go.Ground.guard }], guard := some (5, false) }, { dst := some 89, op := Go.Op.binOp Go.BinOp.eql 3 (Go.Operand.tmp 88) (Go.Operand.const (Go.Value.int Go.IntKind.i64 0)) 3, type := 4, pos := "outright.go:84", after := #[{ on := 8, ground := Go.Ground.data }, { on := 5, ground := Go.Ground.guard }], guard := some (5, false) }, { dst := some 90, op := Go.Op.move (Go.Operand.tmp 89), type := 4, pos := "outright.go:84", after := #[{ on := 9, ground := Go.Ground.data }, { on := 5, ground := Go.Ground.chain }, { on := 5, ground := Go.Ground.guard }], guard := some (5, false) }, { dst := some 91, op := Go.Op.load 47 (Go.Operand.tmp 11), type := 47, pos := "outright.go:84", after := #[{ on := 10, ground := Go.Ground.guard }], guard := some (10, true) }, { dst := some 92, op := Go.Op.load 47 (Go.Operand.tmp 12), type := 47, pos := "outright.go:84", after := #[{ on := 10, ground := Go.Ground.guard }], guard := some (10, true) }, { dst := some 93, op := Go.Op.binOp Go.BinOp.neq 47 (Go.Operand.tmp 91) (Go.Operand.tmp 92) 47, type := 4, pos := "outright.go:84", after := #[{ on := 11, ground := Go.Ground.data }, { on := 12, ground := Go.Ground.data }, { on := 10, ground := Go.Ground.guard }], guard := some (10, true) }, { dst := some 94, op := Go.Op.pick (Go.Operand.tmp 90) (Go.Operand.tmp 93) (Go.Operand.const (Go.Value.bool false)), type := 4, pos := "outright.go:84", after := #[{ on := 10, ground := Go.Ground.data }, { on := 13, ground := Go.Ground.data }, { on := 5, ground := Go.Ground.guard }], guard := some (5, false) }, { dst := some 95, op := Go.Op.pick (Go.Operand.tmp 85) (Go.Operand.const (Go.Value.bool true)) (Go.Operand.tmp 94), type := 4, pos := "outright.go:84", after := #[{ on := 5, ground := Go.Ground.data }, { on := 14, ground := Go.Ground.data }], guard := none }, { dst := some 96, op := Go.Op.move (Go.Operand.tmp 95), type := 4, pos := "outright.go:84", after := #[{ on := 15, ground := Go.Ground.data }, { on := 10, ground := Go.Ground.chain }], guard := none }, { dst := some 97, op := Go.Op.fieldAddr 47 (Go.Operand.tmp 11) 1, type := 0, pos := "outright.go:84", after := #[{ on := 16, ground := Go.Ground.guard }], guard := some (16, false) }, { dst := some 98, op := Go.Op.load 4 (Go.Operand.tmp 97), type := 4, pos := "outright.go:84", after := #[{ on := 17, ground := Go.Ground.data }, { on := 16, ground := Go.Ground.guard }], guard := some (16, false) }, { dst := some 99, op := Go.Op.move (Go.Operand.tmp 98), type := 4, pos := "outright.go:84", after := #[{ on := 18, ground := Go.Ground.data }, { on := 16, ground := Go.Ground.chain }, { on := 16, ground := Go.Ground.guard }], guard := some (16, false) }, { dst := some 100, op := Go.Op.fieldAddr 47 (Go.Operand.tmp 12) 1, type := 0, pos := "outright.go:84", after := #[{ on := 19, ground := Go.Ground.guard }], guard := some (19, true) }, { dst := some 101, op := Go.Op.load 4 (Go.Operand.tmp 100), type := 4, pos := "outright.go:84", after := #[{ on := 20, ground := Go.Ground.data }, { on := 19, ground := Go.Ground.guard }], guard := some (19, true) }, { dst := some 102, op := Go.Op.unOp Go.UnOp.not 4 (Go.Operand.tmp 101), type := 4, pos := "outright.go:84", after := #[{ on := 21, ground := Go.Ground.data }, { on := 19, ground := Go.Ground.guard }], guard := some (19, true) }, { dst := some 103, op := Go.Op.pick (Go.Operand.tmp 99) (Go.Operand.tmp 102) (Go.Operand.const (Go.Value.bool false)), type := 4, pos := "outright.go:84", after := #[{ on := 19, ground := Go.Ground.data }, { on := 22, ground := Go.Ground.data }, { on := 16, ground := Go.Ground.guard }], guard := some (16, false) }, { dst := some 104, op := Go.Op.pick (Go.Operand.tmp 96) (Go.Operand.const (Go.Value.bool true)) (Go.Operand.tmp 103), type := 4, pos := "outright.go:84", after := #[{ on := 16, ground := Go.Ground.data }, { on := 23, ground := Go.Ground.data }], guard := none }, { dst := some 105, op := Go.Op.move (Go.Operand.tmp 104), type := 4, pos := "outright.go:84", after := #[{ on := 24, ground := Go.Ground.data }, { on := 19, ground := Go.Ground.chain }], guard := none }, { dst := some 106, op := Go.Op.fieldAddr 47 (Go.Operand.tmp 11) 2, type := 0, pos := "outright.go:84", after := #[{ on := 25, ground := Go.Ground.guard }], guard := some (25, false) }]) _ ?_
              intro tl htl
              have HTL := hide htl
              clear htl
              simp only [List.cons_append, List.nil_append]
              go_wp2_with fail
              have htl := HTL.out
              clear HTL
              subst htl
              refine wpList_load_g (op := { dst := some 107, op := Go.Op.load 45 (Go.Operand.tmp 106), type := 45, pos := "outright.go:84", after := #[{ on := 26, ground := Go.Ground.data }, { on := 25, ground := Go.Ground.guard }], guard := some (25, false) }) (by rfl) 45 (.tmp 106) rfl wr.heap.size (2) rfl p.row _ f1 hu45 rfl hi45.out ?_
              simp only [Act.put, List.setIfInBounds_toArray, List.set_cons_zero, List.set_cons_succ]
              refine wpList_tail (pre := [{ dst := some 108, op := Go.Op.fieldAddr 47 (Go.Operand.tmp 12) 2, type := 0, pos := "outright.go:84", after := #[{ on := 25, ground := Go.Ground.guard }], guard := some (25, false) }]) _ ?_
              intro tl htl
              have HTL := hide htl
              clear htl
              simp only [List.cons_append, List.nil_append]
              go_wp2_with fail
              have htl := HTL.out
              clear HTL
              subst htl
              refine wpList_load_g (op := { dst := some 109, op := Go.Op.load 45 (Go.Operand.tmp 108), type := 45, pos := "outright.go:84", after := #[{ on := 28, ground := Go.Ground.data }, { on := 25, ground := Go.Ground.guard }], guard := some (25, false) }) (by rfl) 45 (.tmp 108) rfl (wr.heap.size + 1) (2) rfl q.row _ f2 hu45 rfl hi45q.out ?_
              simp only [Act.put, List.setIfInBounds_toArray, List.set_cons_zero, List.set_cons_succ]
              refine wpList_run_g (op := { dst := some 110, op := Go.Op.binOp Go.BinOp.neq 45 (Go.Operand.tmp 107) (Go.Operand.tmp 109) 45, type := 4, pos := "outright.go:84", after := #[{ on := 27, ground := Go.Ground.data }, { on := 29, ground := Go.Ground.data }, { on := 25, ground := Go.Ground.guard }], guard := some (25, false) }) (by rfl) (.bool true) ((neq_data HPO.out HQO.out _ (.tmp 107) (.tmp 109) rfl rfl _ _ rfl _).trans (by rw [HDV.out])) ?_
              simp only [Act.put, List.setIfInBounds_toArray, List.set_cons_zero, List.set_cons_succ]
              go_wp2
              go_roundw
              case rel => exact ⟨k + 1, by omega, by go_num, HB2.out⟩
              case measure => simp [intOf]; omega
    · --
      as_aux_lemma =>
        have hkl : k = len := by omega
        have hz3 : w3.heap.size + 2 = W4.heap.size := K4A.out.symm
        have s0 := (K2A.out.below (by omega) hb.out)
        have t0 : wr.cell? ⟨w3.heap.size + 1, 0, none⟩ = some (.int .i64 (R1.kind : Int)) := s0.cell 0 _ (by rw [HS1.out]; rfl)
        have q8 := (K1A.out.below (by omega) hb.out)
        have Q8 := hide q8
        have S0 := hide s0
        have HWR := hide (chain D1'.out hb.out)
        have PW := hide (PA.out.below hb.out)
        have HI1 : Hid ((Tryd.prog.info? 26).map (·.size) = some R1.m.proc.length) := by unfold Hid; rw [proc_len OK1.out]; exact infoProc
        clear q8 s0 hkl
        by_cases hk2 : R1.kind = 2
        · have hkd : ((R1.kind : Int) == 2) = true := by rw [hk2]; rfl
          have HRN := hide (HFA.out hk2)
          have r8 : wr.rangeAt w3.heap.size 0 R1.m.proc := bl_range Q8.out
          have HST : Hid (∀ (W : World), Below w.heap.size w W → Pgs W va len ca R1.m.pages → Calls Tryd.prog 14 #[.slice va len ca, .agg R1.m.proc.toArray] W fun e w' => ∃ v, e = .returned (.tuple #[v, .agg R1.m.proc.toArray, .agg (stopL ⟨R1.m, 2, R1.code, 1⟩).toArray]) ∧ POwn w' W.heap.size v R1.m.pages ∧ Below W.heap.size W w') := fun W hW hp => by
            have := core_step_any va len ca R1.m W hp OK1.out A (HV.out.below hW)
            rw [HRN.out] at this
            refine this.mono ?_
            rintro e w' ⟨v, rfl, ho, _, hb⟩
            exact ⟨v, rfl, ho, hb⟩
          have HSS2 : Hid (stl (stopL ⟨R1.m, 2, R1.code, 1⟩)) := stl_stop _
          have HS2 : Hid (stopL ⟨R1.m, 2, R1.code, 1⟩ = [.int .i64 ((2 : Nat) : Int), .int .i64 ((1 : Nat) : Int), .int .i64 R1.code]) := rfl
          generalize hS2 : stopL ⟨R1.m, 2, R1.code, 1⟩ = S2 at *
          clear hS2 HFA HRN hk2
          go_upto_region 16 with fail
          go_wp2_with (first | (refine wpList_load_mid (op := { dst := some 123, op := Go.Op.load 26 (Go.Operand.tmp 8), type := 26, pos := "outright.go:89", after := #[], guard := none }) rfl 26 (.tmp 8) rfl w3.heap.size 0 rfl R1.m.proc _ r8 HU.out rfl HI1.out ?_) | fail)
          refine Calls.mono (HST.out wr HWR.out PW.out) ?_
          rintro e w5 ⟨v2, rfl, hoB, bB⟩
          clear HST t0 r8
          obtain ⟨t1B, t2B, ⟨j1B, j2B, j3B, j4B⟩, k1B, k2B, k3B, k4B⟩ := keepR w5 R1.m S2 OK1.out HSS2.out
          have T1B := hide t1B
          have T2B := hide t2B
          have J1B := hide j1B
          have J2B := hide j2B
          have J3B := hide j3B
          have J4B := hide j4B
          have K1B := hide k1B
          have K2B := hide k2B
          have K3B := hide k3B
          have K4B := hide k4B
          have HOB := hide (hoB.below k3B)
          have HWR' := hide (chain HWR.out (chain bB k3B))
          have HBBB := hide (chain bB k3B)
          clear t1B t2B j1B j2B j3B j4B k1B k2B k3B k4B hoB
          go_upto_region 17 with (first | (refine wpList_store_mid (op := { dst := none, op := Go.Op.store 26 (Go.Operand.tmp 14) (Go.Operand.tmp 126), type := 0, pos := "outright.go:89", after := #[{ on := 7, ground := Go.Ground.data }, { on := 5, ground := Go.Ground.data }, { on := 9, ground := Go.Ground.chain }, { on := 0, ground := Go.Ground.phase }, { on := 1, ground := Go.Ground.phase }, { on := 2, ground := Go.Ground.phase }, { on := 3, ground := Go.Ground.phase }, { on := 4, ground := Go.Ground.phase }, { on := 5, ground := Go.Ground.phase }, { on := 6, ground := Go.Ground.textOnly Go.Departure.lateStores }, { on := 7, ground := Go.Ground.phase }, { on := 8, ground := Go.Ground.phase }, { on := 9, ground := Go.Ground.phase }], guard := none }) rfl 26 (.tmp 14) (.tmp 126) rfl w5.heap.size 0 R1.m.proc.toArray rfl rfl T1B.out J1B.out J3B.out ?_) | (refine wpList_store_mid (op := { dst := none, op := Go.Op.store 32 (Go.Operand.tmp 15) (Go.Operand.tmp 127), type := 0, pos := "outright.go:89", after := #[{ on := 8, ground := Go.Ground.data }, { on := 6, ground := Go.Ground.data }, { on := 10, ground := Go.Ground.chain }, { on := 0, ground := Go.Ground.phase }, { on := 1, ground := Go.Ground.phase }, { on := 2, ground := Go.Ground.phase }, { on := 3, ground := Go.Ground.phase }, { on := 4, ground := Go.Ground.phase }, { on := 5, ground := Go.Ground.phase }, { on := 6, ground := Go.Ground.phase }, { on := 7, ground := Go.Ground.phase }, { on := 8, ground := Go.Ground.phase }, { on := 9, ground := Go.Ground.phase }, { on := 10, ground := Go.Ground.phase }], guard := none }) rfl 32 (.tmp 15) (.tmp 127) rfl (w5.heap.size + 1) 0 S2.toArray rfl rfl T2B.out J2B.out J4B.out ?_) | fail)
          simp only [Act.put]
          generalize (((w5.alloc (.cells #[.int .u32 0, .int .u32 0, .int .u32 0, .int .u32 0, .int .u32 0, .int .u32 0, .int .u32 0, .int .u32 0, .int .u32 0, .int .u32 0, .int .u32 0, .int .u32 0, .int .u32 0, .int .u32 0, .int .u32 0, .int .u32 0, .int .u32 0, .int .i64 0, .int .i64 0, .int .i64 0, .int .i64 0] 26)).alloc (.cells #[.int .i64 0, .int .i64 0, .int .i64 0] 32)).setCells w5.heap.size 0 R1.m.proc).setCells (w5.heap.size + 1) 0 S2 = W6 at *
          have hzr : w3.heap.size + 2 ≤ wr.heap.size := by have := hb.out.size; omega
          have hs6 := S0.out.below (by omega) HBBB.out
          have hq6 := Q8.out.below (by omega) HBBB.out
          have t2 : W6.cell? ⟨w3.heap.size + 1, 2, none⟩ = some (.int .i64 R1.code) := hs6.cell 2 _ (by rw [HS1.out]; rfl)
          have HQ := hide (And.intro (bl_range K2B.out) (And.intro (bl_range K1B.out) (bl_range hq6)))
          have HU32 := hide Tryd.underlying32
          have HI32 : Hid ((Tryd.prog.info? 32).map (·.size) = some S2.length) := by unfold Hid; rw [HSS2.out.1]; exact infoStop
          have HOA6 := hide ((HOA.out.below hb.out).below HBBB.out)
          have HSAME := hide (same_own HOB.out HOA6.out OK1.out.ok OK1.out.most)
          rw [HL1.out] at HSAME
          clear hs6 hq6 hzr
          refine wp_region_list ?_
          refine wpList_load_g (op := { dst := some 128, op := Go.Op.load 32 (Go.Operand.tmp 15), type := 32, pos := "outright.go:90", after := #[], guard := none }) (by rfl) 32 (.tmp 15) rfl (w5.heap.size + 1) (0) rfl S2 _ HQ.out.1 HU32.out rfl HI32.out ?_
          simp only [Act.put, List.setIfInBounds_toArray, List.set_cons_zero, List.set_cons_succ]
          refine wpList_tail (pre := [{ dst := some 129, op := Go.Op.fieldAddr 32 (Go.Operand.tmp 9) 2, type := 0, pos := "outright.go:90", after := #[], guard := none }, { dst := some 130, op := Go.Op.load 3 (Go.Operand.tmp 129), type := 3, pos := "outright.go:90", after := #[{ on := 1, ground := Go.Ground.data }], guard := none }, { dst := some 131, op := Go.Op.build 32 #[(0, Go.Operand.const (Go.Value.int Go.IntKind.i64 2)), (1, Go.Operand.const (Go.Value.int Go.IntKind.i64 1)), (2, Go.Operand.tmp 130)], type := 32, pos := "outright.go:90", after := #[{ on := 2, ground := Go.Ground.data }], guard := none }]) _ ?_
          intro tl htl
          have HTL := hide htl
          clear htl
          simp only [List.cons_append, List.nil_append]
          go_wp2_with fail
          have htl := HTL.out
          clear HTL
          subst htl
          refine wpList_run_g (op := { dst := some 132, op := Go.Op.binOp Go.BinOp.eql 32 (Go.Operand.tmp 128) (Go.Operand.tmp 131) 32, type := 4, pos := "outright.go:90", after := #[{ on := 0, ground := Go.Ground.data }, { on := 3, ground := Go.Ground.data }], guard := none }) (by rfl) (.bool true) (eql_stop HS2.out _ (.tmp 128) (.tmp 131) rfl (by rw [HS2.out]; rfl) _ _ rfl _) ?_
          simp only [Act.put, List.setIfInBounds_toArray, List.set_cons_zero, List.set_cons_succ]
          refine wpList_tail (pre := [{ dst := some 133, op := Go.Op.move (Go.Operand.tmp 132), type := 4, pos := "outright.go:90", after := #[{ on := 4, ground := Go.Ground.data }], guard := none }]) _ ?_
          intro tl htl
          have HTL := hide htl
          clear htl
          simp only [List.cons_append, List.nil_append]
          go_wp2_with fail
          have htl := HTL.out
          clear HTL
          subst htl
          refine wpList_load_g (op := { dst := some 134, op := Go.Op.load 26 (Go.Operand.tmp 14), type := 26, pos := "outright.go:90", after := #[{ on := 5, ground := Go.Ground.guard }], guard := some (5, true) }) (by rfl) 26 (.tmp 14) rfl w5.heap.size (0) rfl R1.m.proc _ HQ.out.2.1 HU.out rfl HI1.out ?_
          simp only [Act.put, List.setIfInBounds_toArray, List.set_cons_zero, List.set_cons_succ]
          refine wpList_load_g (op := { dst := some 135, op := Go.Op.load 26 (Go.Operand.tmp 8), type := 26, pos := "outright.go:90", after := #[{ on := 5, ground := Go.Ground.guard }], guard := some (5, true) }) (by rfl) 26 (.tmp 8) rfl w3.heap.size (0) rfl R1.m.proc _ HQ.out.2.2 HU.out rfl HI1.out ?_
          simp only [Act.put, List.setIfInBounds_toArray, List.set_cons_zero, List.set_cons_succ]
          refine wpList_run_g (op := { dst := some 136, op := Go.Op.binOp Go.BinOp.eql 26 (Go.Operand.tmp 134) (Go.Operand.tmp 135) 26, type := 4, pos := "outright.go:90", after := #[{ on := 6, ground := Go.Ground.data }, { on := 7, ground := Go.Ground.data }, { on := 5, ground := Go.Ground.guard }], guard := some (5, true) }) (by rfl) (.bool true) (eql_proc OK1.out _ (.tmp 134) (.tmp 135) rfl rfl _ _ rfl _) ?_
          simp only [Act.put, List.setIfInBounds_toArray, List.set_cons_zero, List.set_cons_succ]
          go_wp2_with fail
          refine Calls.mono HSAME.out ?_
          rintro e w8 ⟨rfl, b8⟩
          have D8 := hide (chain HWR'.out b8)
          clear b8
          go_wp2
          go_ret
          exact ⟨rfl, D8.out⟩
        · have hkd : ((R1.kind : Int) == 2) = false := by rw [beq_eq_false_iff_ne]; omega
          go_wp2
          go_ret
          exact ⟨rfl, HWR.out⟩
end Go.Proofs.YteopkgjkbhcicaaDoor.coreGuards
