/-
  The law's own fixed fact: three instructions run on the small memory.
  The law's own fixed fact: three instructions run on the small memory.
  Runs in two goes, as plain data.
  What a run leaves as it was, as plain data: rights, pages that may not be written, marks, the process beside its registers; a fault that comes again.
-/
import Derived.Test.YteopkgjkbhcicaaDoorCmEq
import Derived.Test.YteopkgjkbhcicaaDoorCoreMem
namespace Go.Proofs.YteopkgjkbhcicaaDoor
open Go.RowKit FerryCrc FerryAlu
set_option linter.unusedVariables false
set_option linter.unusedSimpArgs false

def mc0 : Mc := ⟨mem 12, [0, 0, 0, 0, 0, 0, 0, 0, 0, 0, 0, 0, 0, 0, 0, 0], 0, 0, 0, 0, 0⟩
theorem mc0_ok : mc0.Ok := ⟨mem_ok (Nat.le_refl _), by decide, rfl, by decide, by decide⟩
theorem mc0_run : (mc0.run 10).kind = 1 ∧ (mc0.run 10).steps = 3 ∧ (mc0.run 10).code = 3 ∧ (mc0.run 10).m.proc = [.int .u32 0, .int .u32 5, .int .u32 0, .int .u32 0, .int .u32 0, .int .u32 0, .int .u32 0, .int .u32 0, .int .u32 0, .int .u32 0, .int .u32 0, .int .u32 0, .int .u32 0, .int .u32 0, .int .u32 0, .int .u32 0, .int .u32 12, .int .i64 0, .int .i64 0, .int .i64 0, .int .i64 0] ∧ (mc0.run 10).m.pages.length = 2 := ⟨by kernel_rfl, by kernel_rfl, by kernel_rfl, by kernel_rfl, by kernel_rfl⟩
theorem mc0_pages : ∃ p q : Pg, (mc0.run 10).m.pages[0]? = some p ∧ (mc0.run 10).m.pages[1]? = some q ∧ p.dirty = false ∧ q.dirty = true ∧ q.data[3]? = some 5 := ⟨_, _, rfl, rfl, by kernel_rfl, by kernel_rfl, by kernel_rfl⟩
theorem mc0_proc : mc0.proc.toArray = #[.int .u32 0, .int .u32 0, .int .u32 0, .int .u32 0, .int .u32 0, .int .u32 0, .int .u32 0, .int .u32 0, .int .u32 0, .int .u32 0, .int .u32 0, .int .u32 0, .int .u32 0, .int .u32 0, .int .u32 0, .int .u32 0, .int .u32 0, .int .i64 0, .int .i64 0, .int .i64 0, .int .i64 0] := rfl
theorem run0 (g : Nat) (w1 : World) (hp : Pgs w1 (some ⟨g, 0, none⟩) 2 2 mc0.pages) (A : Addr) (hv : Cov w1 A) : Calls Tryd.prog 10 #[.slice (some ⟨g, 0, none⟩) 2 2, .agg #[.int .u32 0, .int .u32 0, .int .u32 0, .int .u32 0, .int .u32 0, .int .u32 0, .int .u32 0, .int .u32 0, .int .u32 0, .int .u32 0, .int .u32 0, .int .u32 0, .int .u32 0, .int .u32 0, .int .u32 0, .int .u32 0, .int .u32 0, .int .i64 0, .int .i64 0, .int .i64 0, .int .i64 0], .int .i64 10] w1 fun e w' => ∃ v l, e = .returned (.tuple #[v, .agg #[.int .u32 0, .int .u32 5, .int .u32 0, .int .u32 0, .int .u32 0, .int .u32 0, .int .u32 0, .int .u32 0, .int .u32 0, .int .u32 0, .int .u32 0, .int .u32 0, .int .u32 0, .int .u32 0, .int .u32 0, .int .u32 0, .int .u32 12, .int .i64 0, .int .i64 0, .int .i64 0, .int .i64 0], .agg #[.int .i64 1, .int .i64 3, .int .i64 3]]) ∧ POwn w' w1.heap.size v l ∧ Oks l ∧ l.length = 2 ∧ (∃ p q : Pg, l[0]? = some p ∧ l[1]? = some q ∧ p.dirty = false ∧ q.dirty = true ∧ q.data[3]? = some 5) ∧ Below w1.heap.size w1 w' := by
  have h := run_any (some ⟨g, 0, none⟩) 2 2 mc0 10 w1 hp mc0_ok A hv (by decide) (by decide)
  rw [mc0_proc, show (10 : Int).toNat = 10 from rfl] at h
  obtain ⟨k1, k2, k3, k4, k5⟩ := mc0_run
  have hpg := mc0_pages
  generalize mc0.run 10 = RR at *
  refine h.mono ?_
  rintro e w' ⟨v, rfl, h1, h2, h3⟩
  refine ⟨v, RR.m.pages, ?_, h1, h2.ok, k5, hpg, h3⟩
  unfold stopL
  rw [k1, k2, k3, k4]
  rfl

end Go.Proofs.YteopkgjkbhcicaaDoor
namespace Go.Proofs.YteopkgjkbhcicaaDoor
open Go.RowKit FerryCrc FerryAlu
set_option linter.unusedVariables false
set_option linter.unusedSimpArgs false

theorem one_pr : ∀ u ∈ ([.int .u32 0, .int .u32 5, .int .u32 0, .int .u32 0, .int .u32 0, .int .u32 0, .int .u32 0, .int .u32 0, .int .u32 0, .int .u32 0, .int .u32 0, .int .u32 0, .int .u32 0, .int .u32 0, .int .u32 0, .int .u32 0, .int .u32 12, .int .i64 0, .int .i64 0, .int .i64 0, .int .i64 0] : List Value), u.oneCell' = true := fun u hu => List.all_eq_true.1 (show ([.int .u32 0, .int .u32 5, .int .u32 0, .int .u32 0, .int .u32 0, .int .u32 0, .int .u32 0, .int .u32 0, .int .u32 0, .int .u32 0, .int .u32 0, .int .u32 0, .int .u32 0, .int .u32 0, .int .u32 0, .int .u32 0, .int .u32 12, .int .i64 0, .int .i64 0, .int .i64 0, .int .i64 0] : List Value).all (·.oneCell') = true from rfl) u hu
theorem one_st : ∀ u ∈ ([.int .i64 1, .int .i64 3, .int .i64 3] : List Value), u.oneCell' = true := fun u hu => List.all_eq_true.1 (show ([.int .i64 1, .int .i64 3, .int .i64 3] : List Value).all (·.oneCell') = true from rfl) u hu
theorem run1 (g : Nat) (w1 : World) (hp : Pgs w1 (some ⟨g, 0, none⟩) 2 2 mc0.pages) (A : Addr) (hv : Cov w1 A) : Calls Tryd.prog 10 #[.slice (some ⟨g, 0, none⟩) 2 2, .agg #[.int .u32 0, .int .u32 0, .int .u32 0, .int .u32 0, .int .u32 0, .int .u32 0, .int .u32 0, .int .u32 0, .int .u32 0, .int .u32 0, .int .u32 0, .int .u32 0, .int .u32 0, .int .u32 0, .int .u32 0, .int .u32 0, .int .u32 0, .int .i64 0, .int .i64 0, .int .i64 0, .int .i64 0], .int .i64 10] w1 fun e w' => ∃ (v : Value) (l : List Pg) (PL SL : List Value), e = .returned (.tuple #[v, .agg PL.toArray, .agg SL.toArray]) ∧ (PL = [.int .u32 0, .int .u32 5, .int .u32 0, .int .u32 0, .int .u32 0, .int .u32 0, .int .u32 0, .int .u32 0, .int .u32 0, .int .u32 0, .int .u32 0, .int .u32 0, .int .u32 0, .int .u32 0, .int .u32 0, .int .u32 0, .int .u32 12, .int .i64 0, .int .i64 0, .int .i64 0, .int .i64 0] ∧ SL = [.int .i64 1, .int .i64 3, .int .i64 3]) ∧ POwn w' w1.heap.size v l ∧ Oks l ∧ l.length = 2 ∧ (∃ p q : Pg, l[0]? = some p ∧ l[1]? = some q ∧ p.dirty = false ∧ q.dirty = true ∧ q.data[3]? = some 5) ∧ Below w1.heap.size w1 w' := by
  refine (run0 g w1 hp A hv).mono ?_
  rintro e w' ⟨v, l, rfl, h⟩
  exact ⟨v, l, [.int .u32 0, .int .u32 5, .int .u32 0, .int .u32 0, .int .u32 0, .int .u32 0, .int .u32 0, .int .u32 0, .int .u32 0, .int .u32 0, .int .u32 0, .int .u32 0, .int .u32 0, .int .u32 0, .int .u32 0, .int .u32 0, .int .u32 12, .int .i64 0, .int .i64 0, .int .i64 0, .int .i64 0], [.int .i64 1, .int .i64 3, .int .i64 3], rfl, ⟨rfl, rfl⟩, h⟩

set_option maxRecDepth 100000 in
set_option maxHeartbeats 8000000 in
theorem awake_any (w : World) (A : Addr) (hv : Cov w A) : Calls Tryd.prog 8 #[] w fun e w' => e = .returned (.bool true) ∧ Below w.heap.size w w' := by
  have HV := hide hv
  have HM := hide (memory_any w)
  clear hv
  go_enter Tryd.func8, Tryd.ntmps8
  go_wp2_with fail
  refine Calls.mono HM.out ?_
  rintro e w1 ⟨rfl, ho, hb⟩
  have D1 := hide hb
  have HP : Pgs w1 (some ⟨w.heap.size, 0, none⟩) 2 2 mc0.pages := by
    obtain ⟨a, c, e, hp, _⟩ := ho.pgs (mem_ok (Nat.le_refl _)) (by decide)
    injection e with e1 e2 e3
    subst e1 e3
    exact hp
  have HR := hide (run1 w.heap.size w1 HP A (HV.out.below hb))
  clear HM ho hb HP
  go_wp2_with fail
  refine Calls.mono HR.out ?_
  rintro e w2 ⟨v, l, PL, SL, rfl, hPS, ho, okl, hl2, ⟨p, q, hp0, hq0, hpd, hqd, hqx⟩, hb⟩
  obtain ⟨t1, t2, k1, k2, k3, k4⟩ := keep2 w2 #[.int .u32 0, .int .u32 0, .int .u32 0, .int .u32 0, .int .u32 0, .int .u32 0, .int .u32 0, .int .u32 0, .int .u32 0, .int .u32 0, .int .u32 0, .int .u32 0, .int .u32 0, .int .u32 0, .int .u32 0, .int .u32 0, .int .u32 0, .int .i64 0, .int .i64 0, .int .i64 0, .int .i64 0] #[.int .i64 0, .int .i64 0, .int .i64 0] PL SL 26 32 (by rw [hPS.1]; rfl) (by rw [hPS.2]; rfl)
  have T1 := hide t1
  have T2 := hide t2
  have K1 := hide k1
  have K2 := hide k2
  have K3 := hide k3
  have D2 := hide (chain (chain D1.out hb) k3)
  have HO := hide (ho.below k3)
  have HPS := hide hPS
  have HI1 : Hid ((Tryd.prog.info? 26).map (·.size) = some PL.toArray.size) := by unfold Hid; rw [hPS.1]; exact infoProc
  have HI2 : Hid ((Tryd.prog.info? 32).map (·.size) = some SL.toArray.size) := by unfold Hid; rw [hPS.2]; exact infoStop
  have HN1 : Hid (PL.toArray.all (·.oneCell') = true) := all_oneCell_toArray (by rw [hPS.1]; exact one_pr)
  have HN2 : Hid (SL.toArray.all (·.oneCell') = true) := all_oneCell_toArray (by rw [hPS.2]; exact one_st)
  have TT1 : Hid (((w2.alloc (.cells #[.int .u32 0, .int .u32 0, .int .u32 0, .int .u32 0, .int .u32 0, .int .u32 0, .int .u32 0, .int .u32 0, .int .u32 0, .int .u32 0, .int .u32 0, .int .u32 0, .int .u32 0, .int .u32 0, .int .u32 0, .int .u32 0, .int .u32 0, .int .i64 0, .int .i64 0, .int .i64 0, .int .i64 0] 26)).alloc (.cells #[.int .i64 0, .int .i64 0, .int .i64 0] 32)).there w2.heap.size 0 PL.toArray.size) := t1
  have TT2 : Hid ((((w2.alloc (.cells #[.int .u32 0, .int .u32 0, .int .u32 0, .int .u32 0, .int .u32 0, .int .u32 0, .int .u32 0, .int .u32 0, .int .u32 0, .int .u32 0, .int .u32 0, .int .u32 0, .int .u32 0, .int .u32 0, .int .u32 0, .int .u32 0, .int .u32 0, .int .i64 0, .int .i64 0, .int .i64 0, .int .i64 0] 26)).alloc (.cells #[.int .i64 0, .int .i64 0, .int .i64 0] 32)).setCells w2.heap.size 0 PL).there (w2.heap.size + 1) 0 SL.toArray.size) := t2
  clear hPS
  have HPQ := hide (And.intro okl (And.intro hl2 (And.intro hp0 (And.intro hq0 (And.intro hpd (And.intro hqd hqx))))))
  clear t1 t2 k1 k2 k3 k4 HR hb ho okl hl2 hp0 hq0 hpd hqd hqx
  go_upto_region 2 with (first | (refine wpList_store_mid (op := { dst := none, op := Go.Op.store 26 (Go.Operand.tmp 2) (Go.Operand.tmp 9), type := 0, pos := "law.go:34", after := #[{ on := 7, ground := Go.Ground.data }, { on := 5, ground := Go.Ground.data }, { on := 9, ground := Go.Ground.chain }, { on := 0, ground := Go.Ground.phase }, { on := 1, ground := Go.Ground.phase }, { on := 2, ground := Go.Ground.phase }, { on := 3, ground := Go.Ground.phase }, { on := 4, ground := Go.Ground.phase }, { on := 5, ground := Go.Ground.phase }, { on := 6, ground := Go.Ground.textOnly Go.Departure.lateStores }, { on := 7, ground := Go.Ground.phase }, { on := 8, ground := Go.Ground.phase }, { on := 9, ground := Go.Ground.phase }], guard := none }) rfl 26 (.tmp 2) (.tmp 9) rfl w2.heap.size 0 PL.toArray rfl rfl TT1.out HI1.out HN1.out ?_) | (refine wpList_store_mid (op := { dst := none, op := Go.Op.store 32 (Go.Operand.tmp 3) (Go.Operand.tmp 10), type := 0, pos := "law.go:34", after := #[{ on := 8, ground := Go.Ground.data }, { on := 6, ground := Go.Ground.data }, { on := 10, ground := Go.Ground.chain }, { on := 0, ground := Go.Ground.phase }, { on := 1, ground := Go.Ground.phase }, { on := 2, ground := Go.Ground.phase }, { on := 3, ground := Go.Ground.phase }, { on := 4, ground := Go.Ground.phase }, { on := 5, ground := Go.Ground.phase }, { on := 6, ground := Go.Ground.phase }, { on := 7, ground := Go.Ground.phase }, { on := 8, ground := Go.Ground.phase }, { on := 9, ground := Go.Ground.phase }, { on := 10, ground := Go.Ground.phase }], guard := none }) rfl 32 (.tmp 3) (.tmp 10) rfl (w2.heap.size + 1) 0 SL.toArray rfl rfl TT2.out HI2.out HN2.out ?_) | fail)
  simp only [Act.put]
  generalize (((w2.alloc (.cells #[.int .u32 0, .int .u32 0, .int .u32 0, .int .u32 0, .int .u32 0, .int .u32 0, .int .u32 0, .int .u32 0, .int .u32 0, .int .u32 0, .int .u32 0, .int .u32 0, .int .u32 0, .int .u32 0, .int .u32 0, .int .u32 0, .int .u32 0, .int .i64 0, .int .i64 0, .int .i64 0, .int .i64 0] 26)).alloc (.cells #[.int .i64 0, .int .i64 0, .int .i64 0] 32)).setCells w2.heap.size 0 PL).setCells (w2.heap.size + 1) 0 SL = W5 at *
  obtain ⟨okl, hl2, hp0, hq0, hpd, hqd, hqx⟩ := HPQ.out
  obtain ⟨a1, c1, rfl, _, hform⟩ := HO.out.pgs okl (by omega)
  rcases hform with ⟨_, hnil⟩ | ⟨g, rfl, hg⟩
  · exfalso
    rw [hnil] at hl2
    exact absurd hl2 (by decide)
  rw [hl2] at HO ⊢
  have cellAt : ∀ {k j : Nat} {p : Pg} {u : Value}, l[k]? = some p → j < 66 → p.cells[j]? = some u → W5.cell? ⟨g, k * 66 + j, none⟩ = some u := fun {k j p u} hk hj hu => by
    have hkl : k < 2 := by rw [← hl2]; exact (List.getElem?_eq_some_iff.1 hk).1
    have h1 : W5.ownsRow w1.heap.size 47 66 (.slice (some ⟨g, 0, none⟩) 2 c1) 2 (flat l) := by
      have := HO.out
      unfold POwn at this
      rwa [hl2] at this
    rw [World.ownsRow.cellAt h1 (k * 66 + j) (by omega), flat_get okl j hk hj]
    exact hu
  have m1 : W5.cell? ⟨g, 67, none⟩ = some (.bool true) := cellAt hq0 (j := 1) (by decide) (by rw [← hqd]; rfl)
  have m2 : W5.cell? ⟨g, 1, none⟩ = some (.bool false) := cellAt (k := 0) hp0 (j := 1) (by decide) (by rw [← hpd]; rfl)
  have m3 : W5.cell? ⟨g, 71, none⟩ = some (.int .u8 5) := cellAt hq0 (j := 5) (by decide) (by
    show (q.data.map bv)[3]? = _
    rw [List.getElem?_map, hqx]
    rfl)
  have n1 : W5.cell? ⟨w2.heap.size, 1, none⟩ = some (.int .u32 5) := K1.out.cell 1 _ (by rw [HPS.out.1]; rfl)
  have n2 : W5.cell? ⟨w2.heap.size, 16, none⟩ = some (.int .u32 12) := K1.out.cell 16 _ (by rw [HPS.out.1]; rfl)
  have s0 : W5.cell? ⟨w2.heap.size + 1, 0, none⟩ = some (.int .i64 1) := K2.out.cell 0 _ (by rw [HPS.out.2]; rfl)
  have s1 : W5.cell? ⟨w2.heap.size + 1, 1, none⟩ = some (.int .i64 3) := K2.out.cell 1 _ (by rw [HPS.out.2]; rfl)
  have s2 : W5.cell? ⟨w2.heap.size + 1, 2, none⟩ = some (.int .i64 3) := K2.out.cell 2 _ (by rw [HPS.out.2]; rfl)
  clear cellAt hl2 hp0 hq0 hpd hqd hqx okl hg HPQ K1 K2 K3 T1 T2 TT1 TT2 HI1 HI2 HN1 HN2 HO
  go_wp2
  go_ret
  exact ⟨rfl, D2.out⟩
end Go.Proofs.YteopkgjkbhcicaaDoor
namespace Go.Proofs.YteopkgjkbhcicaaDoor
open Go.RowKit FerryCrc FerryAlu
set_option linter.unusedVariables false
set_option linter.unusedSimpArgs false

def Mc.zero (m : Mc) : Prop := m.regs[0]? = some 0
theorem setR_zero {m : Mc} (h : m.zero) (k v : Nat) : (m.setR k v).zero := by
  unfold Mc.zero Mc.setR at *
  split
  · exact h
  · rename_i hk
    show (m.regs.set k v)[0]? = _
    rw [List.getElem?_set_ne hk]
    exact h
theorem setP_zero {m : Mc} (h : m.zero) (p : Nat) : (m.setP p).zero := h
theorem doI_zero {m : Mc} (h : m.zero) (i : Ins) : (m.doI i).1.zero := by
  unfold Mc.doI
  split
  · split
    · exact setP_zero (setR_zero h _ _) _
    · exact h
  · split
    · split
      · exact h
      · exact h
    · split
      · exact setP_zero h _
      · split
        · exact setP_zero (setR_zero h _ _) _
        · split
          · exact setP_zero h _
          · split
            · exact setP_zero h _
            · cases m.cmp i with
              | some v => exact setP_zero (setR_zero h _ _) _
              | none => exact h
theorem step_zero {m : Mc} (h : m.zero) : m.step.1.zero := by
  unfold Mc.step
  split
  · exact h
  · split
    · exact h
    · split
      · exact doI_zero h _
      · exact doI_zero h _
theorem step_code {m : Mc} (h : m.step.2.1 = 0) : m.step.2.2 = 0 := by
  unfold Mc.step at *
  split at h
  · cases h
  · rename_i h1
    rw [if_neg h1]
    split at h
    · cases h
    · rename_i h2
      rw [if_neg h2]
      split at h
      · cases h
      · rename_i h3
        rw [if_neg h3]
theorem go_zero (k : Nat) {r : Rn} (h : r.m.zero) : (Rn.go k r).m.zero := by
  induction k with
  | zero => exact h
  | succ k ih =>
    rw [Rn.go_succ]
    unfold Rn.next
    split
    · exact step_zero ih
    · exact ih
theorem go_code (k : Nat) {r : Rn} (h0 : r.kind = 0 → r.code = 0) : (Rn.go k r).kind = 0 → (Rn.go k r).code = 0 := by
  induction k with
  | zero => exact h0
  | succ k ih =>
    rw [Rn.go_succ]
    unfold Rn.next
    split
    · intro h
      exact step_code h
    · exact ih
theorem from0_zero {m : Mc} (h : m.Ok) : m.from0.zero := by
  unfold Mc.zero Mc.from0
  rw [List.getElem?_set_self (by rw [h.size]; decide)]
theorem from0_same {m : Mc} (h : m.zero) : m.from0 = m := by
  obtain ⟨l, regs, pc, st, pr, wa, ob⟩ := m
  unfold Mc.zero at h
  unfold Mc.from0
  simp only at h ⊢
  cases regs with
  | nil => simp at h
  | cons x xs =>
    simp at h
    subst h
    rfl
/-- A run that came to its end goes no further. -/
theorem run_ended {m : Mc} {a : Nat} (b : Nat) (h : (m.run a).kind ≠ 0) : m.run (a + b) = m.run a := by
  unfold Mc.run at *
  rw [Rn.go_add, Rn.go_still h]
/-- A run of a + b steps is one of a, and one of b behind it. -/
theorem run_split {m : Mc} (ok : m.Ok) {a : Nat} (b : Nat) (h : (m.run a).kind = 0) : (m.run a).steps = a ∧ m.run (a + b) = ⟨((m.run a).m.run b).m, ((m.run a).m.run b).kind, ((m.run a).m.run b).code, ((m.run a).m.run b).steps + a⟩ := by
  have hs : (m.run a).steps = a := by
    have := Rn.go_steps a ⟨m.from0, 0, 0, 0⟩ h
    rw [Nat.zero_add] at this
    exact this
  have hz : (m.run a).m.zero := go_zero a (from0_zero ok)
  have hc : (m.run a).code = 0 := go_code a (r := ⟨m.from0, 0, 0, 0⟩) (fun _ => rfl) h
  refine ⟨hs, ?_⟩
  have e1 : m.run (a + b) = Rn.go b (m.run a) := by unfold Mc.run; rw [Rn.go_add]
  have e2 : m.run a = ⟨(m.run a).m, 0, 0, 0 + a⟩ := by
    cases hR : m.run a with
    | mk rm rk rc rs =>
      rw [hR] at h hs hc
      simp only at h hs hc
      rw [h, hs, hc, Nat.zero_add]
  rw [e1]
  conv => lhs; rw [e2]
  rw [Rn.go_shift]
  unfold Mc.run
  rw [from0_same (m := (Rn.go a ⟨m.from0, 0, 0, 0⟩).m) hz]
end Go.Proofs.YteopkgjkbhcicaaDoor
namespace Go.Proofs.YteopkgjkbhcicaaDoor
open Go.RowKit FerryCrc FerryAlu
set_option linter.unusedVariables false
set_option linter.unusedSimpArgs false

/-- What a page may become under a run. -/
structure Kept (p q : Pg) : Prop where
  rights : q.rights = p.rights
  still : rbit p.rights 1 = false → q = p
  mark : p.dirty = true → q.dirty = true
  seen : q.data ≠ p.data → q.dirty = true
theorem Kept.refl (p : Pg) : Kept p p := ⟨rfl, fun _ => rfl, id, fun h => absurd rfl h⟩
theorem Kept.trans {p q r : Pg} (h : Kept p q) (h' : Kept q r) : Kept p r :=
  ⟨h'.rights.trans h.rights, fun e => by rw [h'.still (by rw [h.rights]; exact e), h.still e], fun e => h'.mark (h.mark e), fun e => by
    by_cases hq : q.data = p.data
    · exact h'.seen (by rw [hq]; exact e)
    · exact h'.mark (h.seen hq)⟩
structure KeptL (l l' : List Pg) : Prop where
  size : l'.length = l.length
  at' : ∀ (k : Nat) (p q : Pg), l[k]? = some p → l'[k]? = some q → Kept p q
theorem KeptL.refl (l : List Pg) : KeptL l l := ⟨rfl, fun k p q h h' => by rw [h] at h'; cases h'; exact Kept.refl p⟩
theorem KeptL.trans {l l' l'' : List Pg} (h : KeptL l l') (h' : KeptL l' l'') : KeptL l l'' :=
  ⟨h'.size.trans h.size, fun k p r hp hr => by
    obtain ⟨q, hq⟩ : ∃ q, l'[k]? = some q := ⟨_, List.getElem?_eq_getElem (by
      have := (List.getElem?_eq_some_iff.1 hp).1
      rw [h.size]
      exact this)⟩
    exact (h.at' k p q hp hq).trans (h'.at' k q r hq hr)⟩
theorem patch_none {d : List Nat} {P : Nat → Bool} {B : Nat → Nat} (hP : ∀ x, x < d.length → P x = false) : patch d P B = d := by
  refine List.ext_getElem? fun x => ?_
  rw [patch_get]
  by_cases hx : x < d.length
  · rw [hP x hx, List.getElem?_eq_getElem hx]; rfl
  · rw [List.getElem?_eq_none (by omega)]; rfl
theorem stored_kept {l : List Pg} (ok : Oks l) {n s : Nat} (v : Nat) (hs : Sized s) (h : nfault l n s 1 = 0) : KeptL l (stored l n s v) := by
  refine ⟨stored_len l n s v, fun k p q hp hq => ?_⟩
  unfold stored at hq
  rw [upd_get, hp] at hq
  obtain rfl := Option.some.inj hq
  have hd : p.data.length = 64 := (ok p (List.mem_of_getElem? hp)).size
  have h0 : n % s = 0 := by
    unfold nfault at h
    split at h
    · assumption
    · cases h
  have hb : bfault l n 1 = 0 := by
    unfold nfault at h
    rw [if_pos h0] at h
    exact h
  by_cases hk : k = n / 64
  · subst hk
    have hr : rbit p.rights 1 = true := by
      unfold bfault at hb
      rw [hp] at hb
      simp only at hb
      split at hb
      · assumption
      · cases hb
    refine ⟨rfl, fun e => ?_, fun e => ?_, fun e => ?_⟩
    · rw [hr] at e; cases e
    · show (p.dirty || isQ (n / 64) (n / 64)) = true
      rw [e]; rfl
    · show (p.dirty || isQ (n / 64) (n / 64)) = true
      simp [isQ]
  · have e : p.upd (fun x => inR n s (64 * k + x)) (fun x => byt v s n (64 * k + x)) (isQ (n / 64) k) = p := by
      refine pg_ext rfl ?_ ?_
      · show (p.dirty || isQ (n / 64) k) = p.dirty
        have : isQ (n / 64) k = false := by unfold isQ; exact beq_eq_false_iff_ne.2 hk
        rw [this, Bool.or_false]
      · refine patch_none fun x hx => ?_
        rw [hd] at hx
        unfold inR
        refine decide_eq_false fun hin => ?_
        obtain ⟨i1, i2⟩ := hin
        rcases hs with rfl | rfl | rfl <;> omega
    exact (congrArg (Kept p) e).mpr (Kept.refl p)
/-- What a run leaves of a process. -/
structure Held (m m' : Mc) : Prop where
  pages : KeptL m.pages m'.pages
  st : m'.st = m.st
  prio : m'.prio = m.prio
  wait : m'.wait = m.wait
  obj : m'.obj = m.obj
theorem Held.refl (m : Mc) : Held m m := ⟨KeptL.refl _, rfl, rfl, rfl, rfl⟩
theorem Held.trans {m m' m'' : Mc} (h : Held m m') (h' : Held m' m'') : Held m m'' := ⟨h.pages.trans h'.pages, h'.st.trans h.st, h'.prio.trans h.prio, h'.wait.trans h.wait, h'.obj.trans h.obj⟩
theorem setR_held (m : Mc) (k v : Nat) : Held m (m.setR k v) := by
  unfold Mc.setR
  split
  · exact Held.refl m
  · exact ⟨KeptL.refl _, rfl, rfl, rfl, rfl⟩
theorem setP_held (m : Mc) (p : Nat) : Held m (m.setP p) := ⟨KeptL.refl _, rfl, rfl, rfl, rfl⟩
theorem doI_held {m : Mc} (ok : Oks m.pages) (i : Ins) : Held m (m.doI i).1 := by
  unfold Mc.doI
  split
  · split
    · exact (setR_held m _ _).trans (setP_held _ _)
    · exact Held.refl m
  · split
    · split
      · rename_i hn
        refine ⟨?_, rfl, rfl, rfl, rfl⟩
        show KeptL m.pages (pkv m.pages _ _ _)
        unfold pkv
        rw [if_pos hn]
        exact stored_kept ok _ (szI_sized _) hn
      · exact Held.refl m
    · split
      · exact setP_held m _
      · split
        · exact (setR_held m _ _).trans (setP_held _ _)
        · split
          · exact setP_held m _
          · split
            · exact setP_held m _
            · cases m.cmp i with
              | some v => exact (setR_held m _ _).trans (setP_held _ _)
              | none => exact Held.refl m
theorem step_held {m : Mc} (ok : Oks m.pages) : Held m m.step.1 := by
  unfold Mc.step
  split
  · exact Held.refl m
  · split
    · exact Held.refl m
    · split
      · exact doI_held ok _
      · exact doI_held ok _
theorem step_fault {m : Mc} (h : m.step.2.1 = 2) : m.step.1 = m := by
  unfold Mc.step at *
  split at h
  · rename_i h1
    rw [if_pos h1]
  · rename_i h1
    rw [if_neg h1]
    split at h
    · rename_i h2
      rw [if_pos h2]
    · split at h
      · cases h
      · cases h
/-- A run that ended at a fault: a step more is the same fault. -/
def Faulted (r : Rn) : Prop := r.kind = 2 → r.m.step = (r.m, 2, r.code)
theorem next_faulted {r : Rn} (h : Faulted r) : Faulted r.next := by
  unfold Rn.next
  split
  · intro hk
    have hk' : r.m.step.2.1 = 2 := hk
    have e := step_fault hk'
    show r.m.step.1.step = (r.m.step.1, 2, r.m.step.2.2)
    rw [e]
    exact Prod.ext e (Prod.ext hk' rfl)
  · exact h
theorem go_faulted (n : Nat) {r : Rn} (h : Faulted r) : Faulted (Rn.go n r) := by
  induction n generalizing r with
  | zero => exact h
  | succ n ih => exact ih (next_faulted h)
theorem run_faulted (m : Mc) (n : Nat) : Faulted (m.run n) := go_faulted n (fun h => by cases h)
theorem setR_pages (m : Mc) (k v : Nat) : (m.setR k v).pages = m.pages := by unfold Mc.setR; split <;> rfl
theorem doI_oks {m : Mc} (ok : Oks m.pages) (i : Ins) : Oks (m.doI i).1.pages := by
  unfold Mc.doI
  split
  · split
    · show Oks (m.setR _ _).pages
      rw [setR_pages]; exact ok
    · exact ok
  · split
    · split
      · rename_i hn
        show Oks (pkv m.pages _ _ _)
        unfold pkv
        rw [if_pos hn]
        exact stored_ok ok _ _ _
      · exact ok
    · split
      · exact ok
      · split
        · show Oks (m.setR _ _).pages
          rw [setR_pages]; exact ok
        · split
          · exact ok
          · split
            · exact ok
            · cases m.cmp i with
              | some v =>
                show Oks (m.setR _ _).pages
                rw [setR_pages]; exact ok
              | none => exact ok
theorem step_oks {m : Mc} (ok : Oks m.pages) : Oks m.step.1.pages := by
  unfold Mc.step
  split
  · exact ok
  · split
    · exact ok
    · split
      · exact doI_oks ok _
      · exact doI_oks ok _
theorem go_held (n : Nat) (r : Rn) (ok : Oks r.m.pages) : Held r.m (Rn.go n r).m := by
  induction n generalizing r with
  | zero => exact Held.refl _
  | succ n ih =>
    show Held r.m (Rn.go n r.next).m
    have h1 : Held r.m r.next.m ∧ Oks r.next.m.pages := by
      unfold Rn.next
      split
      · exact ⟨step_held ok, step_oks ok⟩
      · exact ⟨Held.refl _, ok⟩
    exact h1.1.trans (ih r.next h1.2)
theorem run_held {m : Mc} (ok : m.Ok) (n : Nat) : Held m (m.run n).m := by
  have h0 : Held m m.from0 := ⟨KeptL.refl _, rfl, rfl, rfl, rfl⟩
  exact h0.trans (go_held n ⟨m.from0, 0, 0, 0⟩ ok.ok)
theorem run_zero {m : Mc} (ok : m.Ok) (n : Nat) : (m.run n).m.zero := go_zero n (from0_zero ok)
/-- One step more behind a run that ended at a fault is that fault. -/
theorem fault_again {m : Mc} (ok : m.Ok) (n : Nat) (h : (m.run n).kind = 2) : (m.run n).m.run 1 = ⟨(m.run n).m, 2, (m.run n).code, 1⟩ := by
  have hz := from0_same (run_zero ok n)
  have hf := run_faulted m n h
  show (Rn.next ⟨(m.run n).m.from0, 0, 0, 0⟩) = _
  rw [hz]
  unfold Rn.next
  rw [if_pos rfl]
  simp only [hf]
end Go.Proofs.YteopkgjkbhcicaaDoor
