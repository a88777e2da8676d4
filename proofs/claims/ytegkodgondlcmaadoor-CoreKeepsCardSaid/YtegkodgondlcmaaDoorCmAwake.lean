/-
  The law's own fixed fact: three instructions run on the small memory.
  The law's own fixed fact: three instructions run on the small memory.
-/
import Derived.Test.YtegkodgondlcmaaDoorCmEq
import Derived.Test.YtegkodgondlcmaaDoorCoreMem
namespace Go.Proofs.YtegkodgondlcmaaDoor
open Go.RowKit FerryCrc FerryAlu
set_option linter.unusedVariables false
set_option linter.unusedSimpArgs false

def mc0 : Mc := ⟨mem 12, [0, 0, 0, 0, 0, 0, 0, 0, 0, 0, 0, 0, 0, 0, 0, 0], 0, 0, 0, 0, 0⟩
theorem mc0_ok : mc0.Ok := ⟨mem_ok (Nat.le_refl _), by decide, rfl, by decide, by decide⟩
theorem mc0_run : (mc0.run 10).kind = 1 ∧ (mc0.run 10).steps = 3 ∧ (mc0.run 10).code = 3 ∧ (mc0.run 10).m.proc = [.int .u32 0, .int .u32 5, .int .u32 0, .int .u32 0, .int .u32 0, .int .u32 0, .int .u32 0, .int .u32 0, .int .u32 0, .int .u32 0, .int .u32 0, .int .u32 0, .int .u32 0, .int .u32 0, .int .u32 0, .int .u32 0, .int .u32 12, .int .i64 0, .int .i64 0, .int .i64 0, .int .i64 0] ∧ (mc0.run 10).m.pages.length = 2 := ⟨by kernel_rfl, by kernel_rfl, by kernel_rfl, by kernel_rfl, by kernel_rfl⟩
theorem mc0_pages : ∃ p q : Pg, (mc0.run 10).m.pages[0]? = some p ∧ (mc0.run 10).m.pages[1]? = some q ∧ p.dirty = false ∧ q.dirty = true ∧ q.data[3]? = some 5 := ⟨_, _, rfl, rfl, by kernel_rfl, by kernel_rfl, by kernel_rfl⟩
theorem mc0_proc : mc0.proc.toArray = #[.int .u32 0, .int .u32 0, .int .u32 0, .int .u32 0, .int .u32 0, .int .u32 0, .int .u32 0, .int .u32 0, .int .u32 0, .int .u32 0, .int .u32 0, .int .u32 0, .int .u32 0, .int .u32 0, .int .u32 0, .int .u32 0, .int .u32 0, .int .i64 0, .int .i64 0, .int .i64 0, .int .i64 0] := rfl
theorem run0 (g : Nat) (w1 : World) (hp : Pgs w1 (some ⟨g, 0, none⟩) 2 2 mc0.pages) (A : Addr) (hv : Cov w1 A) : Calls Tryd.prog 13 #[.slice (some ⟨g, 0, none⟩) 2 2, .agg #[.int .u32 0, .int .u32 0, .int .u32 0, .int .u32 0, .int .u32 0, .int .u32 0, .int .u32 0, .int .u32 0, .int .u32 0, .int .u32 0, .int .u32 0, .int .u32 0, .int .u32 0, .int .u32 0, .int .u32 0, .int .u32 0, .int .u32 0, .int .i64 0, .int .i64 0, .int .i64 0, .int .i64 0], .int .i64 10] w1 fun e w' => ∃ v l, e = .returned (.tuple #[v, .agg #[.int .u32 0, .int .u32 5, .int .u32 0, .int .u32 0, .int .u32 0, .int .u32 0, .int .u32 0, .int .u32 0, .int .u32 0, .int .u32 0, .int .u32 0, .int .u32 0, .int .u32 0, .int .u32 0, .int .u32 0, .int .u32 0, .int .u32 12, .int .i64 0, .int .i64 0, .int .i64 0, .int .i64 0], .agg #[.int .i64 1, .int .i64 3, .int .i64 3]]) ∧ POwn w' w1.heap.size v l ∧ Oks l ∧ l.length = 2 ∧ (∃ p q : Pg, l[0]? = some p ∧ l[1]? = some q ∧ p.dirty = false ∧ q.dirty = true ∧ q.data[3]? = some 5) ∧ Below w1.heap.size w1 w' := by
  have h := run_any (some ⟨g, 0, none⟩) 2 2 mc0 10 w1 hp mc0_ok A hv (by decide) (by decide)
  rw [mc0_proc, show (10 : Int).toNat = 10 from rfl] at h
  obtain ⟨k1, k2, k3, k4, k5⟩ := mc0_run
  have hpg := mc0_pages
  generalize mc0.run 10 = RR at *
  refine h.mono ?_
  rintro e w' ⟨v, rfl, h1, h2, h3⟩
  refine ⟨v, RR.m.pages, ?_, h1, h2.ok, k5, hpg, h3⟩
  unfold stopL
  rw [k1, k2, k3, k4]
  rfl

end Go.Proofs.YtegkodgondlcmaaDoor
namespace Go.Proofs.YtegkodgondlcmaaDoor
open Go.RowKit FerryCrc FerryAlu
set_option linter.unusedVariables false
set_option linter.unusedSimpArgs false

theorem one_pr : ∀ u ∈ ([.int .u32 0, .int .u32 5, .int .u32 0, .int .u32 0, .int .u32 0, .int .u32 0, .int .u32 0, .int .u32 0, .int .u32 0, .int .u32 0, .int .u32 0, .int .u32 0, .int .u32 0, .int .u32 0, .int .u32 0, .int .u32 0, .int .u32 12, .int .i64 0, .int .i64 0, .int .i64 0, .int .i64 0] : List Value), u.oneCell' = true := fun u hu => List.all_eq_true.1 (show ([.int .u32 0, .int .u32 5, .int .u32 0, .int .u32 0, .int .u32 0, .int .u32 0, .int .u32 0, .int .u32 0, .int .u32 0, .int .u32 0, .int .u32 0, .int .u32 0, .int .u32 0, .int .u32 0, .int .u32 0, .int .u32 0, .int .u32 12, .int .i64 0, .int .i64 0, .int .i64 0, .int .i64 0] : List Value).all (·.oneCell') = true from rfl) u hu
theorem one_st : ∀ u ∈ ([.int .i64 1, .int .i64 3, .int .i64 3] : List Value), u.oneCell' = true := fun u hu => List.all_eq_true.1 (show ([.int .i64 1, .int .i64 3, .int .i64 3] : List Value).all (·.oneCell') = true from rfl) u hu
theorem run1 (g : Nat) (w1 : World) (hp : Pgs w1 (some ⟨g, 0, none⟩) 2 2 mc0.pages) (A : Addr) (hv : Cov w1 A) : Calls Tryd.prog 13 #[.slice (some ⟨g, 0, none⟩) 2 2, .agg #[.int .u32 0, .int .u32 0, .int .u32 0, .int .u32 0, .int .u32 0, .int .u32 0, .int .u32 0, .int .u32 0, .int .u32 0, .int .u32 0, .int .u32 0, .int .u32 0, .int .u32 0, .int .u32 0, .int .u32 0, .int .u32 0, .int .u32 0, .int .i64 0, .int .i64 0, .int .i64 0, .int .i64 0], .int .i64 10] w1 fun e w' => ∃ (v : Value) (l : List Pg) (PL SL : List Value), e = .returned (.tuple #[v, .agg PL.toArray, .agg SL.toArray]) ∧ (PL = [.int .u32 0, .int .u32 5, .int .u32 0, .int .u32 0, .int .u32 0, .int .u32 0, .int .u32 0, .int .u32 0, .int .u32 0, .int .u32 0, .int .u32 0, .int .u32 0, .int .u32 0, .int .u32 0, .int .u32 0, .int .u32 0, .int .u32 12, .int .i64 0, .int .i64 0, .int .i64 0, .int .i64 0] ∧ SL = [.int .i64 1, .int .i64 3, .int .i64 3]) ∧ POwn w' w1.heap.size v l ∧ Oks l ∧ l.length = 2 ∧ (∃ p q : Pg, l[0]? = some p ∧ l[1]? = some q ∧ p.dirty = false ∧ q.dirty = true ∧ q.data[3]? = some 5) ∧ Below w1.heap.size w1 w' := by
  refine (run0 g w1 hp A hv).mono ?_
  rintro e w' ⟨v, l, rfl, h⟩
  exact ⟨v, l, [.int .u32 0, .int .u32 5, .int .u32 0, .int .u32 0, .int .u32 0, .int .u32 0, .int .u32 0, .int .u32 0, .int .u32 0, .int .u32 0, .int .u32 0, .int .u32 0, .int .u32 0, .int .u32 0, .int .u32 0, .int .u32 0, .int .u32 12, .int .i64 0, .int .i64 0, .int .i64 0, .int .i64 0], [.int .i64 1, .int .i64 3, .int .i64 3], rfl, ⟨rfl, rfl⟩, h⟩

set_option maxRecDepth 100000 in
set_option maxHeartbeats 8000000 in
theorem awake_any (w : World) (A : Addr) (hv : Cov w A) : Calls Tryd.prog 5 #[] w fun e w' => e = .returned (.bool true) ∧ Below w.heap.size w w' := by
  have HV := hide hv
  have HM := hide (memory_any w)
  clear hv
  go_enter Tryd.func5, Tryd.ntmps5
  go_wp2_with fail
  refine Calls.mono HM.out ?_
  rintro e w1 ⟨rfl, ho, hb⟩
  have D1 := hide hb
  have HP : Pgs w1 (some ⟨w.heap.size, 0, none⟩) 2 2 mc0.pages := by
    obtain ⟨a, c, e, hp, _⟩ := ho.pgs (mem_ok (Nat.le_refl _)) (by decide)
    injection e with e1 e2 e3
    subst e1 e3
    exact hp
  have HR := hide (run1 w.heap.size w1 HP A (HV.out.below hb))
  clear HM ho hb HP
  go_wp2_with fail
  refine Calls.mono HR.out ?_
  rintro e w2 ⟨v, l, PL, SL, rfl, hPS, ho, okl, hl2, ⟨p, q, hp0, hq0, hpd, hqd, hqx⟩, hb⟩
  obtain ⟨t1, t2, k1, k2, k3, k4⟩ := keep2 w2 #[.int .u32 0, .int .u32 0, .int .u32 0, .int .u32 0, .int .u32 0, .int .u32 0, .int .u32 0, .int .u32 0, .int .u32 0, .int .u32 0, .int .u32 0, .int .u32 0, .int .u32 0, .int .u32 0, .int .u32 0, .int .u32 0, .int .u32 0, .int .i64 0, .int .i64 0, .int .i64 0, .int .i64 0] #[.int .i64 0, .int .i64 0, .int .i64 0] PL SL 26 29 (by rw [hPS.1]; rfl) (by rw [hPS.2]; rfl)
  have T1 := hide t1
  have T2 := hide t2
  have K1 := hide k1
  have K2 := hide k2
  have K3 := hide k3
  have D2 := hide (chain (chain D1.out hb) k3)
  have HO := hide (ho.below k3)
  have HPS := hide hPS
  have HI1 : Hid ((Tryd.prog.info? 26).map (·.size) = some PL.toArray.size) := by unfold Hid; rw [hPS.1]; exact infoProc
  have HI2 : Hid ((Tryd.prog.info? 29).map (·.size) = some SL.toArray.size) := by unfold Hid; rw [hPS.2]; exact infoStop
  have HN1 : Hid (PL.toArray.all (·.oneCell') = true) := all_oneCell_toArray (by rw [hPS.1]; exact one_pr)
  have HN2 : Hid (SL.toArray.all (·.oneCell') = true) := all_oneCell_toArray (by rw [hPS.2]; exact one_st)
  have TT1 : Hid (((w2.alloc (.cells #[.int .u32 0, .int .u32 0, .int .u32 0, .int .u32 0, .int .u32 0, .int .u32 0, .int .u32 0, .int .u32 0, .int .u32 0, .int .u32 0, .int .u32 0, .int .u32 0, .int .u32 0, .int .u32 0, .int .u32 0, .int .u32 0, .int .u32 0, .int .i64 0, .int .i64 0, .int .i64 0, .int .i64 0] 26)).alloc (.cells #[.int .i64 0, .int .i64 0, .int .i64 0] 29)).there w2.heap.size 0 PL.toArray.size) := t1
  have TT2 : Hid ((((w2.alloc (.cells #[.int .u32 0, .int .u32 0, .int .u32 0, .int .u32 0, .int .u32 0, .int .u32 0, .int .u32 0, .int .u32 0, .int .u32 0, .int .u32 0, .int .u32 0, .int .u32 0, .int .u32 0, .int .u32 0, .int .u32 0, .int .u32 0, .int .u32 0, .int .i64 0, .int .i64 0, .int .i64 0, .int .i64 0] 26)).alloc (.cells #[.int .i64 0, .int .i64 0, .int .i64 0] 29)).setCells w2.heap.size 0 PL).there (w2.heap.size + 1) 0 SL.toArray.size) := t2
  clear hPS
  have HPQ := hide (And.intro okl (And.intro hl2 (And.intro hp0 (And.intro hq0 (And.intro hpd (And.intro hqd hqx))))))
  clear t1 t2 k1 k2 k3 k4 HR hb ho okl hl2 hp0 hq0 hpd hqd hqx
  go_upto_region 2 with (first | (refine wpList_store_mid (op := { dst := none, op := Go.Op.store 26 (Go.Operand.tmp 2) (Go.Operand.tmp 9), type := 0, pos := "law.go:34", after := #[{ on := 7, ground := Go.Ground.data }, { on := 5, ground := Go.Ground.data }, { on := 9, ground := Go.Ground.chain }, { on := 0, ground := Go.Ground.phase }, { on := 1, ground := Go.Ground.phase }, { on := 2, ground := Go.Ground.phase }, { on := 3, ground := Go.Ground.phase }, { on := 4, ground := Go.Ground.phase }, { on := 5, ground := Go.Ground.phase }, { on := 6, ground := Go.Ground.textOnly Go.Departure.lateStores }, { on := 7, ground := Go.Ground.phase }, { on := 8, ground := Go.Ground.phase }, { on := 9, ground := Go.Ground.phase }], guard := none }) rfl 26 (.tmp 2) (.tmp 9) rfl w2.heap.size 0 PL.toArray rfl rfl TT1.out HI1.out HN1.out ?_) | (refine wpList_store_mid (op := { dst := none, op := Go.Op.store 29 (Go.Operand.tmp 3) (Go.Operand.tmp 10), type := 0, pos := "law.go:34", after := #[{ on := 8, ground := Go.Ground.data }, { on := 6, ground := Go.Ground.data }, { on := 10, ground := Go.Ground.chain }, { on := 0, ground := Go.Ground.phase }, { on := 1, ground := Go.Ground.phase }, { on := 2, ground := Go.Ground.phase }, { on := 3, ground := Go.Ground.phase }, { on := 4, ground := Go.Ground.phase }, { on := 5, ground := Go.Ground.phase }, { on := 6, ground := Go.Ground.phase }, { on := 7, ground := Go.Ground.phase }, { on := 8, ground := Go.Ground.phase }, { on := 9, ground := Go.Ground.phase }, { on := 10, ground := Go.Ground.phase }], guard := none }) rfl 29 (.tmp 3) (.tmp 10) rfl (w2.heap.size + 1) 0 SL.toArray rfl rfl TT2.out HI2.out HN2.out ?_) | fail)
  simp only [Act.put]
  generalize (((w2.alloc (.cells #[.int .u32 0, .int .u32 0, .int .u32 0, .int .u32 0, .int .u32 0, .int .u32 0, .int .u32 0, .int .u32 0, .int .u32 0, .int .u32 0, .int .u32 0, .int .u32 0, .int .u32 0, .int .u32 0, .int .u32 0, .int .u32 0, .int .u32 0, .int .i64 0, .int .i64 0, .int .i64 0, .int .i64 0] 26)).alloc (.cells #[.int .i64 0, .int .i64 0, .int .i64 0] 29)).setCells w2.heap.size 0 PL).setCells (w2.heap.size + 1) 0 SL = W5 at *
  obtain ⟨okl, hl2, hp0, hq0, hpd, hqd, hqx⟩ := HPQ.out
  obtain ⟨a1, c1, rfl, _, hform⟩ := HO.out.pgs okl (by omega)
  rcases hform with ⟨_, hnil⟩ | ⟨g, rfl, hg⟩
  · exfalso
    rw [hnil] at hl2
    exact absurd hl2 (by decide)
  rw [hl2] at HO ⊢
  have cellAt : ∀ {k j : Nat} {p : Pg} {u : Value}, l[k]? = some p → j < 66 → p.cells[j]? = some u → W5.cell? ⟨g, k * 66 + j, none⟩ = some u := fun {k j p u} hk hj hu => by
    have hkl : k < 2 := by rw [← hl2]; exact (List.getElem?_eq_some_iff.1 hk).1
    have h1 : W5.ownsRow w1.heap.size 38 66 (.slice (some ⟨g, 0, none⟩) 2 c1) 2 (flat l) := by
      have := HO.out
      unfold POwn at this
      rwa [hl2] at this
    rw [World.ownsRow.cellAt h1 (k * 66 + j) (by omega), flat_get okl j hk hj]
    exact hu
  have m1 : W5.cell? ⟨g, 67, none⟩ = some (.bool true) := cellAt hq0 (j := 1) (by decide) (by rw [← hqd]; rfl)
  have m2 : W5.cell? ⟨g, 1, none⟩ = some (.bool false) := cellAt (k := 0) hp0 (j := 1) (by decide) (by rw [← hpd]; rfl)
  have m3 : W5.cell? ⟨g, 71, none⟩ = some (.int .u8 5) := cellAt hq0 (j := 5) (by decide) (by
    show (q.data.map bv)[3]? = _
    rw [List.getElem?_map, hqx]
    rfl)
  have n1 : W5.cell? ⟨w2.heap.size, 1, none⟩ = some (.int .u32 5) := K1.out.cell 1 _ (by rw [HPS.out.1]; rfl)
  have n2 : W5.cell? ⟨w2.heap.size, 16, none⟩ = some (.int .u32 12) := K1.out.cell 16 _ (by rw [HPS.out.1]; rfl)
  have s0 : W5.cell? ⟨w2.heap.size + 1, 0, none⟩ = some (.int .i64 1) := K2.out.cell 0 _ (by rw [HPS.out.2]; rfl)
  have s1 : W5.cell? ⟨w2.heap.size + 1, 1, none⟩ = some (.int .i64 3) := K2.out.cell 1 _ (by rw [HPS.out.2]; rfl)
  have s2 : W5.cell? ⟨w2.heap.size + 1, 2, none⟩ = some (.int .i64 3) := K2.out.cell 2 _ (by rw [HPS.out.2]; rfl)
  clear cellAt hl2 hp0 hq0 hpd hqd hqx okl hg HPQ K1 K2 K3 T1 T2 TT1 TT2 HI1 HI2 HN1 HN2 HO
  go_wp2
  go_ret
  exact ⟨rfl, D2.out⟩
end Go.Proofs.YtegkodgondlcmaaDoor
