/-
  The document's woken: a process that waits is ready, in a copy of the table.
-/
import Derived.Test.YtgbckpojoagbnaaGreatDoorWkCopied
import Derived.Test.YtgbckpojoagbnaaGreatDoorRyFire
namespace Go.Proofs.YtgbckpojoagbnaaGreatDoor
open Go.RowKit
set_option linter.unusedVariables false
set_option linter.unusedSimpArgs false

/-- The timers' list is another one now. -/
theorem Mine.times {w w2 : World} {base tb : Nat} {v1 v2 v3 v3' : Value} {l : List Pro} {r : List Int} {t t' : List Tm} (h : Mine w base tb v1 v2 v3 l r t) (hg : w.grownBy w2 v3.ownBlock) (hn : TOwn w2 base v3' t') (hs : v3'.ownBlock = v3.ownBlock ∨ v3'.ownBlock = some w.heap.size) :
    Mine (w2.setCell ⟨tb, 2, none⟩ v3') base tb v1 v2 v3' l r t' ∧ Below base w (w2.setCell ⟨tb, 2, none⟩ v3') := by
  have hbase : base ≤ w.heap.size := Nat.le_trans h.hb (Nat.le_of_lt h.lt)
  have hbl := (h.bl.grown h.lt hg (fun e => h.f3 e.symm)).set (k := 2) (by simp) v3'
  have f3' : v3'.ownBlock ≠ some tb := by
    rcases hs with e | e
    · rw [e]; exact h.f3
    · rw [e]
      intro e'
      have := Option.some.inj e'
      have := h.lt
      omega
  have sep : ∀ v, v.ownBlock ≠ some w.heap.size → Sep v v3 → Sep v v3' := fun v hv hsep => by
    rcases hs with e | e
    · unfold Sep at *
      rw [e]; exact hsep
    · refine .inr ?_
      rw [e]; exact hv
  have fresh : ∀ {e : TypeId} {sz n : Nat} {v : Value} {cs : List Value}, w.ownsRow base e sz v n cs → v.ownBlock ≠ some w.heap.size := fun ho e' => by
    have := (ho.lt _ e').2
    omega
  refine ⟨⟨hbl, ⟨ownsRow_far (h.tab.p.kept hg h.tab.s13) h.f1 v3', ownsRow_far (h.tab.r.kept hg h.tab.s23) h.f2 v3', ownsRow_far hn f3' v3', h.tab.s12, sep _ (fresh h.tab.p) h.tab.s13, sep _ (fresh h.tab.r) h.tab.s23⟩, h.f1, h.f2, f3', h.hb, ?_⟩, ?_⟩
  · have := h.lt
    have := hg.size
    simp [World.setCell]
    omega
  · exact (((Below.refl base w).grown hg hbase (fun k hk => (h.tab.t.lt k hk).1)).setCell (p := ⟨tb, 2, none⟩) h.hb v3')

theorem own_cell {w : World} {base g n c : Nat} {l : List Pro} (h : PrOwn w base (.slice (some ⟨g, 0, none⟩) n c) l) {k : Nat} {q : Pro} (hk : l[k]? = some q) {j : Nat} (hj : j < 21) {v : Value} (hv : q.cells[j]? = some v) : w.cell? ⟨g, k * 21 + j, none⟩ = some v := by
  obtain ⟨a, c', e, hp⟩ := prown_pros h
  simp only [Value.slice.injEq] at e
  obtain ⟨rfl, -, rfl⟩ := e
  obtain ⟨b, off, e, hr⟩ := hp.at pro21 (by decide) hk
  simp only [Option.some.injEq, Addr.mk.injEq, and_true] at e
  obtain ⟨rfl, rfl⟩ := e
  have := hr j v hv
  simpa using this
theorem own_free {w : World} {base g n c : Nat} {l : List Pro} (h : PrOwn w base (.slice (some ⟨g, 0, none⟩) n c) l) (j : Nat) : w.frozen? ⟨g, j, none⟩ = false := by
  obtain ⟨a, c', e, hp⟩ := prown_pros h
  simp only [Value.slice.injEq] at e
  obtain ⟨-, rfl, -⟩ := e
  exact World.ownsRow.frozenAt h j
theorem others_next {t : List Tm} {j : Nat} {y : Tm} (k : Int) (h : t[j]? = some y) : others (t.take (j + 1)) k = others (t.take j) k ++ (if y.proc != k then [y] else []) := by
  unfold others
  rw [take_snoc h, List.filter_append]
  congr 1
  by_cases hw : (y.proc != k) = true
  · simp [hw]
  · simp [hw]

set_option maxRecDepth 100000 in
set_option maxHeartbeats 4000000 in
theorem rwoken_any (w : World) (pa : Option Addr) (pn pc : Nat) (l : List Pro) (hp : Pros w pa pn pc l) (ra : Option Addr) (rn rc : Nat) (r : List Int) (hr : Is w ra rn rc r) (ta : Option Addr) (tn tc : Nat) (t : List Tm) (ht : Tms w ta tn tc t) (hmp : pn ≤ 1048576) (hmr : rn ≤ 1048576) (hmt : tn ≤ 1048576) (k : Nat) (q : Pro) (hk : l[k]? = some q) (x : Int) :
    Calls Tryz.prog 27 #[.agg #[.slice pa pn pc, .slice ra rn rc, .slice ta tn tc], .int .i64 (k : Int), .int .u32 x] w fun e w' => ∃ a1 n1 c1 a2 n2 c2 a3 n3 c3, e = .returned (.agg #[.slice a1 n1 c1, .slice a2 n2 c2, .slice a3 n3 c3]) ∧ Tab w' w.heap.size (.slice a1 n1 c1) (.slice a2 n2 c2) (.slice a3 n3 c3) (l.set k (wokenP q x)) (r ++ [(k : Int)]) (others t (k : Int)) ∧ Below w.heap.size w w' := by
  have X1 := new_below w (.cells #[.slice pa pn pc, .slice ra rn rc, .slice ta tn tc] 26)
  have X2 := new_below (w.alloc (.cells #[.slice pa pn pc, .slice ra rn rc, .slice ta tn tc] 26)) (.cells #[.slice none 0 0, .slice none 0 0, .slice none 0 0] 26)
  have BX0 : Bl (w.alloc (.cells #[.slice pa pn pc, .slice ra rn rc, .slice ta tn tc] 26)) w.heap.size [.slice pa pn pc, .slice ra rn rc, .slice ta tn tc] := bl_alloc w #[.slice pa pn pc, .slice ra rn rc, .slice ta tn tc] 26
  have BX := hide (BX0.below (by simp) X2)
  have BG : Hid (Bl ((w.alloc (.cells #[.slice pa pn pc, .slice ra rn rc, .slice ta tn tc] 26)).alloc (.cells #[.slice none 0 0, .slice none 0 0, .slice none 0 0] 26)) (w.heap.size + 1) [.slice none 0 0, .slice none 0 0, .slice none 0 0]) := by
    have := bl_alloc (w.alloc (.cells #[.slice pa pn pc, .slice ra rn rc, .slice ta tn tc] 26)) #[.slice none 0 0, .slice none 0 0, .slice none 0 0] 26
    rw [show (w.alloc (.cells #[.slice pa pn pc, .slice ra rn rc, .slice ta tn tc] 26)).heap.size = w.heap.size + 1 by simp] at this
    exact this
  have HB0 := hide (chain X1 X2)
  have hz : ((w.alloc (.cells #[.slice pa pn pc, .slice ra rn rc, .slice ta tn tc] 26)).alloc (.cells #[.slice none 0 0, .slice none 0 0, .slice none 0 0] 26)).heap.size = w.heap.size + 2 := by simp
  have HS := hide (hp.below HB0.out)
  have HI := hide (hr.below HB0.out)
  have HT := hide (ht.below HB0.out)
  clear X1 X2 BX0 hp hr ht
  go_enter Tryz.func27, Tryz.ntmps27
  go_upto_region 1 with fail
  generalize (w.alloc (.cells #[.slice pa pn pc, .slice ra rn rc, .slice ta tn tc] 26)).alloc (.cells #[.slice none 0 0, .slice none 0 0, .slice none 0 0] 26) = W0 at *
  have HZ := hide hz
  clear hz
  have hl1 : Hid (w.heap.size < W0.heap.size) := by unfold Hid; rw [HZ.out]; omega
  have hl2 : Hid (w.heap.size + 1 < W0.heap.size) := by unfold Hid; rw [HZ.out]; omega
  have HK := hide hk
  have HKL : Hid (k < l.length) := (List.getElem?_eq_some_iff.1 hk).1
  have HLN : Hid (l.length = pn) := HS.out.size
  have HLT : Hid (t.length = tn) := HT.out.size
  have HLR : Hid (r.length = rn) := HI.out.size
  clear hk
  have b0 := BX.out.cell 0 _ rfl
  have b1 := BX.out.cell 1 _ rfl
  have b2 := BX.out.cell 2 _ rfl
  go_wp2_with fail
  refine Calls.mono (rcopied_any W0 pa pn pc l HS.out ra rn rc r HI.out ta tn tc t HT.out hmp hmr hmt) ?_
  rintro e w1 ⟨a1, c1, a2, c2, a3, c3, rfl, htab, x1⟩
  have X3 := new_below w1 (.cells #[.slice a1 l.length c1, .slice a2 r.length c2, .slice a3 t.length c3] 26)
  have B0 := hide (chain x1 X3)
  have M0 := hide (mine_new htab x1.size 26)
  obtain ⟨g, rfl⟩ : ∃ g, a1 = some ⟨g, 0, none⟩ := by
    rcases htab.p.2 with ⟨e1, e2⟩ | ⟨g, cap, cur, e1, _⟩
    · simp only [Value.slice.injEq] at e1
      have := HKL.out
      omega
    · simp only [Value.slice.injEq] at e1
      exact ⟨g, e1.1⟩
  have HGB : Hid (W0.heap.size ≤ g) := (htab.p.lt g rfl).1
  clear X3 x1 htab b0 b1 b2
  go_upto_region 2 with fail
  generalize w1.alloc (.cells #[.slice (some ⟨g, 0, none⟩) l.length c1, .slice a2 r.length c2, .slice a3 t.length c3] 26) = V0 at *
  generalize w1.heap.size = mb at *
  have hk1 : (k : Int) < (l.length : Int) := by have := HKL.out; omega
  have hk0 : (0 : Int) ≤ (k : Int) := by omega
  have m0 := M0.out.bl.cell 0 _ rfl
  have qc : V0.cell? ⟨g, k * 21 + 17, none⟩ = some (.int .i64 q.state) := own_cell M0.out.tab.p HK.out (by decide) rfl
  have fc : V0.frozen? ⟨g, k * 21 + 17, none⟩ = false := own_free M0.out.tab.p _
  go_upto_region 3 with fail
  have M1 : Hid (Mine (V0.setCell ⟨g, k * 21 + 17, none⟩ (.int .i64 1)) W0.heap.size mb (.slice (some ⟨g, 0, none⟩) l.length c1) (.slice a2 r.length c2) (.slice a3 t.length c3) (l.set k { q with state := 1 }) r t) := by
    have h := M0.out.put (j := 17) (q' := { q with state := 1 }) (u := .int .i64 1) HK.out (by decide) rfl
    skip
    exact h
  have B1 := hide (B0.out.setCell (p := ⟨g, k * 21 + 17, none⟩) HGB.out (.int .i64 1))
  clear qc fc m0
  generalize V0.setCell ⟨g, k * 21 + 17, none⟩ (.int .i64 1) = V1 at *
  have m0 := M1.out.bl.cell 0 _ rfl
  have qc : V1.cell? ⟨g, k * 21 + 19, none⟩ = some (.int .i64 q.wait) := own_cell M1.out.tab.p (by rw [List.getElem?_set_self HKL.out] : (l.set k { q with state := 1 })[k]? = some { q with state := 1 }) (by decide) rfl
  have fc : V1.frozen? ⟨g, k * 21 + 19, none⟩ = false := own_free M1.out.tab.p _
  go_upto_region 4 with fail
  have M2 : Hid (Mine (V1.setCell ⟨g, k * 21 + 19, none⟩ (.int .i64 0)) W0.heap.size mb (.slice (some ⟨g, 0, none⟩) l.length c1) (.slice a2 r.length c2) (.slice a3 t.length c3) (l.set k { q with state := 1, wait := 0 }) r t) := by
    have h := M1.out.put (j := 19) (q' := { q with state := 1, wait := 0 }) (u := .int .i64 0) (by rw [List.getElem?_set_self HKL.out] : (l.set k { q with state := 1 })[k]? = some { q with state := 1 }) (by decide) rfl
    rw [List.set_set] at h
    exact h
  have B2 := hide (B1.out.setCell (p := ⟨g, k * 21 + 19, none⟩) HGB.out (.int .i64 0))
  clear qc fc m0
  generalize V1.setCell ⟨g, k * 21 + 19, none⟩ (.int .i64 0) = V2 at *
  have m0 := M2.out.bl.cell 0 _ rfl
  have qc : V2.cell? ⟨g, k * 21 + 20, none⟩ = some (.int .i64 q.obj) := own_cell M2.out.tab.p (by rw [List.getElem?_set_self HKL.out] : (l.set k { q with state := 1, wait := 0 })[k]? = some { q with state := 1, wait := 0 }) (by decide) rfl
  have fc : V2.frozen? ⟨g, k * 21 + 20, none⟩ = false := own_free M2.out.tab.p _
  go_upto_region 5 with fail
  have M3 : Hid (Mine (V2.setCell ⟨g, k * 21 + 20, none⟩ (.int .i64 0)) W0.heap.size mb (.slice (some ⟨g, 0, none⟩) l.length c1) (.slice a2 r.length c2) (.slice a3 t.length c3) (l.set k { q with state := 1, wait := 0, obj := 0 }) r t) := by
    have h := M2.out.put (j := 20) (q' := { q with state := 1, wait := 0, obj := 0 }) (u := .int .i64 0) (by rw [List.getElem?_set_self HKL.out] : (l.set k { q with state := 1, wait := 0 })[k]? = some { q with state := 1, wait := 0 }) (by decide) rfl
    rw [List.set_set] at h
    exact h
  have B3 := hide (B2.out.setCell (p := ⟨g, k * 21 + 20, none⟩) HGB.out (.int .i64 0))
  clear qc fc m0
  generalize V2.setCell ⟨g, k * 21 + 20, none⟩ (.int .i64 0) = V3 at *
  have m0 := M3.out.bl.cell 0 _ rfl
  have qc : V3.cell? ⟨g, k * 21 + 1, none⟩ = some (.int .u32 q.r1) := own_cell M3.out.tab.p (by rw [List.getElem?_set_self HKL.out] : (l.set k { q with state := 1, wait := 0, obj := 0 })[k]? = some { q with state := 1, wait := 0, obj := 0 }) (by decide) rfl
  have fc : V3.frozen? ⟨g, k * 21 + 1, none⟩ = false := own_free M3.out.tab.p _
  go_upto_region 6 with fail
  have M4 : Hid (Mine (V3.setCell ⟨g, k * 21 + 1, none⟩ (.int .u32 x)) W0.heap.size mb (.slice (some ⟨g, 0, none⟩) l.length c1) (.slice a2 r.length c2) (.slice a3 t.length c3) (l.set k (wokenP q x)) r t) := by
    have h := M3.out.put (j := 1) (q' := (wokenP q x)) (u := .int .u32 x) (by rw [List.getElem?_set_self HKL.out] : (l.set k { q with state := 1, wait := 0, obj := 0 })[k]? = some { q with state := 1, wait := 0, obj := 0 }) (by decide) rfl
    rw [List.set_set] at h
    exact h
  have B4 := hide (B3.out.setCell (p := ⟨g, k * 21 + 1, none⟩) HGB.out (.int .u32 x))
  clear qc fc m0
  generalize V3.setCell ⟨g, k * 21 + 1, none⟩ (.int .u32 x) = V4 at *
  have HJ := hide infoInt
  have b1 := M4.out.bl.cell 1 _ rfl
  have X4 := new_below V4 (.cells #[.int .i64 (k : Int)] 3)
  have HM := hide (M4.out.below X4)
  have hbase : Hid (W0.heap.size ≤ V4.heap.size) := B4.out.size
  have B5 := hide (B4.out.trans (X4.mono hbase.out))
  have HBX4 : Hid (mb ≠ V4.heap.size) := by have := M4.out.lt; unfold Hid; omega
  clear X4
  go_upto_region 7 with (at_builtin; refine append_rec rfl (.tmp 34) (.tmp 36) 23 3 rfl Tryz.underlying23 HJ.out (by decide) W0.heap.size _ _ _ rfl HM.out.tab.r V4.heap.size 1 (ci (k : Int)) rfl rfl (fun i u hu => by rw [World.cell?_alloc_at _ _ _ _ (by simp)]; simpa [ci] using hu) (fun u hu => ci_one [(k : Int)] u (by simpa using hu)) (by have := HLR.out; unfold maxLen; omega) (by have := HLR.out; omega) (by have := hbase.out; simp; omega) ?_; intro g7 c7 w7 ho7 hg7 hat7 hlt7; have hg8 : (V4.alloc (.cells #[.int .i64 (k : Int)] 3)).grownBy w7 (Value.slice a2 r.length c2).ownBlock := hg7; have hat8 : (Value.slice a2 r.length c2).ownBlock = some g7 ∨ g7 = (V4.alloc (.cells #[.int .i64 (k : Int)] 3)).heap.size := hat7; have ho8 : IOwn w7 W0.heap.size (.slice (some ⟨g7, 0, none⟩) (r.length + 1) c7) (r ++ [(k : Int)]) := (by unfold IOwn; rw [List.length_append, List.flatMap_append]; exact ho7); have GB := HM.out.bl.grown HM.out.lt hg8 (fun e => HM.out.f2 e.symm); have g1 := GB.cell 1 _ rfl; have f1 := GB.free 1; have HR := hide (HM.out.ready hg8 ho8 (hat8.elim (fun e => .inl e.symm) (fun e => .inr (congrArg some e)))); clear ho7 hg7 hat7 GB hg8 hat8 ho8)
  clear g1 f1 b1
  have B6 := hide (B5.out.trans HR.out.2)
  have M5 := hide HR.out.1
  clear HR HM B5
  generalize w7.setCell ⟨mb, 1, none⟩ (.slice (some ⟨g7, 0, none⟩) (r.length + 1) c7) = V5 at *
  have g2 := M5.out.bl.cell 2 _ rfl
  have f2 := M5.out.bl.free 2
  have M6 := hide (M5.out.timers (Below.refl _ _) (town_nil V5 V5.heap.size)).1
  have B7 := hide (B6.out.trans (M5.out.timers (Below.refl _ _) (town_nil V5 V5.heap.size)).2)
  go_upto_region 8 with fail
  clear g2 f2
  generalize V5.setCell ⟨mb, 2, none⟩ (.slice none 0 0) = V6 at *
  clear M0 M1 M2 M3 M4 M5 B0 B1 B2 B3 B4 B6 hbase HBX4 hk0 hk1
  have hbB : Hid (w.heap.size < W0.heap.size) := Nat.lt_of_succ_lt hl2.out
  go_wp2
  go_loopw [8] (fun i wr => ∃ (j : Nat) (a : Option Addr) (n c : Nat), j ≤ tn ∧ i = .int .i64 (j : Int) ∧ Hid (Mine wr W0.heap.size mb (.slice (some ⟨g, 0, none⟩) l.length c1) (.slice (some ⟨g7, 0, none⟩) (r.length + 1) c7) (.slice a n c) (l.set k (wokenP q x)) (r ++ [(k : Int)]) (others (t.take j) (k : Int))) ∧ Hid (Below W0.heap.size W0 wr)) (fun i _ => tn - (intOf i).toNat)
  case atStart => exact ⟨0, none, 0, 0, by omega, rfl, M6.out, B7.out⟩
  case round =>
    obtain ⟨j, a, n, c, hj, rfl, hM, hb⟩ := hrel
    have BXr := hide (BX.out.below hl1.out hb.out)
    have b2 := BXr.out.cell 2 _ rfl
    by_cases hlt : j < tn
    · obtain ⟨y, hy⟩ : ∃ y, t[j]? = some y := ⟨_, List.getElem?_eq_getElem (by rw [HLT.out]; exact hlt)⟩
      obtain ⟨b, off, rfl, hr⟩ := HT.out.at tm2 (by decide) hy
      have HRG := hide hr
      have HN := hide (others_next (k : Int) hy)
      have HBB : Hid (b < W0.heap.size) := block_lt_of_cell (hr 0 _ rfl)
      have HCT : Hid (∀ wz, Below W0.heap.size W0 wz → (fun wz => wz.cell? ⟨w.heap.size, 2, none⟩ = some (.slice (some ⟨b, off, none⟩) tn tc) ∧ wz.cell? ⟨b, off + j * 2, none⟩ = some (.int .i64 y.proc) ∧ wz.cell? ⟨b, off + j * 2 + 1, none⟩ = some (.int .i64 y.due)) wz) := fun wz hz => by
        have h1 := HT.out.below hz
        refine ⟨(BX.out.below hl1.out hz).cell 2 _ rfl, ?_, ?_⟩
        · have := HRG.out 0 _ rfl
          rw [hz.cell (p := ⟨b, off + j * 2, none⟩) HBB.out]
          exact this
        · have := HRG.out 1 _ rfl
          rw [hz.cell (p := ⟨b, off + j * 2 + 1, none⟩) HBB.out]
          exact this
      have x0 := (HCT.out _ hb.out).2.1
      have hj1 : (j : Int) < (tn : Int) := by omega
      have LO : Hid ((others (t.take j) (k : Int)).length ≤ tn) := by
        unfold Hid others
        refine Nat.le_trans (List.length_filter_le _ _) ?_
        rw [List.length_take]
        omega
      clear hr hy
      by_cases hne : (y.proc != (k : Int)) = true
      · rw [if_pos hne] at HN
        go_upto_region 12 with fail
        have C0 : Hid (Below W0.heap.size W0 wr.drew) := hb.out.drew
        have HM0 := hide (hM.out.below (Below.refl _ _).drew)
        clear b2 x0
        refine wp_region_held_drew (S := fun wz => wz.cell? ⟨w.heap.size, 2, none⟩ = some (.slice (some ⟨b, off, none⟩) tn tc) ∧ wz.cell? ⟨b, off + j * 2, none⟩ = some (.int .i64 y.proc) ∧ wz.cell? ⟨b, off + j * 2 + 1, none⟩ = some (.int .i64 y.due)) (by kernel_rfl) (HCT.out _ C0.out) (fun hHeld => ?_)
        generalize wr.drew = Y0 at *
        refine wpAnyH_take (i := 0) (oi := { dst := some 55, op := Go.Op.fieldAddr 26 (Go.Operand.tmp 7) 2, type := 0, pos := "ref.go:213", after := #[], guard := none }) (v := ?_) rfl (by kernel_rfl) (by kernel_rfl) (by kernel_rfl) (fun _ _ _ h => h) (Or.inl ⟨by rfl, ?_⟩) (by assumption) ?_
        rotate_left
        · intro w hSw
          try dsimp only at hSw
          go_simp
          try with_reducible rfl
        simp only [Act.put, List.setIfInBounds_toArray, List.set_cons_zero, List.set_cons_succ]
        refine wpAnyH_take (i := 2) (oi := { dst := some 57, op := Go.Op.fieldAddr 26 (Go.Operand.tmp 3) 2, type := 0, pos := "ref.go:213", after := #[], guard := none }) (v := ?_) rfl (by kernel_rfl) (by kernel_rfl) (by kernel_rfl) (fun _ _ _ h => h) (Or.inl ⟨by rfl, ?_⟩) (by assumption) ?_
        rotate_left
        · intro w hSw
          try dsimp only at hSw
          go_simp
          try with_reducible rfl
        simp only [Act.put, List.setIfInBounds_toArray, List.set_cons_zero, List.set_cons_succ]
        refine wpAnyH_take (i := 3) (oi := { dst := some 58, op := Go.Op.load 24 (Go.Operand.tmp 57), type := 24, pos := "ref.go:213", after := #[{ on := 2, ground := Go.Ground.data }], guard := none }) (v := ?_) rfl (by kernel_rfl) (by kernel_rfl) (by kernel_rfl) (fun _ _ _ h => h) (Or.inl ⟨by rfl, ?_⟩) (by assumption) ?_
        rotate_left
        · intro w hSw
          try dsimp only at hSw
          go_simp
          try with_reducible rfl
        simp only [Act.put, List.setIfInBounds_toArray, List.set_cons_zero, List.set_cons_succ]
        refine wpAnyH_take (i := 4) (oi := { dst := some 59, op := Go.Op.move (Go.Operand.tmp 8), type := 3, pos := "ref.go:213", after := #[], guard := none }) (v := ?_) rfl (by kernel_rfl) (by kernel_rfl) (by kernel_rfl) (fun _ _ _ h => h) (Or.inl ⟨by rfl, ?_⟩) (by assumption) ?_
        rotate_left
        · intro w hSw
          try dsimp only at hSw
          go_simp
          try with_reducible rfl
        simp only [Act.put, List.setIfInBounds_toArray, List.set_cons_zero, List.set_cons_succ]
        refine wpAnyH_take (i := 5) (oi := { dst := some 60, op := Go.Op.indexAddr 24 (Go.Operand.tmp 58) (Go.Operand.tmp 59), type := 0, pos := "ref.go:213", after := #[{ on := 3, ground := Go.Ground.data }, { on := 4, ground := Go.Ground.data }], guard := none }) (v := ?_) rfl (by kernel_rfl) (by kernel_rfl) (by kernel_rfl) (fun _ _ _ h => h) (Or.inl ⟨by rfl, ?_⟩) (by assumption) ?_
        rotate_left
        · intro w hSw
          try dsimp only at hSw
          go_simp
          try with_reducible rfl
        simp only [Act.put, List.setIfInBounds_toArray, List.set_cons_zero, List.set_cons_succ]
        refine wpAnyH_take (i := 6) (oi := { dst := some 61, op := Go.Op.load 61 (Go.Operand.tmp 60), type := 61, pos := "ref.go:213", after := #[{ on := 5, ground := Go.Ground.data }], guard := none }) (v := ?_) rfl (by kernel_rfl) (by kernel_rfl) (by kernel_rfl) (fun _ _ _ h => h) (Or.inl ⟨by rfl, ?_⟩) (by assumption) ?_
        rotate_left
        · intro w hSw
          try dsimp only at hSw
          go_simp
          try with_reducible rfl
        simp only [Act.put, List.setIfInBounds_toArray, List.set_cons_zero, List.set_cons_succ]
        have m2 := HM0.out.bl.cell 2 _ rfl
        refine wpAnyH_ready (rs := [1, 7]) (by kernel_rfl) (by simp) ?_
        refine AllReadyH.cons (o := { dst := some 56, op := Go.Op.load 24 (Go.Operand.tmp 55), type := 24, pos := "ref.go:213", after := #[{ on := 0, ground := Go.Ground.data }], guard := none }) rfl (fun K hK => ?_) (AllReadyH.cons (o := { dst := some 62, op := Go.Op.buildSlice 24 1 #[(0, Go.Operand.tmp 61)], type := 24, pos := "ref.go:213", after := #[{ on := 6, ground := Go.Ground.data }], guard := none }) rfl (fun K hK => ?_) AllReadyH.nil)
        · go_simp
          refine hK.out _ _ (HCT.out _ C0.out) (fun hHeld2 => ?_)
          clear hK K hHeld
          have hHeld := hHeld2
          clear hHeld2
          try simp only [Act.put, List.setIfInBounds_toArray, List.set_cons_zero, List.set_cons_succ]
          refine wpAnyH_ready (rs := [7]) (by kernel_rfl) (by simp) ?_
          refine AllReadyH.cons (o := { dst := some 62, op := Go.Op.buildSlice 24 1 #[(0, Go.Operand.tmp 61)], type := 24, pos := "ref.go:213", after := #[{ on := 6, ground := Go.Ground.data }], guard := none }) rfl (fun K hK => ?_) (AllReadyH.nil)
          have XA := new_below Y0 (.cells #[.int .i64 y.proc, .int .i64 y.due] 61)
          have HMA := hide (HM0.out.below XA)
          have BA := hide (C0.out.trans (XA.mono C0.out.size))
          have NA := hide (bl_alloc Y0 #[.int .i64 y.proc, .int .i64 y.due] 61)
          have ma2 := HMA.out.bl.cell 2 _ rfl
          clear XA
          go_simp
          refine hK.out _ _ (HCT.out _ BA.out) (fun hHeld2 => ?_)
          clear hK K hHeld
          have hHeld := hHeld2
          clear hHeld2
          try simp only [Act.put, List.setIfInBounds_toArray, List.set_cons_zero, List.set_cons_succ]
          generalize Y0.alloc (.cells #[.int .i64 y.proc, .int .i64 y.due] 61) = Y1 at *
          generalize Y0.heap.size = ya at *
          refine wpAnyH_ready (rs := [8]) (by kernel_rfl) (by simp) ?_
          refine AllReadyH.cons (o := { dst := some 63, op := Go.Op.call { callee := Go.Callee.builtin Go.Builtin.append, args := #[Go.Operand.tmp 56, Go.Operand.tmp 62], argTypes := #[24, 24] }, type := 24, pos := "ref.go:213", after := #[{ on := 1, ground := Go.Ground.data }, { on := 7, ground := Go.Ground.data }], guard := none }) rfl (fun K hK => ?_) (AllReadyH.nil)
          rw [if_pos (by rfl)]
          obtain ⟨i9, z9, h92, h93, h94, h95, h96⟩ := infoTimer
          refine wp_append_lies Y1 (.tmp 56) (.tmp 62) 24 rfl W0.heap.size 61 i9 z9 2 16 Tryz.underlying24 h92 h93 h94 h95 h96 (by decide) (.slice a n c) (others (t.take j) (k : Int)).length ((others (t.take j) (k : Int)).flatMap Tm.cells) rfl HMA.out.tab.t ⟨ya, 0, none⟩ 1 1 y.cells rfl rfl (fun i u hu => by rw [add_lit', Nat.zero_add]; exact NA.out.cell i u hu) (fun u hu => tm_one [y] u (by simpa using hu)) (by decide) (by have := LO.out; unfold maxLen; omega) (by have := LO.out; omega) BA.out.size _ rfl ?_
          intro g8 c8 w8 ho8 hg8 hat8 hlt8
          have hat9 : (Value.slice (some ⟨g8, 0, none⟩) ((others (t.take j) (k : Int)).length + 1) c8).ownBlock = (Value.slice a n c).ownBlock ∨ (Value.slice (some ⟨g8, 0, none⟩) ((others (t.take j) (k : Int)).length + 1) c8).ownBlock = some Y1.heap.size := hat8.elim (fun e => .inl e.symm) (fun e => .inr (congrArg some e))
          have ho9 : TOwn w8 W0.heap.size (.slice (some ⟨g8, 0, none⟩) ((others (t.take j) (k : Int)).length + 1) c8) (others (t.take (j + 1)) (k : Int)) := by
            rw [HN.out]
            unfold TOwn
            rw [List.length_append, List.flatMap_append]
            simpa using ho8
          have HR := hide (HMA.out.times hg8 ho9 hat9)
          have GB := HMA.out.bl.grown HMA.out.lt hg8 (fun e => HMA.out.f3 e.symm)
          have s2 := GB.cell 2 _ rfl
          have sf := GB.free 2
          have B8 := hide (BA.out.grown hg8 BA.out.size (fun i e => (HMA.out.tab.t.lt i e).1))
          have B9 := hide (BA.out.trans HR.out.2)
          clear ho8 hat8 hat9 ho9 GB hg8 hlt8 h92 h93 h94 h95 h96
          refine hK.out _ _ (HCT.out _ B8.out) (fun hHeld2 => ?_)
          clear hK K hHeld
          have hHeld := hHeld2
          clear hHeld2
          try simp only [Act.put, List.setIfInBounds_toArray, List.set_cons_zero, List.set_cons_succ]
          refine wpAnyH_take (i := 9) (oi := { dst := some 64, op := Go.Op.fieldAddr 26 (Go.Operand.tmp 7) 2, type := 0, pos := "ref.go:213", after := #[{ on := 0, ground := Go.Ground.phase }, { on := 1, ground := Go.Ground.phase }, { on := 2, ground := Go.Ground.phase }, { on := 3, ground := Go.Ground.phase }, { on := 4, ground := Go.Ground.phase }, { on := 5, ground := Go.Ground.phase }, { on := 6, ground := Go.Ground.phase }, { on := 7, ground := Go.Ground.phase }, { on := 8, ground := Go.Ground.phase }], guard := none }) (v := ?_) rfl (by kernel_rfl) (by kernel_rfl) (by kernel_rfl) (fun _ _ _ h => h) (Or.inl ⟨by rfl, ?_⟩) (by assumption) ?_
          rotate_left
          · intro w hSw
            try dsimp only at hSw
            go_simp
            try with_reducible rfl
          simp only [Act.put, List.setIfInBounds_toArray, List.set_cons_zero, List.set_cons_succ]
          refine wpAnyH_ready (rs := [10]) (by kernel_rfl) (by simp) ?_
          refine AllReadyH.cons (o := { dst := none, op := Go.Op.store 24 (Go.Operand.tmp 64) (Go.Operand.tmp 63), type := 0, pos := "ref.go:213", after := #[{ on := 9, ground := Go.Ground.data }, { on := 8, ground := Go.Ground.data }, { on := 8, ground := Go.Ground.chain }, { on := 0, ground := Go.Ground.phase }, { on := 1, ground := Go.Ground.phase }, { on := 2, ground := Go.Ground.phase }, { on := 3, ground := Go.Ground.phase }, { on := 4, ground := Go.Ground.phase }, { on := 5, ground := Go.Ground.phase }, { on := 6, ground := Go.Ground.phase }, { on := 7, ground := Go.Ground.phase }, { on := 8, ground := Go.Ground.phase }], guard := none }) rfl (fun K hK => ?_) (AllReadyH.nil)
          go_simp
          try go_wp2_with fail
          refine hK.out _ _ (HCT.out _ B9.out) (fun hHeld2 => ?_)
          clear hK K hHeld
          have hHeld := hHeld2
          clear hHeld2
          try simp only [Act.put, List.setIfInBounds_toArray, List.set_cons_zero, List.set_cons_succ]
          have M9 := hide HR.out.1
          clear HR s2 sf
          generalize w8.setCell ⟨mb, 2, none⟩ (.slice (some ⟨g8, 0, none⟩) ((others (t.take j) (k : Int)).length + 1) c8) = W9 at *
          refine wpAnyH_done (by kernel_rfl) ?_ _
          go_wp2
          go_roundw
          case rel => exact ⟨j + 1, _, _, _, by omega, by go_num, M9.out, B9.out⟩
          case measure => simp [intOf]; omega
        · have XA := new_below Y0 (.cells #[.int .i64 y.proc, .int .i64 y.due] 61)
          have HMA := hide (HM0.out.below XA)
          have BA := hide (C0.out.trans (XA.mono C0.out.size))
          have NA := hide (bl_alloc Y0 #[.int .i64 y.proc, .int .i64 y.due] 61)
          have ma2 := HMA.out.bl.cell 2 _ rfl
          clear XA
          go_simp
          refine hK.out _ _ (HCT.out _ BA.out) (fun hHeld2 => ?_)
          clear hK K hHeld
          have hHeld := hHeld2
          clear hHeld2
          try simp only [Act.put, List.setIfInBounds_toArray, List.set_cons_zero, List.set_cons_succ]
          generalize Y0.alloc (.cells #[.int .i64 y.proc, .int .i64 y.due] 61) = Y1 at *
          generalize Y0.heap.size = ya at *
          refine wpAnyH_ready (rs := [1]) (by kernel_rfl) (by simp) ?_
          refine AllReadyH.cons (o := { dst := some 56, op := Go.Op.load 24 (Go.Operand.tmp 55), type := 24, pos := "ref.go:213", after := #[{ on := 0, ground := Go.Ground.data }], guard := none }) rfl (fun K hK => ?_) (AllReadyH.nil)
          go_simp
          refine hK.out _ _ (HCT.out _ BA.out) (fun hHeld2 => ?_)
          clear hK K hHeld
          have hHeld := hHeld2
          clear hHeld2
          try simp only [Act.put, List.setIfInBounds_toArray, List.set_cons_zero, List.set_cons_succ]
          refine wpAnyH_ready (rs := [8]) (by kernel_rfl) (by simp) ?_
          refine AllReadyH.cons (o := { dst := some 63, op := Go.Op.call { callee := Go.Callee.builtin Go.Builtin.append, args := #[Go.Operand.tmp 56, Go.Operand.tmp 62], argTypes := #[24, 24] }, type := 24, pos := "ref.go:213", after := #[{ on := 1, ground := Go.Ground.data }, { on := 7, ground := Go.Ground.data }], guard := none }) rfl (fun K hK => ?_) (AllReadyH.nil)
          rw [if_pos (by rfl)]
          obtain ⟨i9, z9, h92, h93, h94, h95, h96⟩ := infoTimer
          refine wp_append_lies Y1 (.tmp 56) (.tmp 62) 24 rfl W0.heap.size 61 i9 z9 2 16 Tryz.underlying24 h92 h93 h94 h95 h96 (by decide) (.slice a n c) (others (t.take j) (k : Int)).length ((others (t.take j) (k : Int)).flatMap Tm.cells) rfl HMA.out.tab.t ⟨ya, 0, none⟩ 1 1 y.cells rfl rfl (fun i u hu => by rw [add_lit', Nat.zero_add]; exact NA.out.cell i u hu) (fun u hu => tm_one [y] u (by simpa using hu)) (by decide) (by have := LO.out; unfold maxLen; omega) (by have := LO.out; omega) BA.out.size _ rfl ?_
          intro g8 c8 w8 ho8 hg8 hat8 hlt8
          have hat9 : (Value.slice (some ⟨g8, 0, none⟩) ((others (t.take j) (k : Int)).length + 1) c8).ownBlock = (Value.slice a n c).ownBlock ∨ (Value.slice (some ⟨g8, 0, none⟩) ((others (t.take j) (k : Int)).length + 1) c8).ownBlock = some Y1.heap.size := hat8.elim (fun e => .inl e.symm) (fun e => .inr (congrArg some e))
          have ho9 : TOwn w8 W0.heap.size (.slice (some ⟨g8, 0, none⟩) ((others (t.take j) (k : Int)).length + 1) c8) (others (t.take (j + 1)) (k : Int)) := by
            rw [HN.out]
            unfold TOwn
            rw [List.length_append, List.flatMap_append]
            simpa using ho8
          have HR := hide (HMA.out.times hg8 ho9 hat9)
          have GB := HMA.out.bl.grown HMA.out.lt hg8 (fun e => HMA.out.f3 e.symm)
          have s2 := GB.cell 2 _ rfl
          have sf := GB.free 2
          have B8 := hide (BA.out.grown hg8 BA.out.size (fun i e => (HMA.out.tab.t.lt i e).1))
          have B9 := hide (BA.out.trans HR.out.2)
          clear ho8 hat8 hat9 ho9 GB hg8 hlt8 h92 h93 h94 h95 h96
          refine hK.out _ _ (HCT.out _ B8.out) (fun hHeld2 => ?_)
          clear hK K hHeld
          have hHeld := hHeld2
          clear hHeld2
          try simp only [Act.put, List.setIfInBounds_toArray, List.set_cons_zero, List.set_cons_succ]
          refine wpAnyH_take (i := 9) (oi := { dst := some 64, op := Go.Op.fieldAddr 26 (Go.Operand.tmp 7) 2, type := 0, pos := "ref.go:213", after := #[{ on := 0, ground := Go.Ground.phase }, { on := 1, ground := Go.Ground.phase }, { on := 2, ground := Go.Ground.phase }, { on := 3, ground := Go.Ground.phase }, { on := 4, ground := Go.Ground.phase }, { on := 5, ground := Go.Ground.phase }, { on := 6, ground := Go.Ground.phase }, { on := 7, ground := Go.Ground.phase }, { on := 8, ground := Go.Ground.phase }], guard := none }) (v := ?_) rfl (by kernel_rfl) (by kernel_rfl) (by kernel_rfl) (fun _ _ _ h => h) (Or.inl ⟨by rfl, ?_⟩) (by assumption) ?_
          rotate_left
          · intro w hSw
            try dsimp only at hSw
            go_simp
            try with_reducible rfl
          simp only [Act.put, List.setIfInBounds_toArray, List.set_cons_zero, List.set_cons_succ]
          refine wpAnyH_ready (rs := [10]) (by kernel_rfl) (by simp) ?_
          refine AllReadyH.cons (o := { dst := none, op := Go.Op.store 24 (Go.Operand.tmp 64) (Go.Operand.tmp 63), type := 0, pos := "ref.go:213", after := #[{ on := 9, ground := Go.Ground.data }, { on := 8, ground := Go.Ground.data }, { on := 8, ground := Go.Ground.chain }, { on := 0, ground := Go.Ground.phase }, { on := 1, ground := Go.Ground.phase }, { on := 2, ground := Go.Ground.phase }, { on := 3, ground := Go.Ground.phase }, { on := 4, ground := Go.Ground.phase }, { on := 5, ground := Go.Ground.phase }, { on := 6, ground := Go.Ground.phase }, { on := 7, ground := Go.Ground.phase }, { on := 8, ground := Go.Ground.phase }], guard := none }) rfl (fun K hK => ?_) (AllReadyH.nil)
          go_simp
          try go_wp2_with fail
          refine hK.out _ _ (HCT.out _ B9.out) (fun hHeld2 => ?_)
          clear hK K hHeld
          have hHeld := hHeld2
          clear hHeld2
          try simp only [Act.put, List.setIfInBounds_toArray, List.set_cons_zero, List.set_cons_succ]
          have M9 := hide HR.out.1
          clear HR s2 sf
          generalize w8.setCell ⟨mb, 2, none⟩ (.slice (some ⟨g8, 0, none⟩) ((others (t.take j) (k : Int)).length + 1) c8) = W9 at *
          refine wpAnyH_done (by kernel_rfl) ?_ _
          go_wp2
          go_roundw
          case rel => exact ⟨j + 1, _, _, _, by omega, by go_num, M9.out, B9.out⟩
          case measure => simp [intOf]; omega
      · have hne' : (y.proc != (k : Int)) = false := Bool.eq_false_iff.2 hne
        rw [if_neg hne, List.append_nil] at HN
        rw [← HN.out] at hM
        clear hne
        go_wp2
        go_roundw
        case rel => exact ⟨j + 1, a, n, c, by omega, by go_num, hM.out, hb.out⟩
        case measure => simp [intOf]; omega
    · obtain rfl : j = tn := by omega
      have HX : Hid (others (t.take j) (k : Int) = others t (k : Int)) := by unfold Hid; rw [← HLT.out, List.take_length]
      rw [HX.out] at hM
      have BG3 := hide (BG.out.below hl2.out hb.out)
      have B3 := hide (HB0.out.trans (hb.out.mono HB0.out.size))
      have R3 : List Value := [.slice (some ⟨g, 0, none⟩) l.length c1, .slice (some ⟨g7, 0, none⟩) (r.length + 1) c7, .slice a n c]
      have B4 := hide (below3 (g := w.heap.size + 1) (.slice (some ⟨g, 0, none⟩) l.length c1) (.slice (some ⟨g7, 0, none⟩) (r.length + 1) c7) (.slice a n c) B3.out (by omega))
      have G1 := hide (bl_three BG3.out (.slice (some ⟨g, 0, none⟩) l.length c1) (.slice (some ⟨g7, 0, none⟩) (r.length + 1) c7) (.slice a n c))
      have T1 := hide ((hM.out.tab.three (g := w.heap.size + 1) hl2.out (.slice (some ⟨g, 0, none⟩) l.length c1) (.slice (some ⟨g7, 0, none⟩) (r.length + 1) c7) (.slice a n c)).weaken HB0.out.size)
      have g0 := BG3.out.cell 0 _ rfl
      have g1 := BG3.out.cell 1 _ rfl
      have g2 := BG3.out.cell 2 _ rfl
      have f0 := BG3.out.free 0
      have f1 := BG3.out.free 1
      have f2 := BG3.out.free 2
      have m0 := hM.out.bl.cell 0 _ rfl
      have m1 := hM.out.bl.cell 1 _ rfl
      have m2 := hM.out.bl.cell 2 _ rfl
      clear R3
      go_wp2
      generalize ((wr.setCell ⟨w.heap.size + 1, 0, none⟩ (.slice (some ⟨g, 0, none⟩) l.length c1)).setCell ⟨w.heap.size + 1, 1, none⟩ (.slice (some ⟨g7, 0, none⟩) (r.length + 1) c7)).setCell ⟨w.heap.size + 1, 2, none⟩ (.slice a n c) = W9 at *
      have e0 := G1.out.cell 0 _ rfl
      have e1 := G1.out.cell 1 _ rfl
      have e2 := G1.out.cell 2 _ rfl
      (try simp only [Exit.inBlock, Exit.then])
      refine bodyPost_ret (v := .agg #[.slice (some ⟨g, 0, none⟩) l.length c1, .slice (some ⟨g7, 0, none⟩) (r.length + 1) c7, .slice a n c]) (by simp [results, Tryz.results27, go_sem, e0, e1, e2]) rfl ?_
      exact ⟨_, _, _, _, _, _, _, _, _, rfl, T1.out, B4.out⟩
end Go.Proofs.YtgbckpojoagbnaaGreatDoor
