/-
  The document's WakeAll and Fire.
-/
import Derived.Test.YtfbmlmdgonoflaaDoorWkWoken
import Derived.Test.YtfbmlmdgonoflaaDoorRyBest
import Derived.Test.YtfbmlmdgonoflaaDoorRyKeep
import Derived.Test.YtfbmlmdgonoflaaDoorWkFrom
namespace Go.Proofs.YtfbmlmdgonoflaaDoor
open Classical
open Go.RowKit
set_option linter.unusedVariables false
set_option linter.unusedSimpArgs false

/-- Another table, made since, in the box. -/
theorem mine_three {w w' : World} {base tb : Nat} {v1 v2 v3 u1 u2 u3 : Value} {l l' : List Pro} {r r' : List Int} {t t' : List Tm} (h : Mine w base tb v1 v2 v3 l r t) (hb : Below w.heap.size w w') (ht : Tab w' w.heap.size u1 u2 u3 l' r' t') :
    Mine (((w'.setCell ⟨tb, 0, none⟩ (u1)).setCell ⟨tb, 1, none⟩ (u2)).setCell ⟨tb, 2, none⟩ (u3)) base tb u1 u2 u3 l' r' t' ∧ Below base w (((w'.setCell ⟨tb, 0, none⟩ (u1)).setCell ⟨tb, 1, none⟩ (u2)).setCell ⟨tb, 2, none⟩ (u3)) := by
  have hbase : base ≤ w.heap.size := Nat.le_trans h.hb (Nat.le_of_lt h.lt)
  have far : ∀ {e : TypeId} {sz n : Nat} {v : Value} {cs : List Value}, w'.ownsRow w.heap.size e sz v n cs → v.ownBlock ≠ some tb := fun ho e => by
    have := (ho.lt _ e).1
    have := h.lt
    omega
  have hbl := h.bl.below h.lt hb
  obtain ⟨x, y, z, e⟩ : ∃ x y z, [v1, v2, v3] = [x, y, z] := ⟨_, _, _, rfl⟩
  refine ⟨⟨bl_three hbl u1 u2 u3, (ht.three (g := tb) h.lt u1 u2 u3).weaken hbase, far ht.p, far ht.r, far ht.t, h.hb, ?_⟩, below3 u1 u2 u3 (hb.mono hbase) h.hb⟩
  have h1 := h.lt
  have h2 := hb.size
  simp [World.setCell]
  omega

set_option maxRecDepth 100000 in
set_option maxHeartbeats 4000000 in
theorem rwakeAll_any (w : World) (pa : Option Addr) (pn pc : Nat) (l : List Pro) (hp : Pros w pa pn pc l) (ra : Option Addr) (rn rc : Nat) (r : List Int) (hr : Is w ra rn rc r) (ta : Option Addr) (tn tc : Nat) (t : List Tm) (ht : Tms w ta tn tc t) (wt ob x : Int) :
    Calls Tryd.prog 11 #[.agg #[.slice pa pn pc, .slice ra rn rc, .slice ta tn tc], .int .i64 wt, .int .i64 ob, .int .u32 x] w fun e w' => ∃ a1 n1 c1 a2 n2 c2 a3 n3 c3, e = .returned (.tuple #[.agg #[.slice a1 n1 c1, .slice a2 n2 c2, .slice a3 n3 c3], .int .i64 (ownE (Good l r t) : Int)]) ∧ Tab w' w.heap.size (.slice a1 n1 c1) (.slice a2 n2 c2) (.slice a3 n3 c3) (ownT (Good l r t) (wakeAll l r t (waitsOf l wt ob) x).1) (ownT (Good l r t) (wakeAll l r t (waitsOf l wt ob) x).2.1) (ownT (Good l r t) (wakeAll l r t (waitsOf l wt ob) x).2.2) ∧ Below w.heap.size w w' := by
  have X1 := new_below w (.cells #[.slice pa pn pc, .slice ra rn rc, .slice ta tn tc] 26)
  have X2 := new_below (w.alloc (.cells #[.slice pa pn pc, .slice ra rn rc, .slice ta tn tc] 26)) (.cells #[.slice none 0 0, .slice none 0 0, .slice none 0 0] 26)
  have BX0 : Bl (w.alloc (.cells #[.slice pa pn pc, .slice ra rn rc, .slice ta tn tc] 26)) w.heap.size [.slice pa pn pc, .slice ra rn rc, .slice ta tn tc] := bl_alloc w #[.slice pa pn pc, .slice ra rn rc, .slice ta tn tc] 26
  have BX := hide (BX0.below (by simp) X2)
  have BG : Hid (Bl ((w.alloc (.cells #[.slice pa pn pc, .slice ra rn rc, .slice ta tn tc] 26)).alloc (.cells #[.slice none 0 0, .slice none 0 0, .slice none 0 0] 26)) (w.heap.size + 1) [.slice none 0 0, .slice none 0 0, .slice none 0 0]) := by
    have := bl_alloc (w.alloc (.cells #[.slice pa pn pc, .slice ra rn rc, .slice ta tn tc] 26)) #[.slice none 0 0, .slice none 0 0, .slice none 0 0] 26
    rw [show (w.alloc (.cells #[.slice pa pn pc, .slice ra rn rc, .slice ta tn tc] 26)).heap.size = w.heap.size + 1 by simp] at this
    exact this
  have HB0 := hide (chain X1 X2)
  have hz : ((w.alloc (.cells #[.slice pa pn pc, .slice ra rn rc, .slice ta tn tc] 26)).alloc (.cells #[.slice none 0 0, .slice none 0 0, .slice none 0 0] 26)).heap.size = w.heap.size + 2 := by simp
  have HS := hide (hp.below HB0.out)
  have HI := hide (hr.below HB0.out)
  have HT := hide (ht.below HB0.out)
  have HL : Hid (l.length = pn) := hp.size
  have HLR : Hid (r.length = rn) := hr.size
  have HLT : Hid (t.length = tn) := ht.size
  clear X1 X2 BX0 hp hr ht
  go_enter Tryd.func11, Tryd.ntmps11
  go_upto_region 1 with fail
  generalize (w.alloc (.cells #[.slice pa pn pc, .slice ra rn rc, .slice ta tn tc] 26)).alloc (.cells #[.slice none 0 0, .slice none 0 0, .slice none 0 0] 26) = W0 at *
  have HZ := hide hz
  clear hz
  have hl1 : Hid (w.heap.size < W0.heap.size) := by unfold Hid; rw [HZ.out]; omega
  have hl2 : Hid (w.heap.size + 1 < W0.heap.size) := by unfold Hid; rw [HZ.out]; omega
  have b0 := BX.out.cell 0 _ rfl
  have b1 := BX.out.cell 1 _ rfl
  have b2 := BX.out.cell 2 _ rfl
  go_wp2_with fail
  refine Calls.mono (rrgood_any W0 pa pn pc l HS.out ra rn rc r HI.out ta tn tc t HT.out) ?_
  rintro e w1 ⟨rfl, x1⟩
  have B1 := hide (HB0.out.trans (x1.mono HB0.out.size))
  have BX1 := hide (BX.out.below hl1.out x1)
  have BG1 := hide (BG.out.below hl2.out x1)
  have hl3 : Hid (w.heap.size + 1 < w1.heap.size) := Nat.lt_of_lt_of_le hl2.out x1.size
  have HS1 := hide (HS.out.below x1)
  have HI1 := hide (HI.out.below x1)
  have HT1 := hide (HT.out.below x1)
  clear x1 b0 b1 b2 HS HI HT BX BG HZ
  by_cases hg : Good l r t
  case neg =>
    rw [decide_eq_false hg]
    have HO : Hid (ownE (Good l r t) = 9 ∧ ownT (Good l r t) (wakeAll l r t (waitsOf l wt ob) x).1 = [] ∧ ownT (Good l r t) (wakeAll l r t (waitsOf l wt ob) x).2.1 = [] ∧ ownT (Good l r t) (wakeAll l r t (waitsOf l wt ob) x).2.2 = []) := ⟨if_neg hg, if_neg hg, if_neg hg, if_neg hg⟩
    have BGF := hide BG1.out
    clear hg
    have G1 := hide (bl_three BGF.out (.slice none 0 0) (.slice none 0 0) (.slice none 0 0))
    have BF := hide (below3 (g := w.heap.size + 1) (.slice none 0 0) (.slice none 0 0) (.slice none 0 0) B1.out (by omega))
    have g0 := BGF.out.cell 0 _ rfl
    have g1 := BGF.out.cell 1 _ rfl
    have g2 := BGF.out.cell 2 _ rfl
    have f0 := BGF.out.free 0
    have f1 := BGF.out.free 1
    have f2 := BGF.out.free 2
    go_wp2
    generalize (((w1.setCell ⟨w.heap.size + 1, 0, none⟩ (.slice none 0 0)).setCell ⟨w.heap.size + 1, 1, none⟩ (.slice none 0 0)).setCell ⟨w.heap.size + 1, 2, none⟩ (.slice none 0 0)) = W9 at *
    have e0 := G1.out.cell 0 _ rfl
    have e1 := G1.out.cell 1 _ rfl
    have e2 := G1.out.cell 2 _ rfl
    (try simp only [Exit.inBlock, Exit.then])
    refine bodyPost_ret (v := .tuple #[.agg #[.slice none 0 0, .slice none 0 0, .slice none 0 0], .int .i64 9]) (by simp [results, Tryd.results11, go_sem, e0, e1, e2]) rfl ?_
    exact ⟨_, _, _, _, _, _, _, _, _, by rw [HO.out.1]; rfl, by rw [HO.out.2.1, HO.out.2.2.1, HO.out.2.2.2]; exact tab_nil _ _, BF.out⟩
  rw [decide_eq_true hg]
  have HO : Hid (ownE (Good l r t) = 0 ∧ ownT (Good l r t) (wakeAll l r t (waitsOf l wt ob) x).1 = (wakeAll l r t (waitsOf l wt ob) x).1 ∧ ownT (Good l r t) (wakeAll l r t (waitsOf l wt ob) x).2.1 = (wakeAll l r t (waitsOf l wt ob) x).2.1 ∧ ownT (Good l r t) (wakeAll l r t (waitsOf l wt ob) x).2.2 = (wakeAll l r t (waitsOf l wt ob) x).2.2) := ⟨if_pos hg, if_pos hg, if_pos hg, if_pos hg⟩
  have HR8 := hide (goodR_few hg.2.2.1 hg.1)
  have HT8 := hide hg.tfew
  have HL8 : Hid (l.length ≤ 8) := hg.1
  have HFL : Hid ((waitsOf l wt ob).length ≤ 8) := Nat.le_trans (waitsK_len l wt ob l.length) hg.1
  clear hg
  have b0 := BX1.out.cell 0 _ rfl
  have b1 := BX1.out.cell 1 _ rfl
  have b2 := BX1.out.cell 2 _ rfl
  go_wp2_with fail
  refine Calls.mono (rwaiters_any w1 pa pn pc l HS1.out ra rn rc ta tn tc wt ob (by have := HL8.out; have := HL.out; omega)) ?_
  rintro e w2 ⟨xv, rfl, hx, x2⟩
  obtain ⟨xa, xc, rfl, xi⟩ := iown_is hx
  have HXI := hide xi
  have HS2 := hide (HS1.out.below x2)
  have HI2 := hide (HI1.out.below x2)
  have HT2 := hide (HT1.out.below x2)
  have BX2 := hide (BX1.out.below (Nat.lt_of_succ_lt hl3.out) x2)
  have BG2 := hide (BG1.out.below hl3.out x2)
  have hl4 : Hid (w.heap.size + 1 < w2.heap.size) := Nat.lt_of_lt_of_le hl3.out x2.size
  have B2 := hide (chain B1.out x2)
  clear x2 hx xi b0 b1 b2 HS1 HI1 HT1 BX1 BG1 B1
  have b0 := BX2.out.cell 0 _ rfl
  have b1 := BX2.out.cell 1 _ rfl
  have b2 := BX2.out.cell 2 _ rfl
  go_wp2_with fail
  refine Calls.mono (rcopied_any w2 pa pn pc l HS2.out ra rn rc r HI2.out ta tn tc t HT2.out (by have := HL.out; have := HL8.out; omega) (by have := HLR.out; have := HR8.out; omega) (by have := HLT.out; have := HT8.out; omega)) ?_
  rintro e w3 ⟨a1, c1, a2, c2, a3, c3, rfl, htab, x3⟩
  have X3 := new_below w3 (.cells #[.slice a1 l.length c1, .slice a2 r.length c2, .slice a3 t.length c3] 26)
  have B3 := hide (chain x3 X3)
  have M0 := hide (mine_new htab x3.size 26)
  clear X3 x3 htab b0 b1 b2
  go_upto_region 5 with fail
  generalize w3.alloc (.cells #[.slice a1 l.length c1, .slice a2 r.length c2, .slice a3 t.length c3] 26) = V0 at *
  generalize w3.heap.size = mb at *
  go_wp2
  go_loopw [12] (fun i wr => ∃ (k : Nat) (a1 : Option Addr) (n1 c1 : Nat) (a2 : Option Addr) (n2 c2 : Nat) (a3 : Option Addr) (n3 c3 : Nat), k ≤ (waitsOf l wt ob).length ∧ i = .int .i64 (k : Int) ∧ Hid (Mine wr w2.heap.size mb (.slice a1 n1 c1) (.slice a2 n2 c2) (.slice a3 n3 c3) (wakeAll l r t ((waitsOf l wt ob).take k) x).1 (wakeAll l r t ((waitsOf l wt ob).take k) x).2.1 (wakeAll l r t ((waitsOf l wt ob).take k) x).2.2) ∧ Hid (Below w2.heap.size w2 wr)) (fun i _ => (waitsOf l wt ob).length - (intOf i).toNat)
  case atStart => exact ⟨0, _, _, _, _, _, _, _, _, _, by omega, rfl, M0.out, B3.out⟩
  case round =>
    clear M0 B3
    obtain ⟨k, a1, n1, c1, a2, n2, c2, a3, n3, c3, hk, rfl, hM, hb⟩ := hrel
    have HF8' := HFL.out
    by_cases hlt : k < (waitsOf l wt ob).length
    · obtain ⟨i, hi⟩ : ∃ i, (waitsOf l wt ob)[k]? = some i := ⟨_, List.getElem?_eq_getElem hlt⟩
      have hii := waits_in i (List.mem_of_getElem? hi)
      obtain ⟨m, rfl⟩ := Int.eq_ofNat_of_zero_le hii.1
      obtain ⟨b, off, rfl, xr⟩ := HXI.out.at ci1 (by decide) hi
      have x0 := xr 0 _ rfl
      simp only [Nat.add_zero, Nat.mul_one] at x0
      have HX0 := hide x0
      have HBB : Hid (b < w2.heap.size) := block_lt_of_cell x0
      have HPL : Hid ((wakeAll l r t ((waitsOf l wt ob).take k) x).1.length = l.length) := wakeAll_len l r t x _
      have HRL : Hid ((wakeAll l r t ((waitsOf l wt ob).take k) x).2.1.length ≤ 1000) := by
        unfold Hid
        rw [wakeAll_rdy, List.length_append, List.length_take]
        have := HR8.out
        omega
      have HTL : Hid ((wakeAll l r t ((waitsOf l wt ob).take k) x).2.2.length ≤ 8) := Nat.le_trans (wakeAll_tms l r t x _).length_le HT8.out
      obtain ⟨q, hq⟩ : ∃ q, (wakeAll l r t ((waitsOf l wt ob).take k) x).1[m]? = some q := ⟨_, List.getElem?_eq_getElem (by rw [HPL.out]; omega)⟩
      have HST := hide (wakeAll_take l r t x hi)
      rw [wakeStep_of hq] at HST
      have HQ := hide hq
      have hk1 : (k : Int) < ((waitsOf l wt ob).length : Int) := by omega
      clear xr hi hii hq x0
      go_upto_region 8 with fail
      have HSX : Hid (∀ wz, Below w2.heap.size w2 wz → (fun wz => wz.cell? ⟨b, off + k, none⟩ = some (.int .i64 (m : Int))) wz) := fun wz hz => by
        have := hz.cell (p := ⟨b, off + k, none⟩) HBB.out
        exact this.trans HX0.out
      have C0 : Hid (Below w2.heap.size w2 wr.drew) := hb.out.drew
      have HM0 := hide (hM.out.below (Below.refl _ _).drew)
      refine wp_region_held_drew (S := fun wz => wz.cell? ⟨b, off + k, none⟩ = some (.int .i64 (m : Int))) (by kernel_rfl) (HSX.out _ C0.out) (fun hHeld => ?_)
      generalize wr.drew = Y0 at *
      refine wpAnyH_take (i := 1) (oi := { dst := some 30, op := Go.Op.move (Go.Operand.tmp 10), type := 23, pos := "ref.go:309", after := #[], guard := none }) (v := ?_) rfl (by kernel_rfl) (by kernel_rfl) (by kernel_rfl) (fun _ _ _ h => h) (Or.inl ⟨by rfl, ?_⟩) (by assumption) ?_
      rotate_left
      · intro w hSw
        try dsimp only at hSw
        go_simp
        try with_reducible rfl
      simp only [Act.put, List.setIfInBounds_toArray, List.set_cons_zero, List.set_cons_succ]
      refine wpAnyH_take (i := 2) (oi := { dst := some 31, op := Go.Op.move (Go.Operand.tmp 12), type := 3, pos := "ref.go:309", after := #[], guard := none }) (v := ?_) rfl (by kernel_rfl) (by kernel_rfl) (by kernel_rfl) (fun _ _ _ h => h) (Or.inl ⟨by rfl, ?_⟩) (by assumption) ?_
      rotate_left
      · intro w hSw
        try dsimp only at hSw
        go_simp
        try with_reducible rfl
      simp only [Act.put, List.setIfInBounds_toArray, List.set_cons_zero, List.set_cons_succ]
      refine wpAnyH_take (i := 3) (oi := { dst := some 32, op := Go.Op.indexAddr 23 (Go.Operand.tmp 30) (Go.Operand.tmp 31), type := 0, pos := "ref.go:309", after := #[{ on := 1, ground := Go.Ground.data }, { on := 2, ground := Go.Ground.data }], guard := none }) (v := ?_) rfl (by kernel_rfl) (by kernel_rfl) (by kernel_rfl) (fun _ _ _ h => h) (Or.inl ⟨by rfl, ?_⟩) (by assumption) ?_
      rotate_left
      · intro w hSw
        try dsimp only at hSw
        go_simp
        try with_reducible rfl
      simp only [Act.put, List.setIfInBounds_toArray, List.set_cons_zero, List.set_cons_succ]
      refine wpAnyH_take (i := 4) (oi := { dst := some 33, op := Go.Op.load 3 (Go.Operand.tmp 32), type := 3, pos := "ref.go:309", after := #[{ on := 3, ground := Go.Ground.data }], guard := none }) (v := ?_) rfl (by kernel_rfl) (by kernel_rfl) (by kernel_rfl) (fun _ _ _ h => h) (Or.inl ⟨by rfl, ?_⟩) (by assumption) ?_
      rotate_left
      · intro w hSw
        try dsimp only at hSw
        go_simp
        try with_reducible rfl
      simp only [Act.put, List.setIfInBounds_toArray, List.set_cons_zero, List.set_cons_succ]
      refine wpAnyH_take (i := 5) (oi := { dst := some 34, op := Go.Op.move (Go.Operand.tmp 3), type := 27, pos := "ref.go:309", after := #[], guard := none }) (v := ?_) rfl (by kernel_rfl) (by kernel_rfl) (by kernel_rfl) (fun _ _ _ h => h) (Or.inl ⟨by rfl, ?_⟩) (by assumption) ?_
      rotate_left
      · intro w hSw
        try dsimp only at hSw
        go_simp
        try with_reducible rfl
      simp only [Act.put, List.setIfInBounds_toArray, List.set_cons_zero, List.set_cons_succ]
      have m0 := HM0.out.bl.cell 0 _ rfl
      have m1 := HM0.out.bl.cell 1 _ rfl
      have m2 := HM0.out.bl.cell 2 _ rfl
      refine wpAnyH_ready (rs := [0]) (by kernel_rfl) (by simp) ?_
      refine AllReadyH.cons (o := { dst := some 29, op := Go.Op.load 26 (Go.Operand.tmp 11), type := 26, pos := "ref.go:309", after := #[], guard := none }) rfl (fun K hK => ?_) (AllReadyH.nil)
      go_simp
      try go_wp2_with fail
      refine hK.out _ _ (HSX.out _ C0.out) (fun hHeld2 => ?_)
      clear hK K hHeld
      have hHeld := hHeld2
      clear hHeld2
      try simp only [Act.put, List.setIfInBounds_toArray, List.set_cons_zero, List.set_cons_succ]
      clear m0 m1 m2
      refine wpAnyH_ready (rs := [6]) (by kernel_rfl) (by simp) ?_
      refine AllReadyH.cons (o := { dst := some 35, op := Go.Op.call { callee := Go.Callee.value (Go.Operand.func 22), args := #[Go.Operand.tmp 29, Go.Operand.tmp 33, Go.Operand.tmp 34], argTypes := #[26, 3, 27] }, type := 26, pos := "ref.go:309", after := #[{ on := 0, ground := Go.Ground.data }, { on := 4, ground := Go.Ground.data }, { on := 5, ground := Go.Ground.data }], guard := none }) rfl (fun K hK => ?_) (AllReadyH.nil)
      go_simp
      go_at_call 22
      obtain ⟨hq1, hq2, hq3⟩ := tab_lists HM0.out.tab
      refine (rwoken_any Y0 a1 n1 c1 _ hq1 a2 n2 c2 _ hq2 a3 n3 c3 _ hq3 (by have := hq1.size; have := HPL.out; have := HL8.out; omega) (by have := hq2.size; have := HRL.out; omega) (by have := hq3.size; have := HTL.out; omega) m q HQ.out x).mono ?_
      rintro e y5 ⟨v1, m1, d1, v2, m2, d2, v3, m3, d3, rfl, htab, bi⟩
      have htab : Tab y5 Y0.heap.size (.slice v1 m1 d1) (.slice v2 m2 d2) (.slice v3 m3 d3) (wakeAll l r t ((waitsOf l wt ob).take (k + 1)) x).1 (wakeAll l r t ((waitsOf l wt ob).take (k + 1)) x).2.1 (wakeAll l r t ((waitsOf l wt ob).take (k + 1)) x).2.2 := by rw [HST.out]; exact htab
      have X5 := hide (mine_three HM0.out bi htab)
      have MB5 := HM0.out.bl.below HM0.out.lt bi
      have C1 := hide (C0.out.trans (bi.mono C0.out.size))
      have C2 := hide (C0.out.trans X5.out.2)
      clear htab bi hq1 hq2 hq3
      refine hK.out _ _ (HSX.out _ C1.out) (fun hHeld2 => ?_)
      clear hK K hHeld
      have hHeld := hHeld2
      clear hHeld2
      try simp only [Act.put, List.setIfInBounds_toArray, List.set_cons_zero, List.set_cons_succ]
      have s0 := MB5.cell 0 _ rfl
      have s1 := MB5.cell 1 _ rfl
      have s2 := MB5.cell 2 _ rfl
      have f0 := MB5.free 0
      have f1 := MB5.free 1
      have f2 := MB5.free 2
      refine wpAnyH_ready (rs := [7]) (by kernel_rfl) (by simp) ?_
      refine AllReadyH.cons (o := { dst := none, op := Go.Op.store 26 (Go.Operand.tmp 11) (Go.Operand.tmp 35), type := 0, pos := "ref.go:309", after := #[{ on := 6, ground := Go.Ground.data }, { on := 6, ground := Go.Ground.chain }, { on := 0, ground := Go.Ground.phase }, { on := 1, ground := Go.Ground.phase }, { on := 2, ground := Go.Ground.phase }, { on := 3, ground := Go.Ground.phase }, { on := 4, ground := Go.Ground.phase }, { on := 5, ground := Go.Ground.phase }, { on := 6, ground := Go.Ground.phase }], guard := none }) rfl (fun K hK => ?_) (AllReadyH.nil)
      go_simp
      try go_wp2_with fail
      refine hK.out _ _ (HSX.out _ C2.out) (fun hHeld2 => ?_)
      clear hK K hHeld
      have hHeld := hHeld2
      clear hHeld2
      try simp only [Act.put, List.setIfInBounds_toArray, List.set_cons_zero, List.set_cons_succ]
      have M9 := hide X5.out.1
      clear X5 s0 s1 s2 f0 f1 f2 MB5
      generalize (((y5.setCell ⟨mb, 0, none⟩ (.slice v1 m1 d1)).setCell ⟨mb, 1, none⟩ (.slice v2 m2 d2)).setCell ⟨mb, 2, none⟩ (.slice v3 m3 d3)) = W9 at *
      refine wpAnyH_done (by kernel_rfl) ?_ _
      go_wp2
      go_roundw
      case rel => exact ⟨k + 1, _, _, _, _, _, _, _, _, _, by omega, by go_num, M9.out, C2.out⟩
      case measure => simp [intOf]; omega
    · obtain rfl : k = (waitsOf l wt ob).length := by omega
      rw [List.take_length] at hM
      have BGF := hide (BG2.out.below hl4.out hb.out)
      have BW := hide (B2.out.trans (hb.out.mono B2.out.size))
      have m0 := hM.out.bl.cell 0 _ rfl
      have m1 := hM.out.bl.cell 1 _ rfl
      have m2 := hM.out.bl.cell 2 _ rfl
      have T1 := hide ((hM.out.tab.three (g := w.heap.size + 1) hl4.out (.slice a1 n1 c1) (.slice a2 n2 c2) (.slice a3 n3 c3)).weaken B2.out.size)
      have G1 := hide (bl_three BGF.out (.slice a1 n1 c1) (.slice a2 n2 c2) (.slice a3 n3 c3))
      have BF := hide (below3 (g := w.heap.size + 1) (.slice a1 n1 c1) (.slice a2 n2 c2) (.slice a3 n3 c3) BW.out (by omega))
      have g0 := BGF.out.cell 0 _ rfl
      have g1 := BGF.out.cell 1 _ rfl
      have g2 := BGF.out.cell 2 _ rfl
      have f0 := BGF.out.free 0
      have f1 := BGF.out.free 1
      have f2 := BGF.out.free 2
      go_wp2
      generalize (((wr.setCell ⟨w.heap.size + 1, 0, none⟩ (.slice a1 n1 c1)).setCell ⟨w.heap.size + 1, 1, none⟩ (.slice a2 n2 c2)).setCell ⟨w.heap.size + 1, 2, none⟩ (.slice a3 n3 c3)) = W9 at *
      have e0 := G1.out.cell 0 _ rfl
      have e1 := G1.out.cell 1 _ rfl
      have e2 := G1.out.cell 2 _ rfl
      (try simp only [Exit.inBlock, Exit.then])
      refine bodyPost_ret (v := .tuple #[.agg #[.slice a1 n1 c1, .slice a2 n2 c2, .slice a3 n3 c3], .int .i64 0]) (by simp [results, Tryd.results11, go_sem, e0, e1, e2]) rfl ?_
      exact ⟨_, _, _, _, _, _, _, _, _, by rw [HO.out.1]; rfl, by rw [HO.out.2.1, HO.out.2.2.1, HO.out.2.2.2]; exact T1.out, BF.out⟩

def slen : Value → Nat
  | .slice _ n _ => n
  | _ => 0
theorem Mine.keep {w w' : World} {base tb : Nat} {v1 v2 v3 : Value} {l : List Pro} {r : List Int} {t : List Tm} {row : Option Nat} (h : Mine w base tb v1 v2 v3 l r t) (hg : w.grownBy w' row) (n0 : some tb ≠ row) (n1 : v1.ownBlock = none ∨ v1.ownBlock ≠ row) (n2 : v2.ownBlock = none ∨ v2.ownBlock ≠ row) (n3 : v3.ownBlock = none ∨ v3.ownBlock ≠ row) : Mine w' base tb v1 v2 v3 l r t :=
  ⟨h.bl.grown h.lt hg n0, ⟨h.tab.p.kept hg n1, h.tab.r.kept hg n2, h.tab.t.kept hg n3, h.tab.s12, h.tab.s13, h.tab.s23⟩, h.f1, h.f2, h.f3, h.hb, Nat.lt_of_lt_of_le h.lt hg.size⟩
theorem iown_far3 {w : World} {base : Nat} {v : Value} {l : List Int} (h : IOwn w base v l) {g : Nat} (hg : v.ownBlock ≠ some g) (x y z : Value) : IOwn (((w.setCell ⟨g, 0, none⟩ x).setCell ⟨g, 1, none⟩ y).setCell ⟨g, 2, none⟩ z) base v l :=
  ownsRow_far (ownsRow_far (ownsRow_far h (p := ⟨g, 0, none⟩) hg x) (p := ⟨g, 1, none⟩) hg y) (p := ⟨g, 2, none⟩) hg z
theorem fired_cut {t : List Tm} {now : Int} {k : Nat} (ho : Ord t) (h1 : ∀ y ∈ t.take k, y.due ≤ now) (h2 : ∀ y, t[k]? = some y → now < y.due) : firedI t now = (t.take k).map Tm.proc ∧ left t now = t.drop k := by
  have h3 : ∀ y ∈ t.drop k, now < y.due := by
    intro y hy
    cases hd : t.drop k with
    | nil => rw [hd] at hy; simp at hy
    | cons z s =>
      have hz : t[k]? = some z := by
        have := congrArg (fun l => l[0]?) hd
        simpa using this
      have h4 := h2 z hz
      have ho' : Ord (z :: s) := by
        rw [← hd]
        exact List.Pairwise.sublist (List.drop_sublist k t) ho
      rw [hd] at hy
      rcases List.mem_cons.1 hy with rfl | hy
      · exact h4
      · have := (Tm.le_iff _ _).1 ((List.pairwise_cons.1 ho').1 y hy)
        omega
  have e : t = t.take k ++ t.drop k := (List.take_append_drop k t).symm
  constructor
  · unfold firedI fired
    conv => lhs; rw [e]
    rw [List.filter_append, List.filter_eq_self.2 (fun y hy => by simpa using h1 y hy), List.filter_eq_nil_iff.2 (fun y hy => by have := h3 y hy; simp; omega), List.append_nil]
  · unfold left
    conv => lhs; rw [e]
    rw [List.filter_append, List.filter_eq_nil_iff.2 (fun y hy => by have := h1 y hy; simp; omega), List.filter_eq_self.2 (fun y hy => by have := h3 y hy; simp; omega), List.nil_append]

set_option maxRecDepth 100000 in
set_option maxHeartbeats 4000000 in
theorem rfire_any (w : World) (pa : Option Addr) (pn pc : Nat) (l : List Pro) (hp : Pros w pa pn pc l) (ra : Option Addr) (rn rc : Nat) (r : List Int) (hr : Is w ra rn rc r) (ta : Option Addr) (tn tc : Nat) (t : List Tm) (ht : Tms w ta tn tc t) (now : Int) :
    Calls Tryd.prog 12 #[.agg #[.slice pa pn pc, .slice ra rn rc, .slice ta tn tc], .int .i64 now] w fun e w' => ∃ a1 n1 c1 a2 n2 c2 a3 n3 c3 xv, e = .returned (.tuple #[.agg #[.slice a1 n1 c1, .slice a2 n2 c2, .slice a3 n3 c3], xv, .int .i64 (ownE (Good l r t) : Int)]) ∧ Tab w' w.heap.size (.slice a1 n1 c1) (.slice a2 n2 c2) (.slice a3 n3 c3) (ownT (Good l r t) (fireAll l r (firedI t now)).1) (ownT (Good l r t) (fireAll l r (firedI t now)).2) (ownT (Good l r t) (left t now)) ∧ IOwn w' w.heap.size xv (ownT (Good l r t) (firedI t now)) ∧ Below w.heap.size w w' := by
  have X1 := new_below w (.cells #[.slice pa pn pc, .slice ra rn rc, .slice ta tn tc] 26)
  have X2 := new_below (w.alloc (.cells #[.slice pa pn pc, .slice ra rn rc, .slice ta tn tc] 26)) (.cells #[.slice none 0 0, .slice none 0 0, .slice none 0 0] 26)
  have BX0 : Bl (w.alloc (.cells #[.slice pa pn pc, .slice ra rn rc, .slice ta tn tc] 26)) w.heap.size [.slice pa pn pc, .slice ra rn rc, .slice ta tn tc] := bl_alloc w #[.slice pa pn pc, .slice ra rn rc, .slice ta tn tc] 26
  have BX := hide (BX0.below (by simp) X2)
  have BG : Hid (Bl ((w.alloc (.cells #[.slice pa pn pc, .slice ra rn rc, .slice ta tn tc] 26)).alloc (.cells #[.slice none 0 0, .slice none 0 0, .slice none 0 0] 26)) (w.heap.size + 1) [.slice none 0 0, .slice none 0 0, .slice none 0 0]) := by
    have := bl_alloc (w.alloc (.cells #[.slice pa pn pc, .slice ra rn rc, .slice ta tn tc] 26)) #[.slice none 0 0, .slice none 0 0, .slice none 0 0] 26
    rw [show (w.alloc (.cells #[.slice pa pn pc, .slice ra rn rc, .slice ta tn tc] 26)).heap.size = w.heap.size + 1 by simp] at this
    exact this
  have HB0 := hide (chain X1 X2)
  have hz : ((w.alloc (.cells #[.slice pa pn pc, .slice ra rn rc, .slice ta tn tc] 26)).alloc (.cells #[.slice none 0 0, .slice none 0 0, .slice none 0 0] 26)).heap.size = w.heap.size + 2 := by simp
  have HS := hide (hp.below HB0.out)
  have HI := hide (hr.below HB0.out)
  have HT := hide (ht.below HB0.out)
  have HL : Hid (l.length = pn) := hp.size
  have HLR : Hid (r.length = rn) := hr.size
  have HLT : Hid (t.length = tn) := ht.size
  clear X1 X2 BX0 hp hr ht
  go_enter Tryd.func12, Tryd.ntmps12
  go_upto_region 1 with fail
  generalize (w.alloc (.cells #[.slice pa pn pc, .slice ra rn rc, .slice ta tn tc] 26)).alloc (.cells #[.slice none 0 0, .slice none 0 0, .slice none 0 0] 26) = W0 at *
  have HZ := hide hz
  clear hz
  have hl1 : Hid (w.heap.size < W0.heap.size) := by unfold Hid; rw [HZ.out]; omega
  have hl2 : Hid (w.heap.size + 1 < W0.heap.size) := by unfold Hid; rw [HZ.out]; omega
  have b0 := BX.out.cell 0 _ rfl
  have b1 := BX.out.cell 1 _ rfl
  have b2 := BX.out.cell 2 _ rfl
  go_wp2_with fail
  refine Calls.mono (rrgood_any W0 pa pn pc l HS.out ra rn rc r HI.out ta tn tc t HT.out) ?_
  rintro e w1 ⟨rfl, x1⟩
  have B1 := hide (HB0.out.trans (x1.mono HB0.out.size))
  have BX1 := hide (BX.out.below hl1.out x1)
  have BG1 := hide (BG.out.below hl2.out x1)
  have hl3 : Hid (w.heap.size + 1 < w1.heap.size) := Nat.lt_of_lt_of_le hl2.out x1.size
  have HS1 := hide (HS.out.below x1)
  have HI1 := hide (HI.out.below x1)
  have HT1 := hide (HT.out.below x1)
  clear x1 b0 b1 b2 HS HI HT BX BG HZ
  by_cases hg : Good l r t
  case neg =>
    rw [decide_eq_false hg]
    have HO : Hid (ownE (Good l r t) = 9 ∧ ownT (Good l r t) (fireAll l r (firedI t now)).1 = [] ∧ ownT (Good l r t) (fireAll l r (firedI t now)).2 = [] ∧ ownT (Good l r t) (left t now) = [] ∧ ownT (Good l r t) (firedI t now) = []) := ⟨if_neg hg, if_neg hg, if_neg hg, if_neg hg, if_neg hg⟩
    have BGF := hide BG1.out
    clear hg
    have G1 := hide (bl_three BGF.out (.slice none 0 0) (.slice none 0 0) (.slice none 0 0))
    have BF := hide (below3 (g := w.heap.size + 1) (.slice none 0 0) (.slice none 0 0) (.slice none 0 0) B1.out (by omega))
    have g0 := BGF.out.cell 0 _ rfl
    have g1 := BGF.out.cell 1 _ rfl
    have g2 := BGF.out.cell 2 _ rfl
    have f0 := BGF.out.free 0
    have f1 := BGF.out.free 1
    have f2 := BGF.out.free 2
    go_wp2
    generalize (((w1.setCell ⟨w.heap.size + 1, 0, none⟩ (.slice none 0 0)).setCell ⟨w.heap.size + 1, 1, none⟩ (.slice none 0 0)).setCell ⟨w.heap.size + 1, 2, none⟩ (.slice none 0 0)) = W9 at *
    have e0 := G1.out.cell 0 _ rfl
    have e1 := G1.out.cell 1 _ rfl
    have e2 := G1.out.cell 2 _ rfl
    (try simp only [Exit.inBlock, Exit.then])
    refine bodyPost_ret (v := .tuple #[.agg #[.slice none 0 0, .slice none 0 0, .slice none 0 0], .slice none 0 0, .int .i64 9]) (by simp [results, Tryd.results12, go_sem, e0, e1, e2]) rfl ?_
    exact ⟨_, _, _, _, _, _, _, _, _, _, by rw [HO.out.1]; rfl, by rw [HO.out.2.1, HO.out.2.2.1, HO.out.2.2.2.1]; exact tab_nil _ _, by rw [HO.out.2.2.2.2]; exact iown_nil _ _, BF.out⟩
  rw [decide_eq_true hg]
  have HO : Hid (ownE (Good l r t) = 0 ∧ ownT (Good l r t) (fireAll l r (firedI t now)).1 = (fireAll l r (firedI t now)).1 ∧ ownT (Good l r t) (fireAll l r (firedI t now)).2 = (fireAll l r (firedI t now)).2 ∧ ownT (Good l r t) (left t now) = left t now ∧ ownT (Good l r t) (firedI t now) = firedI t now) := ⟨if_pos hg, if_pos hg, if_pos hg, if_pos hg, if_pos hg⟩
  have HR8 := hide (goodR_few hg.2.2.1 hg.1)
  have HT8 := hide hg.tfew
  have HL8 : Hid (l.length ≤ 8) := hg.1
  have HGD := hide hg
  have HJ := hide infoInt
  clear hg
  have b0 := BX1.out.cell 0 _ rfl
  have b1 := BX1.out.cell 1 _ rfl
  have b2 := BX1.out.cell 2 _ rfl
  go_wp2_with fail
  refine Calls.mono (rcopied_any w1 pa pn pc l HS1.out ra rn rc r HI1.out ta tn tc t HT1.out (by have := HL.out; have := HL8.out; omega) (by have := HLR.out; have := HR8.out; omega) (by have := HLT.out; have := HT8.out; omega)) ?_
  rintro e w3 ⟨a1, c1, a2, c2, a3, c3, rfl, htab, x3⟩
  have X3 := new_below w3 (.cells #[.slice a1 l.length c1, .slice a2 r.length c2, .slice a3 t.length c3] 26)
  have B3 := hide (chain x3 X3)
  have M0 := hide (mine_new htab x3.size 26)
  clear X3 x3 htab b0 b1 b2
  go_upto_region 4 with fail
  generalize w3.alloc (.cells #[.slice a1 l.length c1, .slice a2 r.length c2, .slice a3 t.length c3] 26) = V0 at *
  generalize w3.heap.size = mb at *
  go_wp2
  go_loopw [8] (fun o wr => ∃ (k : Nat) (a1 : Option Addr) (n1 c1 : Nat) (a2 : Option Addr) (n2 c2 : Nat) (a3 : Option Addr) (n3 c3 : Nat), k ≤ t.length ∧ Hid (Mine wr w1.heap.size mb (.slice a1 n1 c1) (.slice a2 n2 c2) (.slice a3 n3 c3) (fireAll l r ((t.take k).map Tm.proc)).1 (fireAll l r ((t.take k).map Tm.proc)).2 (t.drop k)) ∧ Hid (IOwn wr w1.heap.size o ((t.take k).map Tm.proc)) ∧ Hid (o.ownBlock ≠ some mb) ∧ Hid (Sep (.slice a2 n2 c2) o) ∧ Hid (∀ y ∈ t.take k, y.due ≤ now) ∧ Hid (Below w1.heap.size w1 wr)) (fun o _ => t.length - slen o)
  case atStart => exact ⟨0, _, _, _, _, _, _, _, _, _, by omega, M0.out, iown_nil _ _, by unfold Hid; simp [Value.ownBlock], (sep_nil _).symm, by unfold Hid; simp, B3.out⟩
  case round =>
    clear M0 B3
    obtain ⟨k, a1, n1, c1, a2, n2, c2, a3, n3, c3, hk, hM, hO, hF, hS, hD, hb⟩ := hrel
    obtain ⟨oa, oc, rfl, -⟩ := iown_is hO.out
    obtain ⟨on, hon⟩ : ∃ on, ((t.take k).map Tm.proc).length = on := ⟨_, rfl⟩
    have HON := hide hon
    rw [hon] at hO hF hS ⊢
    clear hon
    have HOK : Hid (on = k) := by
      have := HON.out
      rw [List.length_map, List.length_take] at this
      unfold Hid
      omega
    obtain ⟨lq1, lq2, lq3⟩ := tab_lists hM.out.tab
    have HQ1 := hide lq1
    have HQ2 := hide lq2
    have HQ3 := hide lq3
    have HN3 : Hid (n3 = t.length - k) := by have := lq3.size; rw [List.length_drop] at this; exact this.symm
    have m2 := hM.out.bl.cell 2 _ rfl
    clear lq1 lq2 lq3
    by_cases hlt : k < t.length
    · obtain ⟨y, hy⟩ : ∃ y, t[k]? = some y := ⟨_, List.getElem?_eq_getElem hlt⟩
      have hdr : (t.drop k)[0]? = some y := by rw [List.getElem?_drop]; simpa using hy
      obtain ⟨b, off, rfl, xr⟩ := HQ3.out.at tm2 (by decide) hdr
      have y0 := xr 0 _ rfl
      have y1 := xr 1 _ rfl
      simp only [Nat.zero_mul, Nat.add_zero] at y0 y1
      have hn3 : (0 : Int) < (n3 : Int) := by have := HN3.out; omega
      by_cases hdue : y.due ≤ now
      · have dd : decide (y.due ≤ now) = true := decide_eq_true hdue
        have hin := HGD.out.2.2.2.1.1 y (List.mem_of_getElem? hy)
        unfold Tm.In at hin
        obtain ⟨m, hm⟩ := Int.eq_ofNat_of_zero_le hin.1
        have hml : m < l.length := by have := hin.2.1; omega
        have HPL : Hid ((fireAll l r ((t.take k).map Tm.proc)).1.length = l.length) := fireAll_len r _ l
        have HRL : Hid ((fireAll l r ((t.take k).map Tm.proc)).2.length ≤ 1000) := by
          unfold Hid
          rw [fireAll_rdy, List.length_append, HON.out, HOK.out]
          have := HR8.out
          have := HT8.out
          omega
        obtain ⟨q, hq⟩ : ∃ q, (fireAll l r ((t.take k).map Tm.proc)).1[m]? = some q := ⟨_, List.getElem?_eq_getElem (by rw [HPL.out]; exact hml)⟩
        have HQ := hide hq
        have HTK : Hid ((t.take (k + 1)).map Tm.proc = (t.take k).map Tm.proc ++ [(m : Int)]) := by
          unfold Hid
          rw [take_snoc hy, List.map_append, List.map_cons, List.map_nil, hm]
        have HST : Hid (fireAll l r ((t.take (k + 1)).map Tm.proc) = ((fireAll l r ((t.take k).map Tm.proc)).1.set m (wokenP q (lateR q)), (fireAll l r ((t.take k).map Tm.proc)).2 ++ [(m : Int)])) := by
          unfold Hid
          rw [HTK.out, ← fireStep_of (s := (fireAll l r ((t.take k).map Tm.proc))) hq]
          unfold fireAll
          rw [List.foldl_append]
          rfl
        have HOT : Hid (others (t.drop k) (m : Int) = t.drop (k + 1)) := by
          unfold Hid
          have e : t.drop k = y :: t.drop (k + 1) := by
            rw [List.drop_eq_getElem_cons hlt]
            congr 1
            exact (List.getElem?_eq_some_iff.1 hy).2
          rw [e, ← hm]
          refine others_head ?_
          rw [← e]
          have h0 := HGD.out.2.2.2.1.2.1
          unfold Nod at h0 ⊢
          exact h0.sublist ((List.drop_sublist k t).map Tm.proc)
        have HD1 : Hid (∀ z ∈ t.take (k + 1), z.due ≤ now) := fun z hz => by
          rw [take_snoc hy] at hz
          rcases List.mem_append.1 hz with hz | hz
          · exact hD.out z hz
          · simp at hz; rw [hz]; exact hdue
        obtain ⟨pb, po, e', hrp⟩ := HQ1.out.at pro21 (by decide) hq
        subst e'
        have p19 := hrp 19 _ rfl
        have m0 := hM.out.bl.cell 0 _ rfl
        have hm1 : (m : Int) < (n1 : Int) := by have := HQ1.out.size; have := HPL.out; omega
        have hm0 : (0 : Int) ≤ (m : Int) := by omega
        rw [hm] at y0
        have hk1 : k < t.length := hlt
        have HB3 := hide hb.out.size
        have X1 := new_below wr (.cells #[.int .i64 (m : Int)] 3)
        have HMA := hide (hM.out.below X1)
        have OA : Hid ((wr.alloc (.cells #[.int .i64 (m : Int)] 3)).ownsRow w1.heap.size 3 1 (.slice oa on oc) on (((t.take k).map Tm.proc).flatMap ci)) := by
          have := ownsRow_below hO.out X1
          unfold IOwn at this
          rw [HON.out] at this
          exact this
        have BA := hide (hb.out.trans (X1.mono hb.out.size))
        have ZA : Hid (wr.heap.size < (wr.alloc (.cells #[.int .i64 (m : Int)] 3)).heap.size) := by unfold Hid; simp
        clear X1 hin hm hy hdr xr hrp hq hdue hlt
        by_cases hw : q.wait = 1
        · have d1 : (q.wait == 1) = true := by simp [hw]
          have hlr : lateR q = 0 := if_pos hw
          clear hw
          rw [hlr] at HST
          go_upto_region 11 with (at_builtin; refine append_rec rfl (.tmp 42) (.tmp 44) 23 3 rfl Tryd.underlying23 HJ.out (by decide) w1.heap.size _ on _ rfl OA.out wr.heap.size 1 (ci (m : Int)) rfl rfl (fun i u hu => by rw [World.cell?_alloc_at _ _ _ _ (by simp)]; simpa [ci] using hu) (fun u hu => ci_one [(m : Int)] u (by simpa using hu)) (by have := HOK.out; have := HT8.out; unfold maxLen; omega) (by have := HOK.out; have := HT8.out; omega) BA.out.size ?_; intro g7 c7 w7 ho7 hg7 hat7 hlt7; have G7 := hide hg7; have A7 := hide hat7; have O7 := hide ho7; clear hg7 hat7 ho7)
          clear y0 y1 m0 m2 p19 dd d1
          have hg7 : (wr.alloc (.cells #[.int .i64 (m : Int)] 3)).grownBy w7 (Value.slice oa on oc).ownBlock := G7.out
          have M7 := hide (HMA.out.keep hg7 (fun e => hF.out e.symm) (own_sep HMA.out.tab.p OA.out (by decide)) hS.out (own_sep HMA.out.tab.t OA.out (by decide)))
          have I7 : Hid (IOwn w7 w1.heap.size (.slice (some ⟨g7, 0, none⟩) (on + 1) c7) ((t.take (k + 1)).map Tm.proc)) := by
            unfold Hid IOwn
            rw [HTK.out, List.length_append, HON.out, List.flatMap_append]
            simpa using O7.out
          have B7 := hide (BA.out.grown hg7 BA.out.size (fun i e => (OA.out.lt i e).1))
          have F7 : Hid ((Value.slice (some ⟨g7, 0, none⟩) (on + 1) c7).ownBlock ≠ some mb) := by
            rcases A7.out with e | e
            · intro e'
              exact hF.out (e.trans e')
            · intro e'
              have h1 : g7 = mb := Option.some.inj e'
              have h2 := hM.out.lt
              have h3 := ZA.out
              omega
          have HG7L : Hid (g7 < w7.heap.size) := hlt7
          clear hg7 G7 A7 O7 hlt7 HMA OA BA
          obtain ⟨tq1, tq2, tq3⟩ := tab_lists M7.out.tab
          have m0 := M7.out.bl.cell 0 _ rfl
          have m1 := M7.out.bl.cell 1 _ rfl
          have m2 := M7.out.bl.cell 2 _ rfl
          go_wp2_with fail
          refine Calls.mono (rwoken_any w7 _ _ _ _ tq1 _ _ _ _ tq2 _ _ _ _ tq3 (by have := tq1.size; have := HPL.out; have := HL8.out; omega) (by have := tq2.size; have := HRL.out; omega) (by have := HN3.out; have := HT8.out; omega) m q HQ.out 0) ?_
          rintro e w8 ⟨v1, p1, d1, v2, p2, d2, v3, p3, d3, rfl, htab, bi⟩
          rw [HOT.out] at htab
          have htab : Tab w8 w7.heap.size (.slice v1 p1 d1) (.slice v2 p2 d2) (.slice v3 p3 d3) (fireAll l r ((t.take (k + 1)).map Tm.proc)).1 (fireAll l r ((t.take (k + 1)).map Tm.proc)).2 (t.drop (k + 1)) := by rw [HST.out]; exact htab
          have X8 := hide (mine_three M7.out bi htab)
          have MB8 := M7.out.bl.below M7.out.lt bi
          have B8 := hide (B7.out.trans X8.out.2)
          have I8 := hide (iown_far3 (ownsRow_below I7.out bi) F7.out (.slice v1 p1 d1) (.slice v2 p2 d2) (.slice v3 p3 d3))
          have S8 : Hid (Sep (.slice v2 p2 d2) (.slice (some ⟨g7, 0, none⟩) (on + 1) c7)) := by
            cases hv : (Value.slice v2 p2 d2).ownBlock with
            | none => exact .inl hv
            | some z =>
              refine .inr (fun e => ?_)
              rw [hv] at e
              have h1 : z = g7 := Option.some.inj e
              have h2 := (htab.r.lt z hv).1
              have h3 := HG7L.out
              omega
          have s0 := MB8.cell 0 _ rfl
          have s1 := MB8.cell 1 _ rfl
          have s2 := MB8.cell 2 _ rfl
          have f0 := MB8.free 0
          have f1 := MB8.free 1
          have f2 := MB8.free 2
          have M8 := hide X8.out.1
          clear htab bi X8 MB8 tq1 tq2 tq3 m0 m1 m2
          go_wp2
          go_roundw
          case rel => exact ⟨k + 1, _, _, _, _, _, _, _, _, _, by omega, M8.out, I8.out, F7.out, S8.out, HD1.out, B8.out⟩
          case measure => have := HOK.out; simp [slen]; omega
        · have d1 : (q.wait == 1) = false := by simp [hw]
          have hlr : lateR q = 4294967294 := if_neg hw
          clear hw
          rw [hlr] at HST
          go_upto_region 11 with (at_builtin; refine append_rec rfl (.tmp 42) (.tmp 44) 23 3 rfl Tryd.underlying23 HJ.out (by decide) w1.heap.size _ on _ rfl OA.out wr.heap.size 1 (ci (m : Int)) rfl rfl (fun i u hu => by rw [World.cell?_alloc_at _ _ _ _ (by simp)]; simpa [ci] using hu) (fun u hu => ci_one [(m : Int)] u (by simpa using hu)) (by have := HOK.out; have := HT8.out; unfold maxLen; omega) (by have := HOK.out; have := HT8.out; omega) BA.out.size ?_; intro g7 c7 w7 ho7 hg7 hat7 hlt7; have G7 := hide hg7; have A7 := hide hat7; have O7 := hide ho7; clear hg7 hat7 ho7)
          clear y0 y1 m0 m2 p19 dd d1
          have hg7 : (wr.alloc (.cells #[.int .i64 (m : Int)] 3)).grownBy w7 (Value.slice oa on oc).ownBlock := G7.out
          have M7 := hide (HMA.out.keep hg7 (fun e => hF.out e.symm) (own_sep HMA.out.tab.p OA.out (by decide)) hS.out (own_sep HMA.out.tab.t OA.out (by decide)))
          have I7 : Hid (IOwn w7 w1.heap.size (.slice (some ⟨g7, 0, none⟩) (on + 1) c7) ((t.take (k + 1)).map Tm.proc)) := by
            unfold Hid IOwn
            rw [HTK.out, List.length_append, HON.out, List.flatMap_append]
            simpa using O7.out
          have B7 := hide (BA.out.grown hg7 BA.out.size (fun i e => (OA.out.lt i e).1))
          have F7 : Hid ((Value.slice (some ⟨g7, 0, none⟩) (on + 1) c7).ownBlock ≠ some mb) := by
            rcases A7.out with e | e
            · intro e'
              exact hF.out (e.trans e')
            · intro e'
              have h1 : g7 = mb := Option.some.inj e'
              have h2 := hM.out.lt
              have h3 := ZA.out
              omega
          have HG7L : Hid (g7 < w7.heap.size) := hlt7
          clear hg7 G7 A7 O7 hlt7 HMA OA BA
          obtain ⟨tq1, tq2, tq3⟩ := tab_lists M7.out.tab
          have m0 := M7.out.bl.cell 0 _ rfl
          have m1 := M7.out.bl.cell 1 _ rfl
          have m2 := M7.out.bl.cell 2 _ rfl
          go_wp2_with fail
          refine Calls.mono (rwoken_any w7 _ _ _ _ tq1 _ _ _ _ tq2 _ _ _ _ tq3 (by have := tq1.size; have := HPL.out; have := HL8.out; omega) (by have := tq2.size; have := HRL.out; omega) (by have := HN3.out; have := HT8.out; omega) m q HQ.out 4294967294) ?_
          rintro e w8 ⟨v1, p1, d1, v2, p2, d2, v3, p3, d3, rfl, htab, bi⟩
          rw [HOT.out] at htab
          have htab : Tab w8 w7.heap.size (.slice v1 p1 d1) (.slice v2 p2 d2) (.slice v3 p3 d3) (fireAll l r ((t.take (k + 1)).map Tm.proc)).1 (fireAll l r ((t.take (k + 1)).map Tm.proc)).2 (t.drop (k + 1)) := by rw [HST.out]; exact htab
          have X8 := hide (mine_three M7.out bi htab)
          have MB8 := M7.out.bl.below M7.out.lt bi
          have B8 := hide (B7.out.trans X8.out.2)
          have I8 := hide (iown_far3 (ownsRow_below I7.out bi) F7.out (.slice v1 p1 d1) (.slice v2 p2 d2) (.slice v3 p3 d3))
          have S8 : Hid (Sep (.slice v2 p2 d2) (.slice (some ⟨g7, 0, none⟩) (on + 1) c7)) := by
            cases hv : (Value.slice v2 p2 d2).ownBlock with
            | none => exact .inl hv
            | some z =>
              refine .inr (fun e => ?_)
              rw [hv] at e
              have h1 : z = g7 := Option.some.inj e
              have h2 := (htab.r.lt z hv).1
              have h3 := HG7L.out
              omega
          have s0 := MB8.cell 0 _ rfl
          have s1 := MB8.cell 1 _ rfl
          have s2 := MB8.cell 2 _ rfl
          have f0 := MB8.free 0
          have f1 := MB8.free 1
          have f2 := MB8.free 2
          have M8 := hide X8.out.1
          clear htab bi X8 MB8 tq1 tq2 tq3 m0 m1 m2
          go_wp2
          go_roundw
          case rel => exact ⟨k + 1, _, _, _, _, _, _, _, _, _, by omega, M8.out, I8.out, F7.out, S8.out, HD1.out, B8.out⟩
          case measure => have := HOK.out; simp [slen]; omega
      · have dd : decide (y.due ≤ now) = false := decide_eq_false hdue
        have HCUT := hide (fired_cut (now := now) HGD.out.2.2.2.1.2.2 hD.out (fun z hz => by rw [hy] at hz; obtain rfl := Option.some.inj hz; omega))
        clear xr hdr hy hdue
        have BGF := hide (BG1.out.below hl3.out hb.out)
        have BW := hide (B1.out.trans (hb.out.mono B1.out.size))
        have T1 := hide ((hM.out.tab.three (g := w.heap.size + 1) hl3.out (.slice a1 n1 c1) (.slice a2 n2 c2) (.slice (some ⟨b, off, none⟩) n3 c3)).weaken B1.out.size)
        have I1 := hide (ownsRow_weaken (iown_three hO.out (g := w.heap.size + 1) hl3.out (.slice a1 n1 c1) (.slice a2 n2 c2) (.slice (some ⟨b, off, none⟩) n3 c3)) B1.out.size)
        have m0 := hM.out.bl.cell 0 _ rfl
        have m1 := hM.out.bl.cell 1 _ rfl
        have G1 := hide (bl_three BGF.out (.slice a1 n1 c1) (.slice a2 n2 c2) (.slice (some ⟨b, off, none⟩) n3 c3))
        have BF := hide (below3 (g := w.heap.size + 1) (.slice a1 n1 c1) (.slice a2 n2 c2) (.slice (some ⟨b, off, none⟩) n3 c3) BW.out (by omega))
        have g0 := BGF.out.cell 0 _ rfl
        have g1 := BGF.out.cell 1 _ rfl
        have g2 := BGF.out.cell 2 _ rfl
        have f0 := BGF.out.free 0
        have f1 := BGF.out.free 1
        have f2 := BGF.out.free 2
        go_wp2
        generalize (((wr.setCell ⟨w.heap.size + 1, 0, none⟩ (.slice a1 n1 c1)).setCell ⟨w.heap.size + 1, 1, none⟩ (.slice a2 n2 c2)).setCell ⟨w.heap.size + 1, 2, none⟩ (.slice (some ⟨b, off, none⟩) n3 c3)) = W9 at *
        have e0 := G1.out.cell 0 _ rfl
        have e1 := G1.out.cell 1 _ rfl
        have e2 := G1.out.cell 2 _ rfl
        (try simp only [Exit.inBlock, Exit.then])
        refine bodyPost_ret (v := .tuple #[.agg #[.slice a1 n1 c1, .slice a2 n2 c2, .slice (some ⟨b, off, none⟩) n3 c3], .slice oa on oc, .int .i64 0]) (by simp [results, Tryd.results12, go_sem, e0, e1, e2]) rfl ?_
        exact ⟨_, _, _, _, _, _, _, _, _, _, by rw [HO.out.1]; rfl, by rw [HO.out.2.1, HO.out.2.2.1, HO.out.2.2.2.1, HCUT.out.1, HCUT.out.2]; exact T1.out, by rw [HO.out.2.2.2.2, HCUT.out.1]; exact I1.out, BF.out⟩
    · have hn0 : n3 = 0 := by have := HN3.out; omega
      subst hn0
      have HCUT := hide (fired_cut (now := now) HGD.out.2.2.2.1.2.2 hD.out (fun z hz => by rw [List.getElem?_eq_none (by omega)] at hz; cases hz))
      have BGF := hide (BG1.out.below hl3.out hb.out)
      have BW := hide (B1.out.trans (hb.out.mono B1.out.size))
      have T1 := hide ((hM.out.tab.three (g := w.heap.size + 1) hl3.out (.slice a1 n1 c1) (.slice a2 n2 c2) (.slice a3 0 c3)).weaken B1.out.size)
      have I1 := hide (ownsRow_weaken (iown_three hO.out (g := w.heap.size + 1) hl3.out (.slice a1 n1 c1) (.slice a2 n2 c2) (.slice a3 0 c3)) B1.out.size)
      have m0 := hM.out.bl.cell 0 _ rfl
      have m1 := hM.out.bl.cell 1 _ rfl
      have G1 := hide (bl_three BGF.out (.slice a1 n1 c1) (.slice a2 n2 c2) (.slice a3 0 c3))
      have BF := hide (below3 (g := w.heap.size + 1) (.slice a1 n1 c1) (.slice a2 n2 c2) (.slice a3 0 c3) BW.out (by omega))
      have g0 := BGF.out.cell 0 _ rfl
      have g1 := BGF.out.cell 1 _ rfl
      have g2 := BGF.out.cell 2 _ rfl
      have f0 := BGF.out.free 0
      have f1 := BGF.out.free 1
      have f2 := BGF.out.free 2
      go_wp2
      generalize (((wr.setCell ⟨w.heap.size + 1, 0, none⟩ (.slice a1 n1 c1)).setCell ⟨w.heap.size + 1, 1, none⟩ (.slice a2 n2 c2)).setCell ⟨w.heap.size + 1, 2, none⟩ (.slice a3 0 c3)) = W9 at *
      have e0 := G1.out.cell 0 _ rfl
      have e1 := G1.out.cell 1 _ rfl
      have e2 := G1.out.cell 2 _ rfl
      (try simp only [Exit.inBlock, Exit.then])
      refine bodyPost_ret (v := .tuple #[.agg #[.slice a1 n1 c1, .slice a2 n2 c2, .slice a3 0 c3], .slice oa on oc, .int .i64 0]) (by simp [results, Tryd.results12, go_sem, e0, e1, e2]) rfl ?_
      exact ⟨_, _, _, _, _, _, _, _, _, _, by rw [HO.out.1]; rfl, by rw [HO.out.2.1, HO.out.2.2.1, HO.out.2.2.2.1, HCUT.out.1, HCUT.out.2]; exact T1.out, by rw [HO.out.2.2.2.2, HCUT.out.1]; exact I1.out, BF.out⟩
end Go.Proofs.YtfbmlmdgonoflaaDoor
