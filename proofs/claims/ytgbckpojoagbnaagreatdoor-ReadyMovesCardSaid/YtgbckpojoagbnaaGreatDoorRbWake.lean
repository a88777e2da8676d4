/-
  Wake of a process that waits, in a good table.
-/
import Derived.Test.YtgbckpojoagbnaaGreatDoorRyYield
import Derived.Test.YtgbckpojoagbnaaGreatDoorRyWake
import Derived.Test.YtgbckpojoagbnaaGreatDoorRbMath
namespace Go.Proofs.YtgbckpojoagbnaaGreatDoor
open Classical
open Go.RowKit FerryCrc
set_option linter.unusedVariables false
set_option linter.unusedSimpArgs false

theorem ok_at {l : List Pro} {k : Nat} {q : Pro} (h : l[k]? = some q) {s : Int} (hs : q.state = s) : OkP l (k : Int) [s] := by
  have hkl := (List.getElem?_eq_some_iff.1 h).1
  refine ⟨by omega, by omega, ?_⟩
  unfold stateAt
  simp [h, hs]
set_option maxRecDepth 100000 in
set_option maxHeartbeats 1500000 in
theorem wakeOk_any {w : World} {E : Nat → Addr} (he : Er9 w E) (pa : Option Addr) (pn pc : Nat) (l : List Pro) (hp : Pros w pa pn pc l) (ra : Option Addr) (rn rc : Nat) (r : List Int) (hr : Is w ra rn rc r) (ta : Option Addr) (tn tc : Nat) (t : List Tm) (ht : Tms w ta tn tc t) (hmp : pn ≤ 9223372036854775807) (hmr : rn ≤ 9223372036854775807) (hmt : tn ≤ 9223372036854775807) (p : Int) (k : Nat) (hpk : p = (k : Int)) (q : Pro) (hkq : l[k]? = some q) (hst : q.state = 2) (hg : Good l r t) (x : Int) :
    Calls Tryz.prog 15 #[.agg #[.slice pa pn pc, .slice ra rn rc, .slice ta tn tc], .int .i64 p, .int .u32 x] w fun e w' => ∃ a1 n1 c1 a2 n2 c2 a3 n3 c3, e = .returned (.tuple #[.agg #[.slice a1 n1 c1, .slice a2 n2 c2, .slice a3 n3 c3], .nilIface]) ∧ Tab w' w.heap.size (.slice a1 n1 c1) (.slice a2 n2 c2) (.slice a3 n3 c3) (l.set k (wokenP q x)) (r ++ [(k : Int)]) (others t (k : Int)) ∧ Below w.heap.size w w' := by
  subst hpk
  have HKQ0 := hide hkq
  have HST0 := hide hst
  have HGD0 := hide hg
  clear hkq hst hg
  have X1 := new_below w (.cells #[.slice pa pn pc, .slice ra rn rc, .slice ta tn tc] 37)
  have X2 := new_below (w.alloc (.cells #[.slice pa pn pc, .slice ra rn rc, .slice ta tn tc] 37)) (.cells #[.slice none 0 0, .slice none 0 0, .slice none 0 0] 37)
  have BX0 : Bl (w.alloc (.cells #[.slice pa pn pc, .slice ra rn rc, .slice ta tn tc] 37)) w.heap.size [.slice pa pn pc, .slice ra rn rc, .slice ta tn tc] := bl_alloc w #[.slice pa pn pc, .slice ra rn rc, .slice ta tn tc] 37
  have BX := hide (BX0.below (by simp) X2)
  have BG : Hid (Bl ((w.alloc (.cells #[.slice pa pn pc, .slice ra rn rc, .slice ta tn tc] 37)).alloc (.cells #[.slice none 0 0, .slice none 0 0, .slice none 0 0] 37)) (w.heap.size + 1) [.slice none 0 0, .slice none 0 0, .slice none 0 0]) := by
    have := bl_alloc (w.alloc (.cells #[.slice pa pn pc, .slice ra rn rc, .slice ta tn tc] 37)) #[.slice none 0 0, .slice none 0 0, .slice none 0 0] 37
    rw [show (w.alloc (.cells #[.slice pa pn pc, .slice ra rn rc, .slice ta tn tc] 37)).heap.size = w.heap.size + 1 by simp] at this
    exact this
  have HB0 := hide (chain X1 X2)
  have hz : ((w.alloc (.cells #[.slice pa pn pc, .slice ra rn rc, .slice ta tn tc] 37)).alloc (.cells #[.slice none 0 0, .slice none 0 0, .slice none 0 0] 37)).heap.size = w.heap.size + 2 := by simp
  have HS := hide (hp.below HB0.out)
  have HI := hide (hr.below HB0.out)
  have HT := hide (ht.below HB0.out)
  have HE := hide (he.below HB0.out)
  have HL : Hid (l.length = pn) := hp.size
  have HLR : Hid (r.length = rn) := hr.size
  have HLN := hide hp.size
  clear X1 X2 BX0 hp hr ht he
  go_enter Tryz.func15, Tryz.ntmps15
  go_upto_region 1 with fail
  generalize (w.alloc (.cells #[.slice pa pn pc, .slice ra rn rc, .slice ta tn tc] 37)).alloc (.cells #[.slice none 0 0, .slice none 0 0, .slice none 0 0] 37) = W0 at *
  have HZ := hide hz
  clear hz
  have hl2 : Hid (w.heap.size + 1 < W0.heap.size) := by unfold Hid; rw [HZ.out]; omega
  have b0 := BX.out.cell 0 _ rfl
  have b1 := BX.out.cell 1 _ rfl
  have b2 := BX.out.cell 2 _ rfl
  have Y1 := new_below W0 (.cells #[.int .i64 2] 3)
  have HST : Hid (Is (W0.alloc (.cells #[.int .i64 2] 3)) (some ⟨W0.heap.size, 0, none⟩) 1 1 [2]) := by
    refine ⟨rfl, ⟨rfl, by decide, fun e => by simp at e, fun j v hv => ⟨_, _, rfl, ?_⟩⟩⟩
    rw [World.cell?_alloc_at _ _ _ _ rfl]
    simpa [ci] using hv
  have HSY := hide (HS.out.below Y1)
  have HIY := hide (HI.out.below Y1)
  have HTY := hide (HT.out.below Y1)
  have HEY := hide (HE.out.below Y1)
  have BGY := hide (BG.out.below hl2.out Y1)
  have HBY := hide (HB0.out.trans (Y1.mono HB0.out.size))
  have hl3 : Hid (w.heap.size + 1 < (W0.alloc (.cells #[.int .i64 2] 3)).heap.size) := Nat.lt_of_lt_of_le hl2.out Y1.size
  clear Y1
  go_wp2_with fail
  generalize W0.alloc (.cells #[.int .i64 2] 3) = WY at *
  refine Calls.mono (ownOf_any HEY.out pa pn pc l HSY.out ra rn rc r HIY.out ta tn tc t HTY.out hmp hmr hmt (k : Int) (some ⟨W0.heap.size, 0, none⟩) 1 1 [2] HST.out (by decide)) ?_
  rintro e w1 ⟨a1, n1, c1, a2, n2, c2, a3, n3, c3, v, rfl, hv, htab, x1⟩
  have X3 := new_below w1 (.cells #[.slice a1 n1 c1, .slice a2 n2 c2, .slice a3 n3 c3] 37)
  have x2 := chain x1 X3
  have XX1 := hide x2
  have HM := hide (mine_new htab x1.size 37)
  have BG1 := hide (BGY.out.below hl3.out x2)
  have B1 := hide (HBY.out.trans (x2.mono HBY.out.size))
  have hb1 : Hid (w.heap.size + 1 < WY.heap.size) := hl3.out
  have hb2 : Hid (w.heap.size ≤ WY.heap.size) := HBY.out.size
  clear htab x1 x2 X3 b0 b1 b2
  have hk : Good l r t ∧ OkP l (k : Int) [2] := ⟨HGD0.out, ok_at HKQ0.out HST0.out⟩
  have HK := HKQ0
  have HL8 := hide HGD0.out.1
  have hE : ofE (Good l r t) (OkP l (k : Int) [2]) = 0 := by unfold ofE; rw [if_pos hk.1, if_pos hk.2]
  have hT1 : ownT (Good l r t ∧ OkP l (k : Int) [2]) l = l := if_pos hk
  have hT2 : ownT (Good l r t ∧ OkP l (k : Int) [2]) r = r := if_pos hk
  have hT3 : ownT (Good l r t ∧ OkP l (k : Int) [2]) t = t := if_pos hk
  have HO : Hid (ofE (Good l r t) (OkP l (k : Int) [2]) = 0 ∧ ownT (Good l r t ∧ OkP l (k : Int) [2]) l = l ∧ True ∧ ownT (Good l r t ∧ OkP l (k : Int) [2]) t = t) := ⟨hE, hT1, trivial, hT3⟩
  have hr8 := goodR_few hk.1.2.2.1 hk.1.1
  have ht8 : t.length ≤ 8 := hk.1.2.2.2.1.2.1.few (fun x hx => by have h1 := hk.1.2.2.2.1.1 x hx; have h2 := hk.1.1; unfold Tm.In at h1 ⊢; omega)
  have hf8 : Form t 8 := ⟨fun x hx => by have h1 := hk.1.2.2.2.1.1 x hx; have h2 := hk.1.1; unfold Tm.In at h1 ⊢; omega, hk.1.2.2.2.1.2⟩
  rw [hE] at hv
  rw [hT1, hT2, hT3] at HM
  obtain rfl := bare0 hv
  have HR8 := hide hr8
  have HT8 := hide ht8
  have HF8 := hide hf8
  clear hE hT1 hT2 hT3 hv hk hr8 ht8 hf8
  have HE1 := hide ((HEY.out.below (XX1.out)).er3)
  go_upto_region 2 with fail
  generalize w1.alloc (.cells #[.slice a1 n1 c1, .slice a2 n2 c2, .slice a3 n3 c3] 37) = W1 at *
  generalize w1.heap.size = mb at *
  go_wp2_with fail
  refine Calls.mono (drop_any (HE1.out) WY.heap.size mb a1 n1 c1 a2 n2 c2 a3 n3 c3 l r t HM.out (k : Int) HT8.out) ?_
  rintro e w2 ⟨v2, rfl, hv2, ⟨a4, n4, c4, hm2⟩, y2, _⟩
  have hz2 : dropE t = 0 := if_pos HF8.out
  rw [hz2] at hv2
  obtain rfl := bare0 hv2
  have hd2 : dropL t (k : Int) = others t (k : Int) := if_pos HF8.out
  rw [hd2] at hm2
  have HM2 := hide hm2
  have Y2 := hide y2
  clear hm2 y2 hz2 hd2 hv2
  go_wp2_with fail
  have hn1 : n1 ≤ 9223372036854775807 := by
    obtain ⟨a, c, e, _⟩ := prown_pros HM2.out.tab.p
    simp only [Value.slice.injEq] at e
    have := HL8.out
    omega
  refine Calls.mono (wake_any w2 WY.heap.size mb a1 n1 c1 a2 n2 c2 a4 n4 c4 l r (others t (k : Int)) HM2.out k q HK.out x (by have := HR8.out; omega) hn1) ?_
  clear hn1
  rintro e w3 ⟨rfl, ⟨a5, n5, c5, hm3, _⟩, y3⟩
  have HM3 := hide hm3
  have Y3 := hide (Y2.out.trans y3)
  have hbase : Hid (WY.heap.size ≤ W1.heap.size) := Nat.le_trans HM.out.hb (Nat.le_of_lt HM.out.lt)
  have BG3 : Hid (Bl w3 (w.heap.size + 1) [.slice none 0 0, .slice none 0 0, .slice none 0 0]) :=
    ⟨fun j v hv => by rw [Y3.out.cell (p := ⟨w.heap.size + 1, j, none⟩) hb1.out]; exact BG1.out.cell j v hv, fun j => by rw [Y3.out.frozen (p := ⟨w.heap.size + 1, j, none⟩) hb1.out]; exact BG1.out.free j⟩
  have B3 := hide (B1.out.trans (Y3.out.mono hb2.out))
  have B4 := hide (below3 (g := w.heap.size + 1) (.slice a1 n1 c1) (.slice a5 n5 c5) (.slice a4 n4 c4) B3.out (by omega))
  have G1 := hide (bl_three BG3.out (.slice a1 n1 c1) (.slice a5 n5 c5) (.slice a4 n4 c4))
  have T1 := hide ((HM3.out.tab.three (g := w.heap.size + 1) hb1.out (.slice a1 n1 c1) (.slice a5 n5 c5) (.slice a4 n4 c4)).weaken hb2.out)
  clear hm3 y3
  have g0 := BG3.out.cell 0 _ rfl
  have g1 := BG3.out.cell 1 _ rfl
  have g2 := BG3.out.cell 2 _ rfl
  have f0 := BG3.out.free 0
  have f1 := BG3.out.free 1
  have f2 := BG3.out.free 2
  have m0 := HM3.out.bl.cell 0 _ rfl
  have m1 := HM3.out.bl.cell 1 _ rfl
  have m2 := HM3.out.bl.cell 2 _ rfl
  go_wp2
  generalize ((w3.setCell ⟨w.heap.size + 1, 0, none⟩ (.slice a1 n1 c1)).setCell ⟨w.heap.size + 1, 1, none⟩ (.slice a5 n5 c5)).setCell ⟨w.heap.size + 1, 2, none⟩ (.slice a4 n4 c4) = W9 at *
  have e0 := G1.out.cell 0 _ rfl
  have e1 := G1.out.cell 1 _ rfl
  have e2 := G1.out.cell 2 _ rfl
  (try simp only [Exit.inBlock, Exit.then])
  refine bodyPost_ret (v := .tuple #[.agg #[.slice a1 n1 c1, .slice a5 n5 c5, .slice a4 n4 c4], .nilIface]) (by simp [results, Tryz.results15, go_sem, e0, e1, e2]) rfl ?_
  exact ⟨_, _, _, _, _, _, _, _, _, rfl, T1.out, B4.out⟩
end Go.Proofs.YtgbckpojoagbnaaGreatDoor
