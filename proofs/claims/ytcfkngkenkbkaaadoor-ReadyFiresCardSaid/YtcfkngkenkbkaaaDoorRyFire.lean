/-
  ready's Fire.
-/
import Derived.Test.YtcfkngkenkbkaaaDoorRyWake
import Derived.Test.YtcfkngkenkbkaaaDoorRyYield
namespace Go.Proofs.YtcfkngkenkbkaaaDoor
open Classical
open Go.RowKit
set_option linter.unusedVariables false
set_option linter.unusedSimpArgs false

/-- What a process finds in r1 whose timer fired. -/
def lateR (q : Pro) : Int := if q.wait = 1 then 0 else 4294967294
/-- One process more whose timer fired; all of them. -/
def fireStep (s : List Pro × List Int) (i : Int) : List Pro × List Int := (s.1.set i.toNat (wokenP (s.1[i.toNat]?.getD pro0) (lateR (s.1[i.toNat]?.getD pro0))), s.2 ++ [i])
def fireAll (l : List Pro) (r : List Int) (is : List Int) : List Pro × List Int := is.foldl fireStep (l, r)
def firedI (t : List Tm) (now : Int) : List Int := (fired t now).map Tm.proc
theorem fireAll_take (l : List Pro) (r : List Int) {is : List Int} {k : Nat} {i : Int} (h : is[k]? = some i) : fireAll l r (is.take (k + 1)) = fireStep (fireAll l r (is.take k)) i := by
  unfold fireAll
  rw [take_snoc h, List.foldl_append]
  rfl
theorem fireAll_len (r : List Int) : ∀ (is : List Int) (l : List Pro), (fireAll l r is).1.length = l.length := by
  suffices h : ∀ (is : List Int) (s : List Pro × List Int), (is.foldl fireStep s).1.length = s.1.length from fun is l => h is (l, r)
  intro is
  induction is with
  | nil => intro s; rfl
  | cons i is ih => intro s; rw [List.foldl_cons, ih]; simp [fireStep]
theorem fireAll_rdy (l : List Pro) (r : List Int) (is : List Int) : (fireAll l r is).2 = r ++ is := by
  suffices h : ∀ (is : List Int) (s : List Pro × List Int), (is.foldl fireStep s).2 = s.2 ++ is from h is (l, r)
  intro is
  induction is with
  | nil => intro s; simp
  | cons i is ih => intro s; rw [List.foldl_cons, ih]; simp [fireStep]
theorem form8 {l : List Pro} {r : List Int} {t : List Tm} (h : Good l r t) : Form t 8 := by
  refine ⟨fun x hx => ?_, h.2.2.2.1.2⟩
  have h1 := h.2.2.2.1.1 x hx
  have h0 := h.1
  unfold Tm.In at *
  omega
theorem firedI_in {l : List Pro} {r : List Int} {t : List Tm} (h : Good l r t) (now : Int) : ∀ i ∈ firedI t now, 0 ≤ i ∧ i < (l.length : Int) := by
  intro i hi
  obtain ⟨x, hx, rfl⟩ := List.mem_map.1 hi
  have h1 := h.2.2.2.1.1 x (List.mem_filter.1 hx).1
  unfold Tm.In at h1
  omega
theorem fireStep_of {s : List Pro × List Int} {m : Nat} {q : Pro} (h : s.1[m]? = some q) : fireStep s (m : Int) = (s.1.set m (wokenP q (lateR q)), s.2 ++ [(m : Int)]) := by simp [fireStep, h]
/-- A list that lies in none of the blocks that wake writes. -/
def FarX (x : Value) (tb : Nat) (v1 v2 : Value) : Prop := ∀ k, x.ownBlock = some k → k ≠ tb ∧ some k ≠ v1.ownBlock ∧ some k ≠ v2.ownBlock
theorem far_next {w w' : World} {base tb : Nat} {x v1 v2 v2' : Value} {F : List Int} (h : IOwn w base x F) (hf : FarX x tb v1 v2) (hl : Left w w' tb v1 v2 v2') : IOwn w' base x F ∧ FarX x tb v1 v2' := by
  refine ⟨ownsRow_same h fun k hk => hl.blk k (h.lt k hk).2 (hf k hk).1 (hf k hk).2.1 (hf k hk).2.2, fun k hk => ⟨(hf k hk).1, (hf k hk).2.1, ?_⟩⟩
  rcases hl.nxt with e | ⟨j, e, hj⟩
  · rw [e]; exact (hf k hk).2.2
  · rw [e]
    intro e'
    have := Option.some.inj e'
    have := (h.lt k hk).2
    omega
theorem iown_three {w : World} {base : Nat} {v : Value} {l : List Int} (h : IOwn w base v l) {g : Nat} (hg : g < base) (x y z : Value) : IOwn (((w.setCell ⟨g, 0, none⟩ x).setCell ⟨g, 1, none⟩ y).setCell ⟨g, 2, none⟩ z) base v l :=
  ownsRow_setCell_below (ownsRow_setCell_below (ownsRow_setCell_below h (a := ⟨g, 0, none⟩) hg x) (a := ⟨g, 1, none⟩) hg y) (a := ⟨g, 2, none⟩) hg z

set_option maxRecDepth 100000 in
set_option maxHeartbeats 4000000 in
theorem fire_any {w : World} {E : Nat → Addr} (he : Er9 w E) (pa : Option Addr) (pn pc : Nat) (l : List Pro) (hp : Pros w pa pn pc l) (ra : Option Addr) (rn rc : Nat) (r : List Int) (hr : Is w ra rn rc r) (ta : Option Addr) (tn tc : Nat) (t : List Tm) (ht : Tms w ta tn tc t) (hmp : pn ≤ 9223372036854775807) (hmr : rn ≤ 9223372036854775807) (hmt : tn ≤ 9223372036854775807) (now : Int) :
    Calls Tryd.prog 18 #[.agg #[.slice pa pn pc, .slice ra rn rc, .slice ta tn tc], .int .i64 now] w fun e w' => ∃ a1 n1 c1 a2 n2 c2 a3 n3 c3 x v, e = .returned (.tuple #[.agg #[.slice a1 n1 c1, .slice a2 n2 c2, .slice a3 n3 c3], x, v]) ∧ Bare E v (ownE (Good l r t)) ∧ Tab w' w.heap.size (.slice a1 n1 c1) (.slice a2 n2 c2) (.slice a3 n3 c3) (ownT (Good l r t) (fireAll l r (firedI t now)).1) (ownT (Good l r t) (fireAll l r (firedI t now)).2) (ownT (Good l r t) (left t now)) ∧ IOwn w' w.heap.size x (ownT (Good l r t) (firedI t now)) ∧ Below w.heap.size w w' := by
  have X1 := new_below w (.cells #[.slice pa pn pc, .slice ra rn rc, .slice ta tn tc] 29)
  have X2 := new_below (w.alloc (.cells #[.slice pa pn pc, .slice ra rn rc, .slice ta tn tc] 29)) (.cells #[.slice none 0 0, .slice none 0 0, .slice none 0 0] 29)
  have BX0 : Bl (w.alloc (.cells #[.slice pa pn pc, .slice ra rn rc, .slice ta tn tc] 29)) w.heap.size [.slice pa pn pc, .slice ra rn rc, .slice ta tn tc] := bl_alloc w #[.slice pa pn pc, .slice ra rn rc, .slice ta tn tc] 29
  have BX := hide (BX0.below (by simp) X2)
  have BG : Hid (Bl ((w.alloc (.cells #[.slice pa pn pc, .slice ra rn rc, .slice ta tn tc] 29)).alloc (.cells #[.slice none 0 0, .slice none 0 0, .slice none 0 0] 29)) (w.heap.size + 1) [.slice none 0 0, .slice none 0 0, .slice none 0 0]) := by
    have := bl_alloc (w.alloc (.cells #[.slice pa pn pc, .slice ra rn rc, .slice ta tn tc] 29)) #[.slice none 0 0, .slice none 0 0, .slice none 0 0] 29
    rw [show (w.alloc (.cells #[.slice pa pn pc, .slice ra rn rc, .slice ta tn tc] 29)).heap.size = w.heap.size + 1 by simp] at this
    exact this
  have HB0 := hide (chain X1 X2)
  have hz : ((w.alloc (.cells #[.slice pa pn pc, .slice ra rn rc, .slice ta tn tc] 29)).alloc (.cells #[.slice none 0 0, .slice none 0 0, .slice none 0 0] 29)).heap.size = w.heap.size + 2 := by simp
  have HS := hide (hp.below HB0.out)
  have HI := hide (hr.below HB0.out)
  have HT := hide (ht.below HB0.out)
  have HE := hide (he.below HB0.out)
  have HL : Hid (l.length = pn) := hp.size
  have HLR : Hid (r.length = rn) := hr.size
  clear X1 X2 BX0 hp hr ht he
  go_enter Tryd.func18, Tryd.ntmps18
  go_upto_region 1 with fail
  generalize (w.alloc (.cells #[.slice pa pn pc, .slice ra rn rc, .slice ta tn tc] 29)).alloc (.cells #[.slice none 0 0, .slice none 0 0, .slice none 0 0] 29) = W0 at *
  have HZ := hide hz
  clear hz
  have hl2 : Hid (w.heap.size + 1 < W0.heap.size) := by unfold Hid; rw [HZ.out]; omega
  have b0 := BX.out.cell 0 _ rfl
  have b1 := BX.out.cell 1 _ rfl
  have b2 := BX.out.cell 2 _ rfl
  go_wp2_with fail
  refine Calls.mono (own_any HE.out pa pn pc l HS.out ra rn rc r HI.out ta tn tc t HT.out hmp hmr hmt) ?_
  rintro e w1 ⟨a1, n1, c1, a2, n2, c2, a3, n3, c3, v, rfl, hv, htab, x1⟩
  have X3 := new_below w1 (.cells #[.slice a1 n1 c1, .slice a2 n2 c2, .slice a3 n3 c3] 29)
  have x2 := chain x1 X3
  have HM := hide (mine_new htab x1.size 29)
  have BG1 := hide (BG.out.below hl2.out x2)
  have HE1 := hide (HE.out.below x2)
  have B1 := hide (HB0.out.trans (x2.mono HB0.out.size))
  have hb2 : Hid (w.heap.size ≤ W0.heap.size) := HB0.out.size
  clear htab x1 x2 X3 b0 b1 b2
  by_cases hk : Good l r t
  case neg =>
    have HO : Hid (ownE (Good l r t) = 9 ∧ ownT (Good l r t) (fireAll l r (firedI t now)).1 = [] ∧ ownT (Good l r t) (fireAll l r (firedI t now)).2 = [] ∧ ownT (Good l r t) (left t now) = [] ∧ ownT (Good l r t) (firedI t now) = []) := ⟨if_neg hk, if_neg hk, if_neg hk, if_neg hk, if_neg hk⟩
    rw [HO.out.1] at hv
    have HV := hide hv
    obtain rfl := bare_ne hv (by decide)
    have B2 := hide (below3 (g := w.heap.size + 1) (.slice none 0 0) (.slice none 0 0) (.slice none 0 0) B1.out (by omega))
    have G1 := hide (bl_three BG1.out (.slice none 0 0) (.slice none 0 0) (.slice none 0 0))
    clear hk hv
    go_upto_region 2 with fail
    generalize w1.alloc (.cells #[.slice a1 n1 c1, .slice a2 n2 c2, .slice a3 n3 c3] 29) = W1 at *
    have g0 := BG1.out.cell 0 _ rfl
    have g1 := BG1.out.cell 1 _ rfl
    have g2 := BG1.out.cell 2 _ rfl
    have f0 := BG1.out.free 0
    have f1 := BG1.out.free 1
    have f2 := BG1.out.free 2
    unfold sent
    go_wp2
    generalize ((W1.setCell ⟨w.heap.size + 1, 0, none⟩ (.slice none 0 0)).setCell ⟨w.heap.size + 1, 1, none⟩ (.slice none 0 0)).setCell ⟨w.heap.size + 1, 2, none⟩ (.slice none 0 0) = W9 at *
    have e0 := G1.out.cell 0 _ rfl
    have e1 := G1.out.cell 1 _ rfl
    have e2 := G1.out.cell 2 _ rfl
    (try simp only [Exit.inBlock, Exit.then])
    refine bodyPost_ret (v := .tuple #[.agg #[.slice none 0 0, .slice none 0 0, .slice none 0 0], .slice none 0 0, sent (E 9)]) (by simp [results, Tryd.results18, go_sem, e0, e1, e2, sent]) rfl ?_
    exact ⟨_, _, _, _, _, _, _, _, _, _, _, rfl, by rw [HO.out.1]; exact HV.out, by rw [HO.out.2.1, HO.out.2.2.1, HO.out.2.2.2.1]; exact tab_nil _ _, by rw [HO.out.2.2.2.2]; exact iown_nil _ _, B2.out⟩
  have hT1 : ownT (Good l r t) l = l := if_pos hk
  have hT2 : ownT (Good l r t) r = r := if_pos hk
  have hT3 : ownT (Good l r t) t = t := if_pos hk
  have HO : Hid (ownE (Good l r t) = 0 ∧ ownT (Good l r t) (fireAll l r (firedI t now)).1 = (fireAll l r (firedI t now)).1 ∧ ownT (Good l r t) (fireAll l r (firedI t now)).2 = (fireAll l r (firedI t now)).2 ∧ ownT (Good l r t) (left t now) = left t now ∧ ownT (Good l r t) (firedI t now) = firedI t now) := ⟨if_pos hk, if_pos hk, if_pos hk, if_pos hk, if_pos hk⟩
  have hr8 := goodR_few hk.2.2.1 hk.1
  have ht8 := hk.tfew
  have HIN := hide (firedI_in hk now)
  have HF8 := hide (form8 hk)
  have hl8 : l.length ≤ 8 := hk.1
  have HFL : Hid ((firedI t now).length ≤ 8) := by
    unfold Hid firedI
    rw [List.length_map]
    exact Nat.le_trans (fired_len t now) ht8
  rw [HO.out.1] at hv
  rw [hT1, hT2, hT3] at HM
  obtain rfl := bare0 hv
  have HR8 := hide hr8
  have HT8 := hide ht8
  have HL8 := hide hl8
  clear hT1 hT2 hT3 hv hk hr8 ht8 hl8
  go_upto_region 2 with fail
  generalize w1.alloc (.cells #[.slice a1 n1 c1, .slice a2 n2 c2, .slice a3 n3 c3] 29) = W1 at *
  generalize w1.heap.size = mb at *
  obtain ⟨a', c', e', ht1⟩ := town_tms HM.out.tab.t
  simp only [Value.slice.injEq] at e'
  obtain ⟨rfl, rfl, rfl⟩ := e'
  have HT1 := hide ht1
  clear ht1
  have m2 := HM.out.bl.cell 2 _ rfl
  go_wp2_with fail
  refine Calls.mono (tfire_any HE1.out.er3 a3 t.length c3 t HT1.out now (by have := HT8.out; omega)) ?_
  rintro e w2 ⟨x, y, v, rfl, hv, hx, hy, y2⟩
  rw [show fireE t = 0 from if_pos HF8.out] at hv
  rw [show fireP t now = firedI t now from if_pos HF8.out] at hx
  rw [show fireL t now = left t now from if_pos HF8.out] at hy
  obtain rfl := bare0 hv
  obtain ⟨xa, xc, rfl, xis⟩ := iown_is hx
  obtain ⟨ya, yc, rfl, -⟩ := town_tms hy
  have HTM := hide (HM.out.timers y2 hy)
  have M2 := HM.out.below y2
  have g2 := M2.bl.cell 2 _ rfl
  have f2 := M2.bl.free 2
  have hxm : (Value.slice xa (firedI t now).length xc).ownBlock ≠ some mb := fun e => by have := (hx.lt _ e).1; have := HM.out.lt; omega
  have hbw : W0.heap.size ≤ W1.heap.size := Nat.le_trans HM.out.hb (Nat.le_of_lt HM.out.lt)
  have HX : Hid (IOwn (w2.setCell ⟨mb, 2, none⟩ (.slice ya (left t now).length yc)) W0.heap.size (.slice xa (firedI t now).length xc) (firedI t now)) := ownsRow_far (ownsRow_weaken hx hbw) (p := ⟨mb, 2, none⟩) hxm _
  have HFX : Hid (FarX (.slice xa (firedI t now).length xc) mb (.slice a1 n1 c1) (.slice a2 n2 c2)) := fun k hk => by
    have h1 := (hx.lt k hk).1
    refine ⟨fun e => by have := HM.out.lt; omega, fun e => ?_, fun e => ?_⟩
    · have := (HM.out.tab.p.lt k e.symm).2; omega
    · have := (HM.out.tab.r.lt k e.symm).2; omega
  clear hv hx hy y2 M2 hxm xis m2
  go_wp2
  generalize w2.setCell ⟨mb, 2, none⟩ (.slice ya (left t now).length yc) = W2 at *
  clear g2 f2
  go_loopw [39] (fun i wr => ∃ (k : Nat) (a : Option Addr) (n c : Nat), k ≤ (firedI t now).length ∧ i = .int .i64 (k : Int) ∧ Hid (Mine wr W0.heap.size mb (.slice a1 n1 c1) (.slice a n c) (.slice ya (left t now).length yc) (fireAll l r ((firedI t now).take k)).1 (fireAll l r ((firedI t now).take k)).2 (left t now)) ∧ Hid (IOwn wr W0.heap.size (.slice xa (firedI t now).length xc) (firedI t now)) ∧ Hid (FarX (.slice xa (firedI t now).length xc) mb (.slice a1 n1 c1) (.slice a n c)) ∧ Hid (Below W0.heap.size W1 wr)) (fun i _ => (firedI t now).length - (intOf i).toNat)
  case atStart => exact ⟨0, a2, n2, c2, by omega, rfl, HTM.out.1, HX.out, HFX.out, HTM.out.2⟩
  case round =>
    obtain ⟨k, a, n, c, hk, rfl, hM, hX, hfx, hb⟩ := hrel
    have HF8' := HFL.out
    by_cases hlt : k < (firedI t now).length
    · obtain ⟨i, hi⟩ : ∃ i, (firedI t now)[k]? = some i := ⟨_, List.getElem?_eq_getElem hlt⟩
      have hii := HIN.out i (List.mem_of_getElem? hi)
      obtain ⟨m, rfl⟩ := Int.eq_ofNat_of_zero_le hii.1
      obtain ⟨xa', xc', e', xi⟩ := iown_is hX.out
      simp only [Value.slice.injEq, true_and] at e'
      obtain ⟨rfl, rfl⟩ := e'
      obtain ⟨b, off, rfl, xr⟩ := xi.at ci1 (by decide) hi
      have x0 := xr 0 _ rfl
      simp only [Nat.add_zero, Nat.mul_one] at x0
      have hPl : (fireAll l r ((firedI t now).take k)).1.length = l.length := fireAll_len r _ l
      have hRl : (fireAll l r ((firedI t now).take k)).2.length ≤ 1000 := by
        rw [fireAll_rdy, List.length_append, List.length_take]
        have := HR8.out
        omega
      obtain ⟨q, hq⟩ : ∃ q, (fireAll l r ((firedI t now).take k)).1[m]? = some q := ⟨_, List.getElem?_eq_getElem (by rw [hPl]; omega)⟩
      have HST := hide (fireAll_take l r hi)
      rw [fireStep_of hq] at HST
      obtain ⟨pa', pc', e', hps⟩ := prown_pros hM.out.tab.p
      simp only [Value.slice.injEq] at e'
      obtain ⟨ea, en, ec⟩ := e'
      obtain ⟨pb, po, rfl, hrp⟩ := hps.at pro21 (by decide) hq
      subst ea
      subst ec
      have p19 := hrp 19 _ rfl
      have m0 := hM.out.bl.cell 0 _ rfl
      have y1 : (m : Int) < (n1 : Int) := by rw [en, hPl]; exact hii.2
      have hn1 : n1 ≤ 9223372036854775807 := by have := HL8.out; rw [en, hPl]; omega
      have hk1 : (k : Int) < ((firedI t now).length : Int) := by omega
      have HQ := hide hq
      clear hps hrp xr xi en hi hii hq hPl
      by_cases hw : q.wait = 1
      · have d1 : (q.wait == 1) = true := by simp [hw]
        rw [show lateR q = 0 from if_pos hw] at HST
        clear hw
        go_wp2_with fail
        refine Calls.mono (wake_any _ W0.heap.size mb _ _ _ _ _ _ _ _ _ _ _ _ hM.out m q HQ.out 0 hRl hn1) ?_
        rintro e w3 ⟨rfl, ⟨a', n', c', hm3, hl3⟩, y3⟩
        have XF := hide (far_next hX.out hfx.out hl3)
        have M3 := hide hm3
        have B3 := hide (hb.out.trans y3)
        clear hm3 hl3 y3
        go_wp2
        go_roundw
        case rel => exact ⟨k + 1, a', n', c', by omega, by go_num, by rw [HST.out]; exact M3.out, XF.out.1, XF.out.2, B3.out⟩
        case measure => simp [intOf]; omega
      · have d1 : (q.wait == 1) = false := by simp [hw]
        rw [show lateR q = 4294967294 from if_neg hw] at HST
        clear hw
        go_wp2_with fail
        refine Calls.mono (wake_any _ W0.heap.size mb _ _ _ _ _ _ _ _ _ _ _ _ hM.out m q HQ.out 4294967294 hRl hn1) ?_
        rintro e w3 ⟨rfl, ⟨a', n', c', hm3, hl3⟩, y3⟩
        have XF := hide (far_next hX.out hfx.out hl3)
        have M3 := hide hm3
        have B3 := hide (hb.out.trans y3)
        clear hm3 hl3 y3
        go_wp2
        go_roundw
        case rel => exact ⟨k + 1, a', n', c', by omega, by go_num, by rw [HST.out]; exact M3.out, XF.out.1, XF.out.2, B3.out⟩
        case measure => simp [intOf]; omega
    · obtain rfl : k = (firedI t now).length := by omega
      rw [List.take_length] at hM
      have BG3 : Hid (Bl wr (w.heap.size + 1) [.slice none 0 0, .slice none 0 0, .slice none 0 0]) :=
        ⟨fun j v hv => by rw [hb.out.cell (p := ⟨w.heap.size + 1, j, none⟩) hl2.out]; exact BG1.out.cell j v hv, fun j => by rw [hb.out.frozen (p := ⟨w.heap.size + 1, j, none⟩) hl2.out]; exact BG1.out.free j⟩
      have B3 := hide (B1.out.trans (hb.out.mono hb2.out))
      have B4 := hide (below3 (g := w.heap.size + 1) (.slice a1 n1 c1) (.slice a n c) (.slice ya (left t now).length yc) B3.out (by omega))
      have G1 := hide (bl_three BG3.out (.slice a1 n1 c1) (.slice a n c) (.slice ya (left t now).length yc))
      have T1 := hide ((hM.out.tab.three (g := w.heap.size + 1) hl2.out (.slice a1 n1 c1) (.slice a n c) (.slice ya (left t now).length yc)).weaken hb2.out)
      have I1 := hide (ownsRow_weaken (iown_three hX.out (g := w.heap.size + 1) hl2.out (.slice a1 n1 c1) (.slice a n c) (.slice ya (left t now).length yc)) hb2.out)
      have g0 := BG3.out.cell 0 _ rfl
      have g1 := BG3.out.cell 1 _ rfl
      have g2 := BG3.out.cell 2 _ rfl
      have f0 := BG3.out.free 0
      have f1 := BG3.out.free 1
      have f2 := BG3.out.free 2
      have m0 := hM.out.bl.cell 0 _ rfl
      have m1 := hM.out.bl.cell 1 _ rfl
      have m2 := hM.out.bl.cell 2 _ rfl
      go_wp2
      generalize ((wr.setCell ⟨w.heap.size + 1, 0, none⟩ (.slice a1 n1 c1)).setCell ⟨w.heap.size + 1, 1, none⟩ (.slice a n c)).setCell ⟨w.heap.size + 1, 2, none⟩ (.slice ya (left t now).length yc) = W9 at *
      have e0 := G1.out.cell 0 _ rfl
      have e1 := G1.out.cell 1 _ rfl
      have e2 := G1.out.cell 2 _ rfl
      (try simp only [Exit.inBlock, Exit.then])
      refine bodyPost_ret (v := .tuple #[.agg #[.slice a1 n1 c1, .slice a n c, .slice ya (left t now).length yc], .slice xa (firedI t now).length xc, .nilIface]) (by simp [results, Tryd.results18, go_sem, e0, e1, e2]) rfl ?_
      exact ⟨_, _, _, _, _, _, _, _, _, _, _, rfl, by rw [HO.out.1]; exact bare_nil E, by rw [HO.out.2.1, HO.out.2.2.1, HO.out.2.2.2.1]; exact T1.out, by rw [HO.out.2.2.2.2]; exact I1.out, B4.out⟩
end Go.Proofs.YtcfkngkenkbkaaaDoor
