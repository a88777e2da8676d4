/-
  ready's WakeAll.
-/
import Derived.Test.YtfbmlmdgonoflaaDoorRyFire
import Derived.Test.YtfbmlmdgonoflaaDoorRyWait
namespace Go.Proofs.YtfbmlmdgonoflaaDoor
open Classical
open Go.RowKit
set_option linter.unusedVariables false
set_option linter.unusedSimpArgs false

/-- One process more is woken, with x; all of them. -/
def wakeStep (x : Int) (s : List Pro × List Int × List Tm) (i : Int) : List Pro × List Int × List Tm := (s.1.set i.toNat (wokenP (s.1[i.toNat]?.getD pro0) x), s.2.1 ++ [i], others s.2.2 i)
def wakeAll (l : List Pro) (r : List Int) (t : List Tm) (is : List Int) (x : Int) : List Pro × List Int × List Tm := is.foldl (wakeStep x) (l, r, t)
theorem wakeAll_take (l : List Pro) (r : List Int) (t : List Tm) (x : Int) {is : List Int} {k : Nat} {i : Int} (h : is[k]? = some i) : wakeAll l r t (is.take (k + 1)) x = wakeStep x (wakeAll l r t (is.take k) x) i := by
  unfold wakeAll
  rw [take_snoc h, List.foldl_append]
  rfl
theorem wakeAll_len (l : List Pro) (r : List Int) (t : List Tm) (x : Int) (is : List Int) : (wakeAll l r t is x).1.length = l.length := by
  suffices h : ∀ (is : List Int) (s : List Pro × List Int × List Tm), (is.foldl (wakeStep x) s).1.length = s.1.length from h is (l, r, t)
  intro is
  induction is with
  | nil => intro s; rfl
  | cons i is ih => intro s; rw [List.foldl_cons, ih]; simp [wakeStep]
theorem wakeAll_rdy (l : List Pro) (r : List Int) (t : List Tm) (x : Int) (is : List Int) : (wakeAll l r t is x).2.1 = r ++ is := by
  suffices h : ∀ (is : List Int) (s : List Pro × List Int × List Tm), (is.foldl (wakeStep x) s).2.1 = s.2.1 ++ is from h is (l, r, t)
  intro is
  induction is with
  | nil => intro s; simp
  | cons i is ih => intro s; rw [List.foldl_cons, ih]; simp [wakeStep]
theorem wakeAll_tms (l : List Pro) (r : List Int) (t : List Tm) (x : Int) (is : List Int) : ((wakeAll l r t is x).2.2).Sublist t := by
  suffices h : ∀ (is : List Int) (s : List Pro × List Int × List Tm), ((is.foldl (wakeStep x) s).2.2).Sublist s.2.2 from h is (l, r, t)
  intro is
  induction is with
  | nil => intro s; exact List.Sublist.refl _
  | cons i is ih => intro s; rw [List.foldl_cons]; exact (ih _).trans List.filter_sublist
theorem wakeStep_of {x : Int} {s : List Pro × List Int × List Tm} {m : Nat} {q : Pro} (h : s.1[m]? = some q) : wakeStep x s (m : Int) = (s.1.set m (wokenP q x), s.2.1 ++ [(m : Int)], others s.2.2 (m : Int)) := by simp [wakeStep, h]
theorem waits_in {l : List Pro} {wt ob : Int} : ∀ i ∈ waitsOf l wt ob, 0 ≤ i ∧ i < (l.length : Int) := by
  intro i hi
  unfold waitsOf waitsK at hi
  rw [List.take_length] at hi
  obtain ⟨y, hy, rfl⟩ := List.mem_map.1 hi
  have h1 := List.mem_zipIdx_iff_getElem?.1 (List.mem_filter.1 hy).1
  have := (List.getElem?_eq_some_iff.1 h1).1
  omega

set_option maxRecDepth 100000 in
set_option maxHeartbeats 4000000 in
theorem wakeAll_any {w : World} {E : Nat → Addr} (he : Er9 w E) (pa : Option Addr) (pn pc : Nat) (l : List Pro) (hp : Pros w pa pn pc l) (ra : Option Addr) (rn rc : Nat) (r : List Int) (hr : Is w ra rn rc r) (ta : Option Addr) (tn tc : Nat) (t : List Tm) (ht : Tms w ta tn tc t) (hmp : pn ≤ 9223372036854775807) (hmr : rn ≤ 9223372036854775807) (hmt : tn ≤ 9223372036854775807) (wt ob x : Int) :
    Calls Tryd.prog 15 #[.agg #[.slice pa pn pc, .slice ra rn rc, .slice ta tn tc], .int .i64 wt, .int .i64 ob, .int .u32 x] w fun e w' => ∃ a1 n1 c1 a2 n2 c2 a3 n3 c3 v, e = .returned (.tuple #[.agg #[.slice a1 n1 c1, .slice a2 n2 c2, .slice a3 n3 c3], v]) ∧ Bare E v (ownE (Good l r t)) ∧ Tab w' w.heap.size (.slice a1 n1 c1) (.slice a2 n2 c2) (.slice a3 n3 c3) (ownT (Good l r t) (wakeAll l r t (waitsOf l wt ob) x).1) (ownT (Good l r t) (wakeAll l r t (waitsOf l wt ob) x).2.1) (ownT (Good l r t) (wakeAll l r t (waitsOf l wt ob) x).2.2) ∧ Below w.heap.size w w' := by
  have X1 := new_below w (.cells #[.slice pa pn pc, .slice ra rn rc, .slice ta tn tc] 32)
  have X2 := new_below (w.alloc (.cells #[.slice pa pn pc, .slice ra rn rc, .slice ta tn tc] 32)) (.cells #[.slice none 0 0, .slice none 0 0, .slice none 0 0] 32)
  have BX0 : Bl (w.alloc (.cells #[.slice pa pn pc, .slice ra rn rc, .slice ta tn tc] 32)) w.heap.size [.slice pa pn pc, .slice ra rn rc, .slice ta tn tc] := bl_alloc w #[.slice pa pn pc, .slice ra rn rc, .slice ta tn tc] 32
  have BX := hide (BX0.below (by simp) X2)
  have BG : Hid (Bl ((w.alloc (.cells #[.slice pa pn pc, .slice ra rn rc, .slice ta tn tc] 32)).alloc (.cells #[.slice none 0 0, .slice none 0 0, .slice none 0 0] 32)) (w.heap.size + 1) [.slice none 0 0, .slice none 0 0, .slice none 0 0]) := by
    have := bl_alloc (w.alloc (.cells #[.slice pa pn pc, .slice ra rn rc, .slice ta tn tc] 32)) #[.slice none 0 0, .slice none 0 0, .slice none 0 0] 32
    rw [show (w.alloc (.cells #[.slice pa pn pc, .slice ra rn rc, .slice ta tn tc] 32)).heap.size = w.heap.size + 1 by simp] at this
    exact this
  have HB0 := hide (chain X1 X2)
  have hz : ((w.alloc (.cells #[.slice pa pn pc, .slice ra rn rc, .slice ta tn tc] 32)).alloc (.cells #[.slice none 0 0, .slice none 0 0, .slice none 0 0] 32)).heap.size = w.heap.size + 2 := by simp
  have HS := hide (hp.below HB0.out)
  have HI := hide (hr.below HB0.out)
  have HT := hide (ht.below HB0.out)
  have HE := hide (he.below HB0.out)
  have HG9 : Hid (0 < ((w.alloc (.cells #[.slice pa pn pc, .slice ra rn rc, .slice ta tn tc] 32)).alloc (.cells #[.slice none 0 0, .slice none 0 0, .slice none 0 0] 32)).heap.size) := Nat.lt_of_lt_of_le (block_lt_of_cell he.v9) HB0.out.size
  have HG12 : Hid (12 < ((w.alloc (.cells #[.slice pa pn pc, .slice ra rn rc, .slice ta tn tc] 32)).alloc (.cells #[.slice none 0 0, .slice none 0 0, .slice none 0 0] 32)).heap.size) := Nat.lt_of_lt_of_le (block_lt_of_cell he.v12) HB0.out.size
  have HG17 : Hid (1 < ((w.alloc (.cells #[.slice pa pn pc, .slice ra rn rc, .slice ta tn tc] 32)).alloc (.cells #[.slice none 0 0, .slice none 0 0, .slice none 0 0] 32)).heap.size) := Nat.lt_of_lt_of_le (block_lt_of_cell he.v17) HB0.out.size
  have HL : Hid (l.length = pn) := hp.size
  have HLR : Hid (r.length = rn) := hr.size
  clear X1 X2 BX0 hp hr ht he
  go_enter Tryd.func15, Tryd.ntmps15
  go_upto_region 1 with fail
  generalize (w.alloc (.cells #[.slice pa pn pc, .slice ra rn rc, .slice ta tn tc] 32)).alloc (.cells #[.slice none 0 0, .slice none 0 0, .slice none 0 0] 32) = W0 at *
  have HZ := hide hz
  clear hz
  have hl2 : Hid (w.heap.size + 1 < W0.heap.size) := by unfold Hid; rw [HZ.out]; omega
  have b0 := BX.out.cell 0 _ rfl
  have b1 := BX.out.cell 1 _ rfl
  have b2 := BX.out.cell 2 _ rfl
  go_wp2_with fail
  refine Calls.mono (own_any HE.out pa pn pc l HS.out ra rn rc r HI.out ta tn tc t HT.out hmp hmr hmt) ?_
  rintro e w1 ⟨a1, n1, c1, a2, n2, c2, a3, n3, c3, v, rfl, hv, htab, x1⟩
  have X3 := new_below w1 (.cells #[.slice a1 n1 c1, .slice a2 n2 c2, .slice a3 n3 c3] 32)
  have x2 := chain x1 X3
  have HM := hide (mine_new htab x1.size 32)
  have BG1 := hide (BG.out.below hl2.out x2)
  have HE1 := hide (HE.out.below x2)
  have HS1 := hide (HS.out.below x2)
  have BX1 := hide (BX.out.below (Nat.lt_of_succ_lt hl2.out) x2)
  have B1 := hide (HB0.out.trans (x2.mono HB0.out.size))
  have hb2 : Hid (w.heap.size ≤ W0.heap.size) := HB0.out.size
  clear htab x1 x2 X3 b0 b1 b2
  by_cases hk : Good l r t
  case neg =>
    have HO : Hid (ownE (Good l r t) = 9 ∧ ownT (Good l r t) (wakeAll l r t (waitsOf l wt ob) x).1 = [] ∧ ownT (Good l r t) (wakeAll l r t (waitsOf l wt ob) x).2.1 = [] ∧ ownT (Good l r t) (wakeAll l r t (waitsOf l wt ob) x).2.2 = []) := ⟨if_neg hk, if_neg hk, if_neg hk, if_neg hk⟩
    rw [HO.out.1] at hv
    have HV := hide hv
    obtain rfl := bare_ne hv (by decide)
    have B2 := hide (below3 (g := w.heap.size + 1) (.slice none 0 0) (.slice none 0 0) (.slice none 0 0) B1.out (by omega))
    have G1 := hide (bl_three BG1.out (.slice none 0 0) (.slice none 0 0) (.slice none 0 0))
    clear hk hv
    go_upto_region 2 with fail
    generalize w1.alloc (.cells #[.slice a1 n1 c1, .slice a2 n2 c2, .slice a3 n3 c3] 32) = W1 at *
    have g0 := BG1.out.cell 0 _ rfl
    have g1 := BG1.out.cell 1 _ rfl
    have g2 := BG1.out.cell 2 _ rfl
    have f0 := BG1.out.free 0
    have f1 := BG1.out.free 1
    have f2 := BG1.out.free 2
    unfold sent
    go_wp2
    generalize ((W1.setCell ⟨w.heap.size + 1, 0, none⟩ (.slice none 0 0)).setCell ⟨w.heap.size + 1, 1, none⟩ (.slice none 0 0)).setCell ⟨w.heap.size + 1, 2, none⟩ (.slice none 0 0) = W9 at *
    have e0 := G1.out.cell 0 _ rfl
    have e1 := G1.out.cell 1 _ rfl
    have e2 := G1.out.cell 2 _ rfl
    (try simp only [Exit.inBlock, Exit.then])
    refine bodyPost_ret (v := .tuple #[.agg #[.slice none 0 0, .slice none 0 0, .slice none 0 0], sent (E 9)]) (by simp [results, Tryd.results15, go_sem, e0, e1, e2, sent]) rfl ?_
    exact ⟨_, _, _, _, _, _, _, _, _, _, rfl, by rw [HO.out.1]; exact HV.out, by rw [HO.out.2.1, HO.out.2.2.1, HO.out.2.2.2]; exact tab_nil _ _, B2.out⟩
  have hT1 : ownT (Good l r t) l = l := if_pos hk
  have hT2 : ownT (Good l r t) r = r := if_pos hk
  have hT3 : ownT (Good l r t) t = t := if_pos hk
  have HO : Hid (ownE (Good l r t) = 0 ∧ ownT (Good l r t) (wakeAll l r t (waitsOf l wt ob) x).1 = (wakeAll l r t (waitsOf l wt ob) x).1 ∧ ownT (Good l r t) (wakeAll l r t (waitsOf l wt ob) x).2.1 = (wakeAll l r t (waitsOf l wt ob) x).2.1 ∧ ownT (Good l r t) (wakeAll l r t (waitsOf l wt ob) x).2.2 = (wakeAll l r t (waitsOf l wt ob) x).2.2) := ⟨if_pos hk, if_pos hk, if_pos hk, if_pos hk⟩
  have HR8 := hide (goodR_few hk.2.2.1 hk.1)
  have HF8 := hide (form8 hk)
  have HL8 : Hid (l.length ≤ 8) := hk.1
  have HFL : Hid ((waitsOf l wt ob).length ≤ 8) := Nat.le_trans (waitsK_len l wt ob l.length) hk.1
  rw [HO.out.1] at hv
  rw [hT1, hT2, hT3] at HM
  obtain rfl := bare0 hv
  clear hT1 hT2 hT3 hv hk
  go_upto_region 2 with fail
  generalize w1.alloc (.cells #[.slice a1 n1 c1, .slice a2 n2 c2, .slice a3 n3 c3] 32) = W1 at *
  generalize w1.heap.size = mb at *
  have b0 := BX1.out.cell 0 _ rfl
  have b1 := BX1.out.cell 1 _ rfl
  have b2 := BX1.out.cell 2 _ rfl
  go_wp2_with fail
  refine Calls.mono (waiters_any W1 pa pn pc l HS1.out ra rn rc ta tn tc wt ob (by have := HL8.out; have := HL.out; omega)) ?_
  rintro e w2 ⟨xv, rfl, hx, y2⟩
  obtain ⟨xa, xc, rfl, -⟩ := iown_is hx
  have HM2 := hide (HM.out.below y2)
  have hbw : W0.heap.size ≤ W1.heap.size := Nat.le_trans HM.out.hb (Nat.le_of_lt HM.out.lt)
  have HX := hide (ownsRow_weaken hx hbw)
  have HFX : Hid (FarX (.slice xa (waitsOf l wt ob).length xc) mb (.slice a1 n1 c1) (.slice a2 n2 c2)) := fun k hk => by
    have h1 := (hx.lt k hk).1
    refine ⟨fun e => by have := HM.out.lt; omega, fun e => ?_, fun e => ?_⟩
    · have := (HM.out.tab.p.lt k e.symm).2; omega
    · have := (HM.out.tab.r.lt k e.symm).2; omega
  have HY2 := hide (y2.mono hbw)
  clear hx y2 b0 b1 b2
  go_wp2
  go_loopw [29] (fun i wr => ∃ (k : Nat) (a : Option Addr) (n c : Nat) (a' : Option Addr) (n' c' : Nat), k ≤ (waitsOf l wt ob).length ∧ i = .int .i64 (k : Int) ∧ Hid (Mine wr W0.heap.size mb (.slice a1 n1 c1) (.slice a n c) (.slice a' n' c') (wakeAll l r t ((waitsOf l wt ob).take k) x).1 (wakeAll l r t ((waitsOf l wt ob).take k) x).2.1 (wakeAll l r t ((waitsOf l wt ob).take k) x).2.2) ∧ Hid (IOwn wr W0.heap.size (.slice xa (waitsOf l wt ob).length xc) (waitsOf l wt ob)) ∧ Hid (FarX (.slice xa (waitsOf l wt ob).length xc) mb (.slice a1 n1 c1) (.slice a n c)) ∧ Hid (Below W0.heap.size W1 wr)) (fun i _ => (waitsOf l wt ob).length - (intOf i).toNat)
  case atStart => exact ⟨0, a2, n2, c2, a3, n3, c3, by omega, rfl, HM2.out, HX.out, HFX.out, HY2.out⟩
  case round =>
    obtain ⟨k, a, n, c, a', n', c', hk, rfl, hM, hX, hfx, hb⟩ := hrel
    have HF8' := HFL.out
    by_cases hlt : k < (waitsOf l wt ob).length
    · obtain ⟨i, hi⟩ : ∃ i, (waitsOf l wt ob)[k]? = some i := ⟨_, List.getElem?_eq_getElem hlt⟩
      have hii := waits_in i (List.mem_of_getElem? hi)
      obtain ⟨m, rfl⟩ := Int.eq_ofNat_of_zero_le hii.1
      obtain ⟨xa', xc', e', xi⟩ := iown_is hX.out
      simp only [Value.slice.injEq, true_and] at e'
      obtain ⟨rfl, rfl⟩ := e'
      obtain ⟨b, off, rfl, xr⟩ := xi.at ci1 (by decide) hi
      have x0 := xr 0 _ rfl
      simp only [Nat.add_zero, Nat.mul_one] at x0
      have hPl : (wakeAll l r t ((waitsOf l wt ob).take k) x).1.length = l.length := wakeAll_len l r t x _
      have hRl : (wakeAll l r t ((waitsOf l wt ob).take k) x).2.1.length ≤ 1000 := by
        rw [wakeAll_rdy, List.length_append, List.length_take]
        have := HR8.out
        omega
      have hFk : Form (wakeAll l r t ((waitsOf l wt ob).take k) x).2.2 8 := HF8.out.sub (wakeAll_tms l r t x _)
      have hTl := hFk.2.1.few hFk.1
      obtain ⟨q, hq⟩ : ∃ q, (wakeAll l r t ((waitsOf l wt ob).take k) x).1[m]? = some q := ⟨_, List.getElem?_eq_getElem (by rw [hPl]; omega)⟩
      have HST := hide (wakeAll_take l r t x hi)
      rw [wakeStep_of hq] at HST
      obtain ⟨pa', pc', e', -⟩ := prown_pros hM.out.tab.p
      simp only [Value.slice.injEq] at e'
      have hn1 : n1 ≤ 9223372036854775807 := by have := HL8.out; rw [e'.2.1, hPl]; omega
      have hk1 : (k : Int) < ((waitsOf l wt ob).length : Int) := by omega
      have HQ := hide hq
      have HFK := hide hFk
      have HEr : Hid (Er9 wr E) := ⟨by rw [hb.out.cell (p := ⟨0, 0, none⟩) (HG9.out)]; exact HE1.out.v9, by rw [hb.out.cell (p := ⟨12, 0, none⟩) (HG12.out)]; exact HE1.out.v12, by rw [hb.out.cell (p := ⟨1, 0, none⟩) (HG17.out)]; exact HE1.out.v17⟩
      clear xr xi hi hii hq hPl e' hFk
      go_wp2_with fail
      refine Calls.mono (drop_any HEr.out.er3 W0.heap.size mb _ _ _ _ _ _ _ _ _ _ _ _ hM.out (m : Int) hTl) ?_
      rintro e w3 ⟨v3, rfl, hv3, ⟨a3', n3', c3', hm3⟩, y3, hk3⟩
      rw [show dropE (wakeAll l r t ((waitsOf l wt ob).take k) x).2.2 = 0 from if_pos HFK.out] at hv3
      rw [show dropL (wakeAll l r t ((waitsOf l wt ob).take k) x).2.2 (m : Int) = others (wakeAll l r t ((waitsOf l wt ob).take k) x).2.2 (m : Int) from if_pos HFK.out] at hm3
      obtain rfl := bare0 hv3
      have M3 := hide hm3
      have X3 : Hid (IOwn w3 W0.heap.size (.slice (some ⟨b, off, none⟩) (waitsOf l wt ob).length xc) (waitsOf l wt ob)) := ownsRow_same hX.out fun j hj => hk3 j (hX.out.lt j hj).2 (hfx.out j hj).1
      have B3 := hide (hb.out.trans y3)
      clear hm3 y3 hk3 hv3
      go_wp2_with fail
      refine Calls.mono (wake_any _ W0.heap.size mb _ _ _ _ _ _ _ _ _ _ _ _ M3.out m q HQ.out x hRl hn1) ?_
      rintro e w4 ⟨rfl, ⟨a4, n4, c4, hm4, hl4⟩, y4⟩
      have XF := hide (far_next X3.out hfx.out hl4)
      have M4 := hide hm4
      have B4 := hide (B3.out.trans y4)
      clear hm4 hl4 y4
      go_wp2
      go_roundw
      case rel => exact ⟨k + 1, a4, n4, c4, a3', n3', c3', by omega, by go_num, by rw [HST.out]; exact M4.out, XF.out.1, XF.out.2, B4.out⟩
      case measure => simp [intOf]; omega
    · obtain rfl : k = (waitsOf l wt ob).length := by omega
      rw [List.take_length] at hM
      have BG3 : Hid (Bl wr (w.heap.size + 1) [.slice none 0 0, .slice none 0 0, .slice none 0 0]) :=
        ⟨fun j v hv => by rw [hb.out.cell (p := ⟨w.heap.size + 1, j, none⟩) hl2.out]; exact BG1.out.cell j v hv, fun j => by rw [hb.out.frozen (p := ⟨w.heap.size + 1, j, none⟩) hl2.out]; exact BG1.out.free j⟩
      have B3 := hide (B1.out.trans (hb.out.mono hb2.out))
      have B4 := hide (below3 (g := w.heap.size + 1) (.slice a1 n1 c1) (.slice a n c) (.slice a' n' c') B3.out (by omega))
      have G1 := hide (bl_three BG3.out (.slice a1 n1 c1) (.slice a n c) (.slice a' n' c'))
      have T1 := hide ((hM.out.tab.three (g := w.heap.size + 1) hl2.out (.slice a1 n1 c1) (.slice a n c) (.slice a' n' c')).weaken hb2.out)
      have g0 := BG3.out.cell 0 _ rfl
      have g1 := BG3.out.cell 1 _ rfl
      have g2 := BG3.out.cell 2 _ rfl
      have f0 := BG3.out.free 0
      have f1 := BG3.out.free 1
      have f2 := BG3.out.free 2
      have m0 := hM.out.bl.cell 0 _ rfl
      have m1 := hM.out.bl.cell 1 _ rfl
      have m2 := hM.out.bl.cell 2 _ rfl
      go_wp2
      generalize ((wr.setCell ⟨w.heap.size + 1, 0, none⟩ (.slice a1 n1 c1)).setCell ⟨w.heap.size + 1, 1, none⟩ (.slice a n c)).setCell ⟨w.heap.size + 1, 2, none⟩ (.slice a' n' c') = W9 at *
      have e0 := G1.out.cell 0 _ rfl
      have e1 := G1.out.cell 1 _ rfl
      have e2 := G1.out.cell 2 _ rfl
      (try simp only [Exit.inBlock, Exit.then])
      refine bodyPost_ret (v := .tuple #[.agg #[.slice a1 n1 c1, .slice a n c, .slice a' n' c'], .nilIface]) (by simp [results, Tryd.results15, go_sem, e0, e1, e2]) rfl ?_
      exact ⟨_, _, _, _, _, _, _, _, _, _, rfl, by rw [HO.out.1]; exact bare_nil E, by rw [HO.out.2.1, HO.out.2.2.1, HO.out.2.2.2]; exact T1.out, B4.out⟩
end Go.Proofs.YtfbmlmdgonoflaaDoor
