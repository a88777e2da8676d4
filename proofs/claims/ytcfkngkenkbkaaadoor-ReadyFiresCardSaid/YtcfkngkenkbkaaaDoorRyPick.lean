/-
  ready's goodTimers, Good, greatest and Pick.
-/
import Derived.Test.YtcfkngkenkbkaaaDoorRyGood
namespace Go.Proofs.YtcfkngkenkbkaaaDoor
open Classical
open Go.RowKit
set_option linter.unusedVariables false
set_option linter.unusedSimpArgs false

theorem findT_has (t : List Tm) (i : Int) : (findT t i).isSome = hasT t i := by
  unfold findT hasT
  rw [Bool.eq_iff_iff, List.find?_isSome, List.any_eq_true]
theorem bare_ne {E : Nat → Addr} {v : Value} {i : Nat} (h : Bare E v i) (hi : i ≠ 0) : v = sent (E i) := by
  rcases h with ⟨_, e⟩ | ⟨_, _, e⟩
  · exact absurd e hi
  · exact e

set_option maxRecDepth 100000 in
set_option maxHeartbeats 4000000 in
theorem goodTimers_any {w : World} {E : Nat → Addr} (he : Er3 w E) (pa : Option Addr) (pn pc : Nat) (l : List Pro) (hp : Pros w pa pn pc l) (ra : Option Addr) (rn rc : Nat) (ta : Option Addr) (tn tc : Nat) (t : List Tm) (ht : Tms w ta tn tc t) (h8 : pn ≤ 8) (hm : tn ≤ 9223372036854775807) :
    Calls Tryd.prog 33 #[.agg #[.slice pa pn pc, .slice ra rn rc, .slice ta tn tc]] w fun e w' => e = .returned (.bool (decide (GoodT l t))) ∧ Below w.heap.size w w' := by
  have HS := hide hp
  have HT := hide ht
  have HE := hide he
  have HL : Hid (l.length = pn) := hp.size
  have BX : Hid (Bl (w.alloc (.cells #[.slice pa pn pc, .slice ra rn rc, .slice ta tn tc] 29)) w.heap.size [.slice pa pn pc, .slice ra rn rc, .slice ta tn tc]) := bl_alloc w #[.slice pa pn pc, .slice ra rn rc, .slice ta tn tc] 29
  have HB0 := hide (new_below w (.cells #[.slice pa pn pc, .slice ra rn rc, .slice ta tn tc] 29))
  have hz0 : w.heap.size < (w.alloc (.cells #[.slice pa pn pc, .slice ra rn rc, .slice ta tn tc] 29)).heap.size := by simp
  clear hp ht he
  go_enter Tryd.func33, Tryd.ntmps33
  go_wp2_with fail
  generalize w.alloc (.cells #[.slice pa pn pc, .slice ra rn rc, .slice ta tn tc] 29) = W0 at *
  refine Calls.mono (tcheck_any (HE.out.below HB0.out) ta tn tc t (HT.out.below HB0.out) (pn : Int) hm) ?_
  rintro e w1 ⟨v, rfl, hv, b1⟩
  have HB1 := hide (HB0.out.trans (b1.mono HB0.out.size))
  have BX1 := hide (BX.out.below hz0 b1)
  have hz1 : w.heap.size < w1.heap.size := Nat.lt_of_lt_of_le hz0 b1.size
  clear b1 BX hz0 HB0
  by_cases hf : Form t (pn : Int)
  case neg =>
    have hc : chkT t (pn : Int) = 9 := by unfold chkT; rw [if_neg (by omega), if_neg hf]
    rw [hc] at hv
    obtain rfl := bare_ne hv (by decide)
    have HR : Hid (decide (GoodT l t) = false) := decide_eq_false (fun h => hf (by have := h.1; rw [HL.out] at this; exact this))
    clear hf hc hv
    unfold sent
    go_wp2
    go_ret
    exact ⟨by rw [HR.out]; rfl, HB1.out⟩
  have hc : chkT t (pn : Int) = 0 := by unfold chkT; rw [if_neg (by omega), if_pos hf]
  rw [hc] at hv
  obtain rfl := bare0 hv
  have HF := hide hf
  have b0 := BX1.out.cell 0 _ rfl
  clear hf hc hv
  go_wp2
  clear b0
  go_loopw [17] (fun i wr => ∃ k : Nat, k ≤ pn ∧ i = .int .i64 (k : Int) ∧ Hid (∀ (j : Nat) (p : Pro), j < k → l[j]? = some p → (hasT t (j : Int) = true → p.state = 2) ∧ (p.wait = 1 → hasT t (j : Int) = true)) ∧ Hid (Bl wr w.heap.size [.slice pa pn pc, .slice ra rn rc, .slice ta tn tc]) ∧ w.heap.size < wr.heap.size ∧ Hid (Below w.heap.size w wr)) (fun i _ => pn - (intOf i).toNat)
  case atStart => exact ⟨0, by omega, rfl, fun j p hj => by omega, BX1.out, hz1, HB1.out⟩
  case round =>
    obtain ⟨k, hk, rfl, hall, hbx, hz, hb⟩ := hrel
    by_cases hlt : k < pn
    · obtain ⟨p, hp⟩ : ∃ p, l[k]? = some p := ⟨_, List.getElem?_eq_getElem (by rw [HL.out]; exact hlt)⟩
      obtain ⟨b, off, rfl, hr⟩ := (HS.out.below hb.out).at pro21 (by decide) hp
      have HRg := hide hr
      have HB2 := hide (chain hb.out (new_below wr (.cells p.cells.toArray 60)))
      have BL1 := hide (hbx.out.below hz (new_below wr (.cells p.cells.toArray 60)))
      have B2 := hide (bl_alloc wr p.cells.toArray 60)
      have hk1 : (k : Int) < (pn : Int) := by omega
      have hz2 : w.heap.size < (wr.alloc (.cells p.cells.toArray 60)).heap.size := by simp; omega
      have hz3 : wr.heap.size < (wr.alloc (.cells p.cells.toArray 60)).heap.size := by simp
      have HPk := hide hp
      clear hr hp
      go_upto_region 6 with (first
        | (refine wpList_load_mid rfl 60 (.tmp 20) rfl b (off + k * 21) rfl p.cells _ HRg.out Tryd.underlying60 rfl sizeProc ?_)
        | (refine wpList_store_new rfl 60 (.tmp 4) (.tmp 21) rfl p.cells.toArray rfl rfl sizeProc (by rfl) (pro_all p) ?_))
      generalize wr.alloc (.cells p.cells.toArray 60) = W1 at *
      have b2 := BL1.out.cell 2 _ rfl
      clear HRg
      generalize wr.heap.size = pb at *
      go_wp2_with fail
      refine Calls.mono (tfind_any W1 ta tn tc t (HT.out.below HB2.out) (k : Int) hm) ?_
      rintro e w2 ⟨rfl, b3⟩
      have HB3 := hide (HB2.out.trans (b3.mono HB2.out.size))
      have BL2 := hide (BL1.out.below hz2 b3)
      have B3 := hide (B2.out.below hz3 b3)
      have hz4 : w.heap.size < w2.heap.size := Nat.lt_of_lt_of_le hz2 b3.size
      have q17 : w2.cell? ⟨pb, 17, none⟩ = some (.int .i64 p.state) := B3.out.cell 17 _ rfl
      have q19 : w2.cell? ⟨pb, 19, none⟩ = some (.int .i64 p.wait) := B3.out.cell 19 _ rfl
      rw [findT_has]
      clear b3 B2 BL1 hz2 hz3 B3 b2
      generalize p.cells.toArray = PA at *
      have HN : Hid (∀ h : (hasT t (k : Int) = true → p.state = 2) ∧ (p.wait = 1 → hasT t (k : Int) = true), ∀ (j : Nat) (q : Pro), j < k + 1 → l[j]? = some q → (hasT t (j : Int) = true → q.state = 2) ∧ (q.wait = 1 → hasT t (j : Int) = true)) := by
        intro h j q hj hq
        by_cases e : j = k
        · subst e
          rw [HPk.out] at hq
          obtain rfl := Option.some.inj hq
          exact h
        · exact hall.out j q (by omega) hq
      have HX : Hid (∀ h : ¬ ((hasT t (k : Int) = true → p.state = 2) ∧ (p.wait = 1 → hasT t (k : Int) = true)), decide (GoodT l t) = false) := fun h => decide_eq_false (fun g => h (g.2 (p, k) (List.mem_zipIdx_iff_getElem?.2 HPk.out)))
      generalize findD t (k : Int) = fd at *
      cases hh : hasT t (k : Int)
      · by_cases hw : p.wait = 1
        · have d1 : (p.wait == 1) = true := by simp [hw]
          have HR := hide (HX.out (fun h => by have := h.2 hw; rw [hh] at this; cases this))
          clear hw hh HN HX
          go_wp2
          go_ret
          exact ⟨by rw [HR.out]; rfl, HB3.out⟩
        · have d1 : (p.wait == 1) = false := by simp [hw]
          have HR := hide (HN.out ⟨(fun h => by rw [hh] at h; cases h), fun h => absurd h hw⟩)
          clear hw hh HN HX
          go_wp2
          go_roundw
          case rel => exact ⟨k + 1, by omega, by go_num, HR.out, BL2.out, hz4, HB3.out⟩
          case measure => simp [intOf]; omega
      · by_cases hs : p.state = 2
        · have d1 : (p.state != 2) = false := by simp [hs]
          have HR := hide (HN.out ⟨fun _ => hs, fun _ => hh⟩)
          clear hs hh HN HX
          go_wp2
          go_roundw
          case rel => exact ⟨k + 1, by omega, by go_num, HR.out, BL2.out, hz4, HB3.out⟩
          case measure => simp [intOf]; omega
        · have d1 : (p.state != 2) = true := by simp [hs]
          have HR := hide (HX.out (fun h => hs (h.1 hh)))
          clear hs hh HN HX
          go_wp2
          go_ret
          exact ⟨by rw [HR.out]; rfl, HB3.out⟩
    · obtain rfl : k = pn := by omega
      have HR : Hid (decide (GoodT l t) = true) := decide_eq_true ⟨by rw [HL.out]; exact HF.out, fun x hx => hall.out x.2 x.1 (by
        have := (List.getElem?_eq_some_iff.1 (List.mem_zipIdx_iff_getElem?.1 hx)).1
        rw [HL.out] at this
        exact this) (List.mem_zipIdx_iff_getElem?.1 hx)⟩
      go_wp2
      go_ret
      exact ⟨by rw [HR.out]; rfl, hb.out⟩

set_option maxRecDepth 100000 in
set_option maxHeartbeats 4000000 in
theorem rgood_any {w : World} {E : Nat → Addr} (he : Er3 w E) (pa : Option Addr) (pn pc : Nat) (l : List Pro) (hp : Pros w pa pn pc l) (ra : Option Addr) (rn rc : Nat) (r : List Int) (hr : Is w ra rn rc r) (ta : Option Addr) (tn tc : Nat) (t : List Tm) (ht : Tms w ta tn tc t) (hmp : pn ≤ 9223372036854775807) (hmr : rn ≤ 9223372036854775807) (hmt : tn ≤ 9223372036854775807) :
    Calls Tryd.prog 9 #[.agg #[.slice pa pn pc, .slice ra rn rc, .slice ta tn tc]] w fun e w' => e = .returned (.bool (decide (Good l r t))) ∧ Below w.heap.size w w' := by
  have HS := hide hp
  have HI := hide hr
  have HT := hide ht
  have HE := hide he
  have HL : Hid (l.length = pn) := hp.size
  have BX : Hid (Bl (w.alloc (.cells #[.slice pa pn pc, .slice ra rn rc, .slice ta tn tc] 29)) w.heap.size [.slice pa pn pc, .slice ra rn rc, .slice ta tn tc]) := bl_alloc w #[.slice pa pn pc, .slice ra rn rc, .slice ta tn tc] 29
  have HB0 := hide (new_below w (.cells #[.slice pa pn pc, .slice ra rn rc, .slice ta tn tc] 29))
  have hz0 : w.heap.size < (w.alloc (.cells #[.slice pa pn pc, .slice ra rn rc, .slice ta tn tc] 29)).heap.size := by simp
  clear hp hr ht he
  go_enter Tryd.func9, Tryd.ntmps9
  go_upto_region 1 with fail
  generalize w.alloc (.cells #[.slice pa pn pc, .slice ra rn rc, .slice ta tn tc] 29) = W0 at *
  have b0 := BX.out.cell 0 _ rfl
  by_cases h8 : 8 < pn
  · have d1 : decide ((8 : Int) < (pn : Int)) = true := decide_eq_true (by omega)
    have HR : Hid (decide (Good l r t) = false) := decide_eq_false (fun h => by have := h.1; rw [HL.out] at this; omega)
    go_wp2
    go_ret
    exact ⟨by rw [HR.out]; rfl, HB0.out⟩
  have d1 : decide ((8 : Int) < (pn : Int)) = false := decide_eq_false (by omega)
  have h8' : pn ≤ 8 := by omega
  go_wp2
  clear b0
  go_loopw [12] (fun i wr => ∃ k : Nat, k ≤ pn ∧ i = .int .i64 (k : Int) ∧ Hid (∀ (j : Nat) (p : Pro), j < k → l[j]? = some p → p.In) ∧ Hid (Bl wr w.heap.size [.slice pa pn pc, .slice ra rn rc, .slice ta tn tc]) ∧ w.heap.size < wr.heap.size ∧ Hid (Below w.heap.size w wr)) (fun i _ => pn - (intOf i).toNat)
  case atStart => exact ⟨0, by omega, rfl, fun j p hj => by omega, BX.out, hz0, HB0.out⟩
  case round =>
    obtain ⟨k, hk, rfl, hall, hbx, hz, hb⟩ := hrel
    by_cases hlt : k < pn
    · obtain ⟨p, hp⟩ : ∃ p, l[k]? = some p := ⟨_, List.getElem?_eq_getElem (by rw [HL.out]; exact hlt)⟩
      obtain ⟨b, off, rfl, hr⟩ := (HS.out.below hb.out).at pro21 (by decide) hp
      have HRg := hide hr
      have HB2 := hide (chain hb.out (new_below wr (.cells p.cells.toArray 60)))
      have BL1 := hide (hbx.out.below hz (new_below wr (.cells p.cells.toArray 60)))
      have RN := hide (rangeNew wr p.cells 60)
      have hk1 : (k : Int) < (pn : Int) := by omega
      have hz2 : w.heap.size < (wr.alloc (.cells p.cells.toArray 60)).heap.size := by simp; omega
      have HPk := hide hp
      clear hr hp
      go_upto_region 6 with (first
        | (refine wpList_load_mid rfl 60 (.tmp 14) rfl b (off + k * 21) rfl p.cells _ HRg.out Tryd.underlying60 rfl sizeProc ?_)
        | (refine wpList_store_new rfl 60 (.tmp 4) (.tmp 15) rfl p.cells.toArray rfl rfl sizeProc (by rfl) (pro_all p) ?_))
      generalize wr.alloc (.cells p.cells.toArray 60) = W1 at *
      generalize wr.heap.size = pb at *
      go_wp2_with (refine wpList_load_mid rfl 60 (.tmp 4) rfl pb 0 rfl p.cells _ RN.out Tryd.underlying60 rfl sizeProc ?_)
      refine Calls.mono (goodProc_any p W1) ?_
      rintro e w2 ⟨rfl, b3⟩
      have HB3 := hide (HB2.out.trans (b3.mono HB2.out.size))
      have BL2 := hide (BL1.out.below hz2 b3)
      have hz4 : w.heap.size < w2.heap.size := Nat.lt_of_lt_of_le hz2 b3.size
      clear b3 HB2 BL1 RN HRg hz2
      generalize p.cells.toArray = PA at *
      by_cases hin : p.In
      · have d2 : decide p.In = true := decide_eq_true hin
        rw [d2]
        have HN := hide hin
        clear hin d2
        go_wp2
        go_roundw
        case rel =>
          refine ⟨k + 1, by omega, by go_num, fun j q hj hq => ?_, BL2.out, hz4, HB3.out⟩
          by_cases e : j = k
          · subst e
            rw [HPk.out] at hq
            obtain rfl := Option.some.inj hq
            exact HN.out
          · exact hall.out j q (by omega) hq
        case measure => simp [intOf]; omega
      · have d2 : decide p.In = false := decide_eq_false hin
        have HR : Hid (decide (Good l r t) = false) := decide_eq_false (fun h => hin (h.2.1 p (List.mem_of_getElem? HPk.out)))
        rw [d2]
        clear hin d2
        go_wp2
        go_ret
        exact ⟨by rw [HR.out]; rfl, HB3.out⟩
    · obtain rfl : k = pn := by omega
      have HA : Hid (∀ p ∈ l, p.In) := fun p hp => by
        obtain ⟨j, hj⟩ := List.mem_iff_getElem?.1 hp
        have := (List.getElem?_eq_some_iff.1 hj).1
        rw [HL.out] at this
        exact hall.out j p this hj
      have b0 := hbx.out.cell 0 _ rfl
      have b1 := hbx.out.cell 1 _ rfl
      have b2 := hbx.out.cell 2 _ rfl
      go_wp2_with fail
      refine Calls.mono (goodReady_any wr pa k pc l (HS.out.below hb.out) ra rn rc r (HI.out.below hb.out) ta tn tc h8' hmr) ?_
      rintro e w2 ⟨rfl, b3⟩
      have HB3 := hide (chain hb.out b3)
      have BX3 := hide (hbx.out.below hz b3)
      clear b3 b0 b1 b2
      have b0 := BX3.out.cell 0 _ rfl
      have b1 := BX3.out.cell 1 _ rfl
      have b2 := BX3.out.cell 2 _ rfl
      by_cases hgr : GoodR l r
      · have d2 : decide (GoodR l r) = true := decide_eq_true hgr
        rw [d2]
        go_wp2_with fail
        refine Calls.mono (goodTimers_any (HE.out.below HB3.out) pa k pc l (HS.out.below HB3.out) ra rn rc ta tn tc t (HT.out.below HB3.out) h8' hmt) ?_
        rintro e w4 ⟨rfl, b4⟩
        have HB4 := hide (chain HB3.out b4)
        have HR : Hid (decide (Good l r t) = decide (GoodT l t)) := by
          unfold Hid
          exact decide_eq_decide.2 ⟨fun h => h.2.2.2, fun h => ⟨by rw [HL.out]; exact h8', HA.out, hgr, h⟩⟩
        clear b4 d2 hgr
        generalize decide (GoodT l t) = gt at *
        go_wp2
        go_ret
        exact ⟨by rw [HR.out]; rfl, HB4.out⟩
      · have d2 : decide (GoodR l r) = false := decide_eq_false hgr
        have HR : Hid (decide (Good l r t) = false) := decide_eq_false (fun h => hgr h.2.2.1)
        rw [d2]
        clear hgr d2
        go_wp2
        go_ret
        exact ⟨by rw [HR.out]; rfl, HB3.out⟩
end Go.Proofs.YtcfkngkenkbkaaaDoor
