/-
  ready's goodReady, goodTimers and Good.
-/
import Derived.Test.YtcfkngkenkbkaaaDoorRyBase
namespace Go.Proofs.YtcfkngkenkbkaaaDoor
open Classical
open Go.RowKit
set_option linter.unusedVariables false
set_option linter.unusedSimpArgs false

/-! How many of the first are ready; which of eight numbers stand in a list. -/
def cntR (l : List Pro) (k : Nat) : Nat := ((l.take k).filter fun p => decide (p.state = 1)).length
theorem cntR_le (l : List Pro) (k : Nat) : cntR l k ≤ k := Nat.le_trans (List.length_filter_le _ _) (by rw [List.length_take]; omega)
theorem cntR_yes {l : List Pro} {k : Nat} {p : Pro} (h : l[k]? = some p) (hs : p.state = 1) : cntR l (k + 1) = cntR l k + 1 := by
  unfold cntR
  rw [List.take_add_one, h, List.filter_append, List.length_append]
  simp [List.filter_cons, hs]
theorem cntR_no {l : List Pro} {k : Nat} {p : Pro} (h : l[k]? = some p) (hs : ¬ p.state = 1) : cntR l (k + 1) = cntR l k := by
  unfold cntR
  rw [List.take_add_one, h, List.filter_append, List.length_append]
  simp [List.filter_cons, hs]
theorem cntR_all (l : List Pro) : cntR l l.length = (l.filter fun p => decide (p.state = 1)).length := by unfold cntR; rw [List.take_length]
def inL (r : List Int) (i : Nat) : Bool := decide ((i : Int) ∈ r)
def seenI (r : List Int) : List Value := (List.range 8).map fun i => .bool (inL r i)
theorem seenI_len (r : List Int) : (seenI r).length = 8 := by simp [seenI]
theorem seenI_at (r : List Int) {i : Nat} (h : i < 8) : (seenI r)[i]? = some (.bool (inL r i)) := by simp [seenI, h]
theorem seenI_next (r : List Int) {p : Nat} (h : p < 8) : (seenI r).set p (.bool true) = seenI (r ++ [(p : Int)]) := by
  refine List.ext_getElem? fun j => ?_
  by_cases hj : j < 8
  · rw [seenI_at _ hj]
    by_cases e : j = p
    · subst e
      rw [List.getElem?_set_self (by rw [seenI_len]; exact hj)]
      simp [inL]
    · rw [List.getElem?_set_ne (Ne.symm e), seenI_at _ hj]
      simp [inL]
      intro h
      exact absurd (by omega) e
  · rw [List.getElem?_eq_none (by rw [List.length_set, seenI_len]; omega), List.getElem?_eq_none (by rw [seenI_len]; omega)]
theorem nodup_snoc {r : List Int} {i : Int} : (r ++ [i]).Nodup ↔ r.Nodup ∧ i ∉ r := by
  rw [List.nodup_append]
  constructor
  · rintro ⟨h1, _, h3⟩
    exact ⟨h1, fun h => h3 _ h _ (by simp) rfl⟩
  · rintro ⟨h1, h2⟩
    refine ⟨h1, by simp, fun a ha b hb => ?_⟩
    simp at hb
    subst hb
    rintro rfl
    exact h2 ha
theorem take_snoc {α : Type} {l : List α} {k : Nat} {x : α} (h : l[k]? = some x) : l.take (k + 1) = l.take k ++ [x] := by
  rw [List.take_add_one, h]
  rfl

set_option maxRecDepth 100000 in
set_option maxHeartbeats 4000000 in
theorem goodReady_any (w : World) (pa : Option Addr) (pn pc : Nat) (l : List Pro) (hp : Pros w pa pn pc l) (ra : Option Addr) (rn rc : Nat) (r : List Int) (hr : Is w ra rn rc r) (ta : Option Addr) (tn tc : Nat) (h8 : pn ≤ 8) (hm : rn ≤ 9223372036854775807) :
    Calls Tryd.prog 32 #[.agg #[.slice pa pn pc, .slice ra rn rc, .slice ta tn tc]] w fun e w' => e = .returned (.bool (decide (GoodR l r))) ∧ Below w.heap.size w w' := by
  have HS := hide hp
  have HI := hide hr
  have HL : Hid (l.length = pn) := hp.size
  have HLR : Hid (r.length = rn) := hr.size
  have BX : Hid (Bl (w.alloc (.cells #[.slice pa pn pc, .slice ra rn rc, .slice ta tn tc] 29)) w.heap.size [.slice pa pn pc, .slice ra rn rc, .slice ta tn tc]) := bl_alloc w #[.slice pa pn pc, .slice ra rn rc, .slice ta tn tc] 29
  have HB0 := hide (new_below w (.cells #[.slice pa pn pc, .slice ra rn rc, .slice ta tn tc] 29))
  have hz0 : w.heap.size < (w.alloc (.cells #[.slice pa pn pc, .slice ra rn rc, .slice ta tn tc] 29)).heap.size := by simp
  clear hp hr
  go_enter Tryd.func32, Tryd.ntmps32
  go_wp2
  generalize w.alloc (.cells #[.slice pa pn pc, .slice ra rn rc, .slice ta tn tc] 29) = W0 at *
  go_loopw [3, 12] (fun c i wr => ∃ k : Nat, k ≤ pn ∧ i = .int .i64 (k : Int) ∧ c = .int .i64 (cntR l k : Int) ∧ Hid (Bl wr w.heap.size [.slice pa pn pc, .slice ra rn rc, .slice ta tn tc]) ∧ w.heap.size < wr.heap.size ∧ Hid (Below w.heap.size w wr)) (fun _ i _ => pn - (intOf i).toNat)
  case atStart => exact ⟨0, by omega, rfl, rfl, BX.out, hz0, HB0.out⟩
  case round =>
    obtain ⟨k, hk, rfl, rfl, hbx, hz, hb⟩ := hrel
    by_cases hlt : k < pn
    · obtain ⟨p, ht⟩ : ∃ p, l[k]? = some p := ⟨_, List.getElem?_eq_getElem (by rw [HL.out]; exact hlt)⟩
      obtain ⟨b, off, rfl, hr⟩ := (HS.out.below hb.out).at pro21 (by decide) ht
      have HRg := hide hr
      have HB1 := hide (chain hb.out (new_below wr (.cells p.cells.toArray 60)))
      have BL1 := hide (hbx.out.below hz (new_below wr (.cells p.cells.toArray 60)))
      have hk1 : (k : Int) < (pn : Int) := by omega
      have HC := hide (cntR_le l k)
      have q17 : (wr.alloc (.cells p.cells.toArray 60)).cell? ⟨wr.heap.size, 17, none⟩ = some (.int .i64 p.state) := by rw [World.cell?_alloc_at _ _ _ _ rfl]; rfl
      have hz1 : w.heap.size < (wr.alloc (.cells p.cells.toArray 60)).heap.size := by simp; omega
      clear hr
      go_upto_region 5 with (first
        | (refine wpList_load_mid rfl 60 (.tmp 14) rfl b (off + k * 21) rfl p.cells _ HRg.out Tryd.underlying60 rfl sizeProc ?_)
        | (refine wpList_store_new rfl 60 (.tmp 5) (.tmp 15) rfl p.cells.toArray rfl rfl sizeProc (by rfl) (pro_all p) ?_))
      generalize wr.alloc (.cells p.cells.toArray 60) = W1 at *
      generalize p.cells.toArray = PA at *
      clear HRg
      by_cases hs : p.state = 1
      · have HN := hide (cntR_yes ht hs)
        have d1 : (p.state == 1) = true := by simp [hs]
        clear hs ht
        generalize cntR l k = c at *
        have hc8 : c ≤ 8 := by have := HC.out; omega
        go_wp2
        go_roundw
        case rel => exact ⟨k + 1, by omega, by go_num, by rw [HN.out]; go_num, BL1.out, hz1, HB1.out⟩
        case measure => simp [intOf]; omega
      · have HN := hide (cntR_no ht hs)
        have d1 : (p.state == 1) = false := by simp [hs]
        clear hs ht
        generalize cntR l k = c at *
        go_wp2
        go_roundw
        case rel => exact ⟨k + 1, by omega, by go_num, by rw [HN.out], BL1.out, hz1, HB1.out⟩
        case measure => simp [intOf]; omega
    · obtain rfl : k = pn := by omega
      have b1 := hbx.out.cell 1 _ rfl
      have HC : Hid (cntR l k = (l.filter fun p => decide (p.state = 1)).length) := by unfold Hid; rw [← HL.out]; exact cntR_all l
      have hc8 := cntR_le l k
      generalize cntR l k = c at *
      by_cases hne : rn = c
      case neg =>
        have d1 : ((rn : Int) != (c : Int)) = true := by simp; omega
        have HR : Hid (decide (GoodR l r) = false) := decide_eq_false (fun h => hne (by rw [← HLR.out, goodR_len h, HC.out]))
        clear hne
        go_wp2
        go_ret
        exact ⟨by rw [HR.out]; rfl, hb.out⟩
      subst hne
      have HZ : Hid (Bl (wr.alloc (.cells #[.bool false, .bool false, .bool false, .bool false, .bool false, .bool false, .bool false, .bool false] 61)) wr.heap.size (seenI [])) := by
        have := bl_alloc wr #[.bool false, .bool false, .bool false, .bool false, .bool false, .bool false, .bool false, .bool false] 61
        have e : (#[.bool false, .bool false, .bool false, .bool false, .bool false, .bool false, .bool false, .bool false] : Array Value).toList = seenI [] := rfl
        rw [e] at this
        exact this
      have X1 := new_below wr (.cells #[.bool false, .bool false, .bool false, .bool false, .bool false, .bool false, .bool false, .bool false] 61)
      have HB1 := hide (chain hb.out X1)
      have BX1 := hide (hbx.out.below hz X1)
      have hz1 : wr.heap.size < (wr.alloc (.cells #[.bool false, .bool false, .bool false, .bool false, .bool false, .bool false, .bool false, .bool false] 61)).heap.size := by simp
      clear X1 hbx hb
      go_wp2
      generalize wr.alloc (.cells #[.bool false, .bool false, .bool false, .bool false, .bool false, .bool false, .bool false, .bool false] 61) = W1 at *
      generalize wr.heap.size = sb at *
      clear b1
      go_loopw [30] (fun i wq => ∃ j : Nat, j ≤ rn ∧ i = .int .i64 (j : Int) ∧ Hid ((r.take j).Nodup) ∧ Hid (∀ i ∈ r.take j, ∃ (k : Nat) (p : Pro), l[k]? = some p ∧ i = (k : Int) ∧ p.state = 1) ∧ Hid (Bl wq sb (seenI (r.take j))) ∧ Hid (Bl wq w.heap.size [.slice pa k pc, .slice ra rn rc, .slice ta tn tc]) ∧ sb < wq.heap.size ∧ Hid (Below w.heap.size w wq)) (fun i _ => rn - (intOf i).toNat)
      case atStart => exact ⟨0, by omega, rfl, by unfold Hid; simp, fun i hi => by simp at hi, HZ.out, BX1.out, hz1, HB1.out⟩
      case round =>
        obtain ⟨j, hj, rfl, hnd, hall, hsn, hbx, hz2, hb⟩ := hrel
        by_cases hlt2 : j < rn
        · obtain ⟨x, hx⟩ : ∃ p, r[j]? = some p := ⟨_, List.getElem?_eq_getElem (by rw [HLR.out]; exact hlt2)⟩
          obtain ⟨b, off, rfl, hr⟩ := (HI.out.below hb.out).at ci1 (by decide) hx
          have q0 := hr 0 _ rfl
          simp only [Nat.add_zero, Nat.mul_one] at q0
          have b0 := hbx.out.cell 0 _ rfl
          have hj1 : (j : Int) < (rn : Int) := by omega
          have HX := hide hx
          have HM := hide (List.mem_of_getElem? hx)
          clear hr hx
          by_cases hx0 : x < 0
          · have d1 : decide (x < 0) = true := decide_eq_true hx0
            have HR : Hid (decide (GoodR l r) = false) := decide_eq_false (fun h => by have := h.1 x HM.out; omega)
            clear hx0
            go_wp2
            go_ret
            exact ⟨by rw [HR.out]; rfl, hb.out⟩
          have d1 : decide (x < 0) = false := decide_eq_false hx0
          by_cases hx1 : (k : Int) ≤ x
          · have d2 : decide ((k : Int) ≤ x) = true := decide_eq_true hx1
            have HR : Hid (decide (GoodR l r) = false) := decide_eq_false (fun h => by have := h.1 x HM.out; rw [HL.out] at this; omega)
            clear hx0 hx1
            go_wp2
            go_ret
            exact ⟨by rw [HR.out]; rfl, hb.out⟩
          obtain ⟨y, rfl⟩ : ∃ y : Nat, x = (y : Int) := ⟨x.toNat, by omega⟩
          have d2 : decide ((k : Int) ≤ (y : Int)) = false := decide_eq_false hx1
          have hy : y < k := by omega
          have d3 : ¬ k ≤ y := by omega
          have hy1 : (y : Int) < (k : Int) := by omega
          have hy0 : (0 : Int) ≤ (y : Int) := by omega
          have hy8 : (y : Int) < 8 := by omega
          have hy8n : y < 8 := by omega
          clear hx0 hx1
          obtain ⟨p, ht⟩ : ∃ p, l[y]? = some p := ⟨_, List.getElem?_eq_getElem (by rw [HL.out]; exact hy)⟩
          obtain ⟨bp, offp, rfl, hrp⟩ := (HS.out.below hb.out).at pro21 (by decide) ht
          have p17 := hrp 17 _ rfl
          have HT := hide ht
          clear hrp ht
          by_cases hs : p.state = 1
          case neg =>
            have d4 : (p.state != 1) = true := by simp [hs]
            have HR : Hid (decide (GoodR l r) = false) := decide_eq_false (fun h => hs (by
              obtain ⟨k', p', hk', e, hs'⟩ := goodR_mem h HM.out
              obtain rfl : y = k' := by omega
              rw [HT.out] at hk'
              obtain rfl := Option.some.inj hk'
              exact hs'))
            clear hs
            go_wp2
            go_ret
            exact ⟨by rw [HR.out]; rfl, hb.out⟩
          have HSt := hide hs
          have d4 : (p.state != 1) = false := by simp [hs]
          have HTK := hide (take_snoc HX.out)
          have c0 := hsn.out.cell y _ (seenI_at _ hy8n)
          have f0 := hsn.out.free y
          clear hs
          cases hh : inL (r.take j) y
          · rw [hh] at c0
            have HH := hide hh
            have bl2 := hsn.out.set (k := y) (by rw [seenI_len]; exact hy8n) (.bool true)
            rw [seenI_next _ hy8n, ← HTK.out] at bl2
            have BL2 := hide bl2
            have HZ2 : Hid (w.heap.size ≤ sb) := by unfold Hid; omega
            have BX2 := hide (hbx.out.far (g' := sb) (k := y) (u := .bool true) (by omega))
            have HB2 := hide (hb.out.setCell (p := ⟨sb, y, none⟩) HZ2.out (.bool true))
            clear bl2 hh
            go_wp2
            go_roundw
            case rel =>
              refine ⟨j + 1, by omega, by go_num, ?_, ?_, BL2.out, BX2.out, by simp [World.setCell]; omega, HB2.out⟩
              · unfold Hid
                rw [HTK.out, nodup_snoc]
                exact ⟨hnd.out, of_decide_eq_false HH.out⟩
              · intro i hi
                rw [HTK.out] at hi
                rcases List.mem_append.1 hi with hi | hi
                · exact hall.out i hi
                · simp at hi
                  exact ⟨y, p, HT.out, hi, HSt.out⟩
            case measure => simp [intOf]; omega
          · rw [hh] at c0
            have HR : Hid (decide (GoodR l r) = false) := decide_eq_false (fun h => by
              have h1 := (goodR_nodup h).sublist (List.take_sublist (j + 1) r)
              rw [HTK.out, nodup_snoc] at h1
              exact h1.2 (of_decide_eq_true hh))
            clear hh
            go_wp2
            go_ret
            exact ⟨by rw [HR.out]; rfl, hb.out⟩
        · obtain rfl : j = rn := by omega
          have hr1 := hnd.out
          have hr2 := hall.out
          rw [← HLR.out, List.take_length] at hr1 hr2
          have HR : Hid (decide (GoodR l r) = true) := decide_eq_true (goodR_of (by rw [HLR.out, HC.out]) hr2 hr1)
          clear hr1 hr2
          go_wp2
          go_ret
          exact ⟨by rw [HR.out]; rfl, hb.out⟩
end Go.Proofs.YtcfkngkenkbkaaaDoor
