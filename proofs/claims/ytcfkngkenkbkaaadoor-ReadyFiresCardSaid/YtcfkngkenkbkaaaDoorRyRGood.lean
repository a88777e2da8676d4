/-
  The document's Good and Pick; its comparing of numbers.
-/
import Derived.Test.YtcfkngkenkbkaaaDoorRyRef
import Derived.BigQuiet
import Derived.Deep.RegionHeld3
namespace Go.Proofs.YtcfkngkenkbkaaaDoor
open Classical
open Go.RowKit
set_option linter.unusedVariables false
set_option linter.unusedSimpArgs false

set_option maxRecDepth 100000 in
set_option maxHeartbeats 4000000 in
theorem rrgood_any (w : World) (pa : Option Addr) (pn pc : Nat) (l : List Pro) (hp : Pros w pa pn pc l) (ra : Option Addr) (rn rc : Nat) (r : List Int) (hr : Is w ra rn rc r) (ta : Option Addr) (tn tc : Nat) (t : List Tm) (ht : Tms w ta tn tc t) :
    Calls Tryd.prog 12 #[.agg #[.slice pa pn pc, .slice ra rn rc, .slice ta tn tc]] w fun e w' => e = .returned (.bool (decide (Good l r t))) ∧ Below w.heap.size w w' := by
  have HS := hide hp
  have HI := hide hr
  have HT := hide ht
  have HL : Hid (l.length = pn) := hp.size
  have HLR : Hid (r.length = rn) := hr.size
  have HLT : Hid (t.length = tn) := ht.size
  have BX : Hid (Bl (w.alloc (.cells #[.slice pa pn pc, .slice ra rn rc, .slice ta tn tc] 26)) w.heap.size [.slice pa pn pc, .slice ra rn rc, .slice ta tn tc]) := bl_alloc w #[.slice pa pn pc, .slice ra rn rc, .slice ta tn tc] 26
  have HB0 := hide (new_below w (.cells #[.slice pa pn pc, .slice ra rn rc, .slice ta tn tc] 26))
  have hz0 : w.heap.size < (w.alloc (.cells #[.slice pa pn pc, .slice ra rn rc, .slice ta tn tc] 26)).heap.size := by simp
  clear hp hr ht
  go_enter Tryd.func12, Tryd.ntmps12
  go_upto_region 1 with fail
  generalize w.alloc (.cells #[.slice pa pn pc, .slice ra rn rc, .slice ta tn tc] 26) = W0 at *
  have b0 := BX.out.cell 0 _ rfl
  have b1 := BX.out.cell 1 _ rfl
  have b2 := BX.out.cell 2 _ rfl
  by_cases h8 : 8 < pn
  · have d1 : decide ((8 : Int) < (pn : Int)) = true := decide_eq_true (by omega)
    have HR : Hid (decide (Good l r t) = false) := decide_eq_false (fun h => by have := h.1; rw [HL.out] at this; omega)
    go_wp2
    go_ret
    exact ⟨by rw [HR.out]; rfl, HB0.out⟩
  have d1 : decide ((8 : Int) < (pn : Int)) = false := decide_eq_false (by omega)
  by_cases h8r : 8 < rn
  · have d2 : decide ((8 : Int) < (rn : Int)) = true := decide_eq_true (by omega)
    have HR : Hid (decide (Good l r t) = false) := decide_eq_false (fun h => by have := goodR_few h.2.2.1 h.1; rw [HLR.out] at this; omega)
    go_wp2
    go_ret
    exact ⟨by rw [HR.out]; rfl, HB0.out⟩
  have d2 : decide ((8 : Int) < (rn : Int)) = false := decide_eq_false (by omega)
  by_cases h8t : 8 < tn
  · have d3 : decide ((8 : Int) < (tn : Int)) = true := decide_eq_true (by omega)
    have HR : Hid (decide (Good l r t) = false) := decide_eq_false (fun h => by have := h.tfew; rw [HLT.out] at this; omega)
    go_wp2
    go_ret
    exact ⟨by rw [HR.out]; rfl, HB0.out⟩
  have d3 : decide ((8 : Int) < (tn : Int)) = false := decide_eq_false (by omega)
  go_wp2
  clear d1 d2 d3 b0 b1 b2
  go_loopw [3] (fun i wr => ∃ k : Nat, k ≤ pn ∧ i = .int .i64 (k : Int) ∧ Hid (∀ (j : Nat) (p : Pro), j < k → l[j]? = some p → RefP p (tcount t (j : Int)) (r.count (j : Int))) ∧ Hid (Bl wr w.heap.size [.slice pa pn pc, .slice ra rn rc, .slice ta tn tc]) ∧ w.heap.size < wr.heap.size ∧ Hid (Below w.heap.size w wr)) (fun i _ => pn - (intOf i).toNat)
  case atStart => exact ⟨0, by omega, rfl, fun j p hj => by omega, BX.out, hz0, HB0.out⟩
  case round =>
    obtain ⟨k, hk, rfl, hall, hbx, hz, hb⟩ := hrel
    have b0 := hbx.out.cell 0 _ rfl
    have b1 := hbx.out.cell 1 _ rfl
    have b2 := hbx.out.cell 2 _ rfl
    by_cases hlt : k < pn
    · obtain ⟨p, hp⟩ : ∃ p, l[k]? = some p := ⟨_, List.getElem?_eq_getElem (by rw [HL.out]; exact hlt)⟩
      have hk1 : (k : Int) < (pn : Int) := by omega
      have HPk := hide hp
      clear hp
      go_wp2_with fail
      refine Calls.mono (rgoodProc_any wr pa pn pc l (HS.out.below hb.out) ra rn rc r (HI.out.below hb.out) ta tn tc t (HT.out.below hb.out) (by omega) (by omega) k p HPk.out) ?_
      rintro e w2 ⟨rfl, b3⟩
      have HB3 := hide (chain hb.out b3)
      have BL2 := hide (hbx.out.below hz b3)
      have hz4 : w.heap.size < w2.heap.size := Nat.lt_of_lt_of_le hz b3.size
      clear b3 b0 b1 b2
      by_cases hin : RefP p (tcount t (k : Int)) (r.count (k : Int))
      · rw [decide_eq_true hin]
        have HN := hide hin
        clear hin
        go_wp2
        go_roundw
        case rel =>
          refine ⟨k + 1, by omega, by go_num, fun j q hj hq => ?_, BL2.out, hz4, HB3.out⟩
          by_cases e : j = k
          · subst e
            rw [HPk.out] at hq
            obtain rfl := Option.some.inj hq
            exact HN.out
          · exact hall.out j q (by omega) hq
        case measure => simp [intOf]; omega
      · have HR : Hid (decide (Good l r t) = false) := decide_eq_false (fun h => hin (h.ref HPk.out))
        rw [decide_eq_false hin]
        clear hin
        go_wp2
        go_ret
        exact ⟨by rw [HR.out]; rfl, HB3.out⟩
    obtain rfl : k = pn := by omega
    have HA : Hid (∀ (j : Nat) (p : Pro), l[j]? = some p → RefP p (tcount t (j : Int)) (r.count (j : Int))) := fun j p hj => by
      have := (List.getElem?_eq_some_iff.1 hj).1
      rw [HL.out] at this
      exact hall.out j p this hj
    have HBX := hbx
    have HBW := hb
    have HZ := hz
    clear hall hbx hb hz
    go_wp2
    clear b0 b1 b2
    generalize wr = wq at *
    go_loopw [4] (fun i wr => ∃ j : Nat, j ≤ rn ∧ i = .int .i64 (j : Int) ∧ Hid (∀ (n : Nat) (x : Int), n < j → r[n]? = some x → 0 ≤ x ∧ x < (k : Int)) ∧ Hid (Bl wr w.heap.size [.slice pa k pc, .slice ra rn rc, .slice ta tn tc]) ∧ w.heap.size < wr.heap.size ∧ Hid (Below w.heap.size w wr)) (fun i _ => rn - (intOf i).toNat)
    case atStart => exact ⟨0, by omega, rfl, fun j p hj => by omega, HBX.out, HZ, HBW.out⟩
    case round =>
      obtain ⟨j, hj, rfl, hall, hbx, hz, hb⟩ := hrel
      have b0 := hbx.out.cell 0 _ rfl
      have b1 := hbx.out.cell 1 _ rfl
      have b2 := hbx.out.cell 2 _ rfl
      by_cases hlt2 : j < rn
      · obtain ⟨x, hx⟩ : ∃ p, r[j]? = some p := ⟨_, List.getElem?_eq_getElem (by rw [HLR.out]; exact hlt2)⟩
        obtain ⟨b, off, rfl, hr⟩ := (HI.out.below hb.out).at ci1 (by decide) hx
        have q0 := hr 0 _ rfl
        simp only [Nat.add_zero, Nat.mul_one] at q0
        have hj1 : (j : Int) < (rn : Int) := by omega
        have HX := hide hx
        have HM := hide (List.mem_of_getElem? hx)
        clear hr hx
        by_cases hx0 : x < 0
        · have d1 : decide (x < 0) = true := decide_eq_true hx0
          have HR : Hid (decide (Good l r t) = false) := decide_eq_false (fun h => by have := h.2.2.1.1 x HM.out; omega)
          clear hx0
          go_wp2
          go_quiet (fail)
          go_wp2
          go_ret
          exact ⟨by rw [HR.out]; rfl, drewN_below hb.out nq⟩
        have d1 : decide (x < 0) = false := decide_eq_false hx0
        by_cases hx1 : (k : Int) ≤ x
        · have d2 : decide ((k : Int) ≤ x) = true := decide_eq_true hx1
          have HR : Hid (decide (Good l r t) = false) := decide_eq_false (fun h => by have := h.2.2.1.1 x HM.out; rw [HL.out] at this; omega)
          clear hx0 hx1
          go_wp2
          go_quiet (fail)
          go_wp2
          go_ret
          exact ⟨by rw [HR.out]; rfl, drewN_below hb.out nq⟩
        have d2 : decide ((k : Int) ≤ x) = false := decide_eq_false hx1
        have HN : Hid (0 ≤ x ∧ x < (k : Int)) := ⟨by omega, by omega⟩
        clear hx0 hx1
        go_wp2
        go_quiet (fail)
        go_wp2
        go_roundw
        case rel =>
          refine ⟨j + 1, by omega, by go_num, fun n y hn hy => ?_, ?_, ?_, drewN_below hb.out nq⟩
          · by_cases e : n = j
            · subst e
              rw [HX.out] at hy
              obtain rfl := Option.some.inj hy
              exact HN.out
            · exact hall.out n y (by omega) hy
          · exact hbx.out.below hz (drewN_below (Below.refl _ _) nq)
          · simpa using hz
        case measure => simp [intOf]; omega
      obtain rfl : j = rn := by omega
      have HA2 : Hid (∀ x ∈ r, 0 ≤ x ∧ x < (k : Int)) := fun x hx => by
        obtain ⟨n, hn⟩ := List.mem_iff_getElem?.1 hx
        have := (List.getElem?_eq_some_iff.1 hn).1
        rw [HLR.out] at this
        exact hall.out n x this hn
      have HBX2 := hbx
      have HBW2 := hb
      have HZ2 := hz
      clear hall hbx hb hz HBX HBW HZ
      go_wp2
      clear b0 b1 b2
      generalize wr = wq2 at *
      go_loopw [5] (fun i wr => ∃ m : Nat, m ≤ tn ∧ i = .int .i64 (m : Int) ∧ Hid (∀ (n : Nat) (x : Tm), n < m → t[n]? = some x → x.In (k : Int)) ∧ Hid (∀ (n : Nat) (a b : Tm), n + 1 < m → t[n]? = some a → t[n + 1]? = some b → a.lt b = true) ∧ Hid (Bl wr w.heap.size [.slice pa k pc, .slice ra j rc, .slice ta tn tc]) ∧ w.heap.size < wr.heap.size ∧ Hid (Below w.heap.size w wr)) (fun i _ => tn - (intOf i).toNat)
      case atStart => exact ⟨0, by omega, rfl, fun j p hj => by omega, fun j a b hj => by omega, HBX2.out, HZ2, HBW2.out⟩
      case round =>
        obtain ⟨m, hm, rfl, hin, hadj, hbx, hz, hb⟩ := hrel
        have b0 := hbx.out.cell 0 _ rfl
        have b1 := hbx.out.cell 1 _ rfl
        have b2 := hbx.out.cell 2 _ rfl
        by_cases hlt3 : m < tn
        case neg =>
          obtain rfl : m = tn := by omega
          have HR : Hid (decide (Good l r t) = true) := decide_eq_true (Good.of_ref (by rw [HL.out]; omega) HA.out (fun i hi => by rw [HL.out]; exact HA2.out i hi) (fun x hx => by
            obtain ⟨n, hn⟩ := List.mem_iff_getElem?.1 hx
            have := (List.getElem?_eq_some_iff.1 hn).1
            rw [HLT.out] at this
            rw [HL.out]
            exact hin.out n x this hn) (fun n a b ha hb => hadj.out n a b (by
              have := (List.getElem?_eq_some_iff.1 hb).1
              rw [HLT.out] at this
              exact this) ha hb))
          go_wp2
          go_ret
          exact ⟨by rw [HR.out]; rfl, hb.out⟩
        obtain ⟨x, hx⟩ : ∃ p, t[m]? = some p := ⟨_, List.getElem?_eq_getElem (by rw [HLT.out]; exact hlt3)⟩
        obtain ⟨b, off, rfl, hr⟩ := (HT.out.below hb.out).at tm2 (by decide) hx
        have q0 := hr 0 _ rfl
        have q1 := hr 1 _ rfl
        simp only [Nat.add_zero] at q0
        have hm1 : (m : Int) < (tn : Int) := by omega
        have HX := hide hx
        have HM := hide (List.mem_of_getElem? hx)
        have X1 := new_below wr (.cells #[.int .i64 x.proc, .int .i64 x.due] 68)
        have HB1 := hide (chain hb.out X1)
        have BX1 := hide (hbx.out.below hz X1)
        have BT1 : Hid (Bl (wr.alloc (.cells #[.int .i64 x.proc, .int .i64 x.due] 68)) wr.heap.size [.int .i64 x.proc, .int .i64 x.due]) := bl_alloc wr #[.int .i64 x.proc, .int .i64 x.due] 68
        have hz1 : w.heap.size < (wr.alloc (.cells #[.int .i64 x.proc, .int .i64 x.due] 68)).heap.size := by simp; omega
        have hz2 : wr.heap.size < (wr.alloc (.cells #[.int .i64 x.proc, .int .i64 x.due] 68)).heap.size := by simp
        have HTM := hide (HT.out.below HB1.out)
        clear hr hx X1
        go_upto_region 17 with fail
        generalize wr.alloc (.cells #[.int .i64 x.proc, .int .i64 x.due] 68) = W1 at *
        clear b0 b1 b2 q0 q1 hbx hb hz
        generalize wr.heap.size = tb at *
        have b0 := BX1.out.cell 0 _ rfl
        have b2 := BX1.out.cell 2 _ rfl
        have q0 := BT1.out.cell 0 _ rfl
        have q1 := BT1.out.cell 1 _ rfl
        have HNo : Hid (¬ x.In (k : Int) → decide (Good l r t) = false) := fun hn => decide_eq_false (fun h => hn (by have := h.2.2.2.1.1 x HM.out; rw [HL.out] at this; exact this))
        by_cases c0 : x.proc < 0
        · have d0 : decide (x.proc < 0) = true := decide_eq_true c0
          have HR := hide (HNo.out (fun h => by have := h.1; omega))
          clear c0
          go_wp2
          go_ret
          exact ⟨by rw [HR.out]; rfl, HB1.out⟩
        have d0 : decide (x.proc < 0) = false := decide_eq_false c0
        by_cases c1 : (k : Int) ≤ x.proc
        · have d1 : decide ((k : Int) ≤ x.proc) = true := decide_eq_true c1
          have HR := hide (HNo.out (fun h => by have := h.2.1; omega))
          clear c0 c1
          go_wp2
          go_ret
          exact ⟨by rw [HR.out]; rfl, HB1.out⟩
        have d1 : decide ((k : Int) ≤ x.proc) = false := decide_eq_false c1
        by_cases c2 : x.due < 0
        · have d2 : decide (x.due < 0) = true := decide_eq_true c2
          have HR := hide (HNo.out (fun h => by have := h.2.2.1; omega))
          clear c0 c1 c2
          go_wp2
          go_ret
          exact ⟨by rw [HR.out]; rfl, HB1.out⟩
        have d2 : decide (x.due < 0) = false := decide_eq_false c2
        by_cases c3 : 1010000 < x.due
        · have d3 : decide (1010000 < x.due) = true := decide_eq_true c3
          have HR := hide (HNo.out (fun h => by have := h.2.2.2; omega))
          clear c0 c1 c2 c3
          go_wp2
          go_ret
          exact ⟨by rw [HR.out]; rfl, HB1.out⟩
        have d3 : decide (1010000 < x.due) = false := decide_eq_false c3
        have HIn : Hid (x.In (k : Int)) := ⟨by omega, by omega, by omega, by omega⟩
        have HIN1 : Hid (∀ (n : Nat) (y : Tm), n < m + 1 → t[n]? = some y → y.In (k : Int)) := fun n y hn hy => by
          by_cases e : n = m
          · subst e
            rw [HX.out] at hy
            obtain rfl := Option.some.inj hy
            exact HIn.out
          · exact hin.out n y (by omega) hy
        clear c0 c1 c2 c3 HNo
        go_upto_region 19 with fail
        clear d0 d1 d2 d3
        by_cases hm0 : m = 0
        · subst hm0
          go_wp2
          go_quiet (fail)
          go_wp2
          go_roundw
          case rel =>
            refine ⟨0 + 1, by omega, by go_num, HIN1.out, fun n a b hn => by omega, ?_, ?_, drewN_below HB1.out nq⟩
            · exact BX1.out.below hz1 (drewN_below (Below.refl _ _) nq)
            · simpa using hz1
          case measure => simp [intOf]; omega
        obtain ⟨y, hy⟩ : ∃ p, t[m - 1]? = some p := ⟨_, List.getElem?_eq_getElem (by rw [HLT.out]; omega)⟩
        obtain ⟨q, hq⟩ : ∃ q : Nat, q + 1 = m := ⟨m - 1, by omega⟩
        have eq : m - 1 = q := by omega
        rw [eq] at hy
        obtain ⟨b', off', e', hr⟩ := HTM.out.at tm2 (by decide) hy
        simp only [Option.some.injEq, Addr.mk.injEq, and_true] at e'
        obtain ⟨rfl, rfl⟩ := e'
        have y0 := hr 0 _ rfl
        have y1 := hr 1 _ rfl
        simp only [Nat.add_zero] at y0
        have hwr : IntKind.i64.wrap ((m : Int) - 1) = (q : Int) := by rw [IntKind.wrap_i64]; omega
        have hq1 : (q : Int) < (tn : Int) := by omega
        have hq0 : (0 : Int) ≤ (q : Int) := by omega
        have hp0 : decide ((0 : Int) < (m : Int)) = true := decide_eq_true (by omega)
        have hp1 : decide (0 < m) = true := decide_eq_true (by omega)
        have hp2 : 0 < m := by omega
        have HY := hide hy
        have HQ := hide hq
        clear hr hy eq hq hm0
        have HAh := hide (fun w' => rahead_any y x w')
        have HLt : Hid (y.lt x = false → decide (Good l r t) = false) := fun h => decide_eq_false (fun g => by
          have := form_adj g.2.2.2.1 q y x HY.out (by rw [HQ.out]; exact HX.out)
          rw [h] at this
          cases this)
        have HAd : Hid (y.lt x = true → ∀ (n : Nat) (a b : Tm), n + 1 < m + 1 → t[n]? = some a → t[n + 1]? = some b → a.lt b = true) := fun h n a b' hn ha hb' => by
          by_cases e : n = q
          · subst e
            rw [HY.out] at ha
            rw [HQ.out, HX.out] at hb'
            obtain rfl := Option.some.inj ha
            obtain rfl := Option.some.inj hb'
            exact h
          · exact hadj.out n a b' (by have := HQ.out; omega) ha hb'
        generalize y.lt x = lt at *
        go_wp2
        go_region_held3 (fun wz => wz.cell? ⟨w.heap.size, 2, none⟩ = some (.slice (some ⟨b, off, none⟩) tn tc) ∧ wz.cell? ⟨b, off + q * 2, none⟩ = some (.int .i64 y.proc) ∧ wz.cell? ⟨b, off + q * 2 + 1, none⟩ = some (.int .i64 y.due) ∧ wz.cell? ⟨tb, 0, none⟩ = some (.int .i64 x.proc) ∧ wz.cell? ⟨tb, 1, none⟩ = some (.int .i64 x.due)) (first | exact ⟨b2, y0, y1, q0, q1⟩ | exact ⟨z2, z3, z4, z5, z6⟩) (first | (go_at_call 35; refine (HAh.out _).mono ?_; rintro e w5 ⟨rfl, b5⟩; have bb : Below W1.heap.size W1 w5 := ⟨b5.os, b5.tape, b5.output, b5.size, b5.block⟩; have B5 := hide bb; have z2 := cell_below b2 bb; have z3 := cell_below y0 bb; have z4 := cell_below y1 bb; have z5 := cell_below q0 bb; have z6 := cell_below q1 bb; clear b5 bb))
        have HB5 := hide (HB1.out.trans (B5.out.mono HB1.out.size))
        have BX5 := hide (BX1.out.below hz1 B5.out)
        have hz5 : w.heap.size < w5.heap.size := Nat.lt_of_lt_of_le hz1 B5.out.size
        cases lt
        · have HR := hide (HLt.out rfl)
          go_wp2
          go_ret
          exact ⟨by rw [HR.out]; rfl, HB5.out⟩
        · have HA3 := hide (HAd.out rfl)
          go_wp2
          go_roundw
          case rel => exact ⟨m + 1, by omega, by go_num, HIN1.out, HA3.out, BX5.out, hz5, HB5.out⟩
          case measure => simp [intOf]; omega

set_option maxRecDepth 100000 in
set_option maxHeartbeats 4000000 in
theorem equalInts_any (w : World) (a : Option Addr) (len cap : Nat) (l : List Int) (hs : Is w a len cap l) (a' : Option Addr) (len' cap' : Nat) (m : List Int) (hs' : Is w a' len' cap' m) (hm : len ≤ 9223372036854775807) (hm' : len' ≤ 9223372036854775807) :
    Calls Tryd.prog 16 #[.slice a len cap, .slice a' len' cap'] w fun e w' => e = .returned (.bool (decide (l = m))) ∧ Below w.heap.size w w' := by
  have HS := hide hs
  have HS' := hide hs'
  have HL : Hid (l.length = len) := hs.size
  have HL' : Hid (m.length = len') := hs'.size
  clear hs hs'
  by_cases hlen : len = len'
  case neg =>
    have d1 : ((len : Int) != (len' : Int)) = true := by simp; omega
    have HR : Hid (decide (l = m) = false) := decide_eq_false (fun h => hlen (by rw [← HL.out, ← HL'.out, h]))
    clear hlen
    go_enter Tryd.func16, Tryd.ntmps16
    go_wp2
    go_ret
    exact ⟨by rw [HR.out]; rfl, Below.refl _ _⟩
  subst hlen
  go_enter Tryd.func16, Tryd.ntmps16
  go_wp2
  go_loopw [5] (fun i wr => ∃ k : Nat, k ≤ len ∧ i = .int .i64 (k : Int) ∧ Hid (∀ j, j < k → l[j]? = m[j]?) ∧ Hid (Below w.heap.size w wr)) (fun i _ => len - (intOf i).toNat)
  case atStart => exact ⟨0, by omega, rfl, fun j hj => by omega, Below.refl _ _⟩
  case round =>
    obtain ⟨k, hk, rfl, hall, hb⟩ := hrel
    by_cases hlt : k < len
    · obtain ⟨x, hx⟩ : ∃ p, l[k]? = some p := ⟨_, List.getElem?_eq_getElem (by rw [HL.out]; exact hlt)⟩
      obtain ⟨y, hy⟩ : ∃ p, m[k]? = some p := ⟨_, List.getElem?_eq_getElem (by rw [HL'.out]; exact hlt)⟩
      obtain ⟨b, off, rfl, hr⟩ := (HS.out.below hb.out).at ci1 (by decide) hx
      obtain ⟨b', off', rfl, hr'⟩ := (HS'.out.below hb.out).at ci1 (by decide) hy
      have q0 := hr 0 _ rfl
      have q1 := hr' 0 _ rfl
      simp only [Nat.add_zero, Nat.mul_one] at q0 q1
      have hk1 : (k : Int) < (len : Int) := by omega
      have HX := hide hx
      have HY := hide hy
      clear hr hr' hx hy
      by_cases hxy : x = y
      · have d1 : (x != y) = false := by simp [hxy]
        have HN : Hid (l[k]? = m[k]?) := by unfold Hid; rw [HX.out, HY.out, hxy]
        clear hxy
        go_wp2
        go_quiet (fail)
        go_wp2
        go_roundw
        case rel =>
          refine ⟨k + 1, by omega, by go_num, fun j hj => ?_, drewN_below hb.out nq⟩
          by_cases e : j = k
          · subst e
            exact HN.out
          · exact hall.out j (by omega)
        case measure => simp [intOf]; omega
      · have d1 : (x != y) = true := by simp [hxy]
        have HR : Hid (decide (l = m) = false) := decide_eq_false (fun h => hxy (by
          have h1 := HX.out
          rw [h, HY.out] at h1
          exact (Option.some.inj h1).symm))
        clear hxy
        go_wp2
        go_quiet (fail)
        go_wp2
        go_ret
        exact ⟨by rw [HR.out]; rfl, drewN_below hb.out nq⟩
    · obtain rfl : k = len := by omega
      have HR : Hid (decide (l = m) = true) := decide_eq_true (List.ext_getElem? fun j => by
        by_cases hj : j < k
        · exact hall.out j hj
        · rw [List.getElem?_eq_none (by rw [HL.out]; omega), List.getElem?_eq_none (by rw [HL'.out]; omega)])
      go_wp2
      go_ret
      exact ⟨by rw [HR.out]; rfl, hb.out⟩
end Go.Proofs.YtcfkngkenkbkaaaDoor
