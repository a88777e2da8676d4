/-
  The document's tables: count, timers, ahead, goodProc.
-/
import Derived.Test.YtcfkngkenkbkaaaDoorRyPick
import Derived.Deep.CutBlock
namespace Go.Proofs.YtcfkngkenkbkaaaDoor
open Classical
open Go.RowKit
set_option linter.unusedVariables false
set_option linter.unusedSimpArgs false

theorem count_take {r : List Int} {k : Nat} {x : Int} (n : Int) (h : r[k]? = some x) : (r.take (k + 1)).count n = (r.take k).count n + if x == n then 1 else 0 := by
  rw [take_snoc h, List.count_append]
  simp [List.count_cons]
theorem count_le (r : List Int) (n : Int) : r.count n ≤ r.length := List.count_le_length
set_option maxRecDepth 100000 in
set_option maxHeartbeats 4000000 in
theorem rcount_any (w : World) (a : Option Addr) (len cap : Nat) (r : List Int) (hs : Is w a len cap r) (n : Int) (hm : len ≤ 1000000) :
    Calls Tryd.prog 54 #[.slice a len cap, .int .i64 n] w fun e w' => e = .returned (.int .i64 (r.count n : Int)) ∧ w' = w := by
  have HS := hide hs
  have HL : Hid (r.length = len) := hs.size
  clear hs
  go_enter Tryd.func54, Tryd.ntmps54
  go_wp2
  go_loopw [5, 6] (fun c i wr => ∃ k : Nat, k ≤ len ∧ i = .int .i64 (k : Int) ∧ c = .int .i64 ((r.take k).count n : Int) ∧ wr = w) (fun _ i _ => len - (intOf i).toNat)
  case atStart => exact ⟨0, by omega, rfl, rfl, rfl⟩
  case round =>
    obtain ⟨k, hk, rfl, rfl, rfl⟩ := hrel
    by_cases hlt : k < len
    · obtain ⟨x, hx⟩ : ∃ p, r[k]? = some p := ⟨_, List.getElem?_eq_getElem (by rw [HL.out]; exact hlt)⟩
      obtain ⟨b, off, rfl, hr⟩ := HS.out.at ci1 (by decide) hx
      have q0 := hr 0 _ rfl
      simp only [Nat.add_zero, Nat.mul_one] at q0
      have hk1 : (k : Int) < (len : Int) := by omega
      have HN := hide (count_take n hx)
      have hc : (r.take k).count n ≤ k := Nat.le_trans (count_le _ _) (by rw [List.length_take]; omega)
      clear hr hx
      generalize (r.take k).count n = c at *
      cases hxn : (x == n)
      · rw [hxn] at HN
        go_wp2
        go_roundw
        case rel => exact ⟨k + 1, by omega, by go_num, by rw [HN.out]; rfl, trivial⟩
        case measure => simp [intOf]; omega
      · rw [hxn] at HN
        have hc8 : c ≤ 1000000 := by omega
        go_wp2
        go_roundw
        case rel => exact ⟨k + 1, by omega, by go_num, by rw [HN.out]; simp, trivial⟩
        case measure => simp [intOf]; omega
    · obtain rfl : k = len := by omega
      have HT : Hid (r.take k = r) := by unfold Hid; rw [← HL.out, List.take_length]
      rw [HT.out]
      go_wp2
      go_ret
      exact ⟨rfl, rfl⟩

theorem tcount_take {t : List Tm} {k : Nat} {x : Tm} (n : Int) (h : t[k]? = some x) : tcount (t.take (k + 1)) n = tcount (t.take k) n + if x.proc == n then 1 else 0 := by
  unfold tcount
  rw [take_snoc h, List.map_append, List.count_append]
  simp [List.count_cons]
set_option maxRecDepth 100000 in
set_option maxHeartbeats 4000000 in
theorem rtimers_any (w : World) (pa : Option Addr) (pn pc : Nat) (ra : Option Addr) (rn rc : Nat) (a : Option Addr) (len cap : Nat) (t : List Tm) (hs : Tms w a len cap t) (n : Int) (hm : len ≤ 1000000) :
    Calls Tryd.prog 53 #[.agg #[.slice pa pn pc, .slice ra rn rc, .slice a len cap], .int .i64 n] w fun e w' => e = .returned (.int .i64 (tcount t n : Int)) ∧ Below w.heap.size w w' := by
  have HB0 := hide (new_below w (.cells #[.slice pa pn pc, .slice ra rn rc, .slice a len cap] 26))
  have BX : Hid (Bl (w.alloc (.cells #[.slice pa pn pc, .slice ra rn rc, .slice a len cap] 26)) w.heap.size [.slice pa pn pc, .slice ra rn rc, .slice a len cap]) := bl_alloc w #[.slice pa pn pc, .slice ra rn rc, .slice a len cap] 26
  have HS := hide (hs.below HB0.out)
  have HL : Hid (t.length = len) := hs.size
  clear hs
  go_enter Tryd.func53, Tryd.ntmps53
  go_upto_region 1 with fail
  generalize w.alloc (.cells #[.slice pa pn pc, .slice ra rn rc, .slice a len cap] 26) = W0 at *
  have b2 := BX.out.cell 2 _ rfl
  clear BX
  go_wp2
  go_loopw [5, 6] (fun c i wr => ∃ k : Nat, k ≤ len ∧ i = .int .i64 (k : Int) ∧ c = .int .i64 (tcount (t.take k) n : Int) ∧ wr = W0) (fun _ i _ => len - (intOf i).toNat)
  case atStart => exact ⟨0, by omega, rfl, rfl, rfl⟩
  case round =>
    obtain ⟨k, hk, rfl, rfl, rfl⟩ := hrel
    by_cases hlt : k < len
    · obtain ⟨x, hx⟩ : ∃ p, t[k]? = some p := ⟨_, List.getElem?_eq_getElem (by rw [HL.out]; exact hlt)⟩
      obtain ⟨b, off, rfl, hr⟩ := HS.out.at tm2 (by decide) hx
      have q0 := hr 0 _ rfl
      simp only [Nat.add_zero] at q0
      have hk1 : (k : Int) < (len : Int) := by omega
      have HN := hide (tcount_take n hx)
      have hc : tcount (t.take k) n ≤ k := Nat.le_trans (count_le _ _) (by rw [List.length_map, List.length_take]; omega)
      clear hr hx
      generalize tcount (t.take k) n = c at *
      cases hxn : (x.proc == n)
      · rw [hxn] at HN
        go_wp2
        go_roundw
        case rel => exact ⟨k + 1, by omega, by go_num, by rw [HN.out]; rfl, trivial⟩
        case measure => simp [intOf]; omega
      · rw [hxn] at HN
        have hc8 : c ≤ 1000000 := by omega
        go_wp2
        go_roundw
        case rel => exact ⟨k + 1, by omega, by go_num, by rw [HN.out]; simp, trivial⟩
        case measure => simp [intOf]; omega
    · obtain rfl : k = len := by omega
      have HT : Hid (t.take k = t) := by unfold Hid; rw [← HL.out, List.take_length]
      rw [HT.out]
      go_wp2
      go_ret
      exact ⟨rfl, HB0.out⟩

set_option maxRecDepth 100000 in
set_option maxHeartbeats 4000000 in
theorem rahead_any (x y : Tm) (w : World) : Calls Tryd.prog 35 #[.agg #[.int .i64 x.proc, .int .i64 x.due], .agg #[.int .i64 y.proc, .int .i64 y.due]] w fun e w' => e = .returned (.bool (x.lt y)) ∧ Below w.heap.size w w' := by
  have HB : Hid (Below w.heap.size w ((w.alloc (.cells #[.int .i64 x.proc, .int .i64 x.due] 68)).alloc (.cells #[.int .i64 y.proc, .int .i64 y.due] 68))) := chain (new_below w _) (new_below _ _)
  by_cases h1 : x.due < y.due
  · have d1 : decide (x.due < y.due) = true := decide_eq_true h1
    have HR : Hid (x.lt y = true) := decide_eq_true (.inl h1)
    clear h1
    go_enter Tryd.func35, Tryd.ntmps35
    go_wp2
    go_ret
    exact ⟨by rw [HR.out]; rfl, HB.out⟩
  have d1 : decide (x.due < y.due) = false := decide_eq_false h1
  by_cases h2 : x.due = y.due
  case neg =>
    have d2 : (x.due == y.due) = false := by simp [h2]
    have HR : Hid (x.lt y = false) := decide_eq_false (by omega)
    clear h1 h2
    go_enter Tryd.func35, Tryd.ntmps35
    go_wp2
    go_ret
    exact ⟨by rw [HR.out]; rfl, HB.out⟩
  have d2 : (x.due == y.due) = true := by simp [h2]
  have HR : Hid (x.lt y = decide (x.proc < y.proc)) := by
    unfold Hid Tm.lt
    exact decide_eq_decide.2 (by omega)
  clear h1 h2
  go_enter Tryd.func35, Tryd.ntmps35
  go_wp2
  go_ret
  exact ⟨by rw [HR.out]; rfl, HB.out⟩

set_option maxRecDepth 100000 in
set_option maxHeartbeats 4000000 in
theorem rgoodProc_any (w : World) (pa : Option Addr) (pn pc : Nat) (l : List Pro) (hp : Pros w pa pn pc l) (ra : Option Addr) (rn rc : Nat) (r : List Int) (hr : Is w ra rn rc r) (ta : Option Addr) (tn tc : Nat) (t : List Tm) (ht : Tms w ta tn tc t) (hmr : rn ≤ 1000000) (hmt : tn ≤ 1000000) (k : Nat) (p : Pro) (hk : l[k]? = some p) :
    Calls Tryd.prog 34 #[.agg #[.slice pa pn pc, .slice ra rn rc, .slice ta tn tc], .int .i64 (k : Int)] w fun e w' => e = .returned (.bool (decide (RefP p (tcount t (k : Int)) (r.count (k : Int))))) ∧ Below w.heap.size w w' := by
  have X1 := new_below w (.cells #[.slice pa pn pc, .slice ra rn rc, .slice ta tn tc] 26)
  have BX0 : Hid (Bl (w.alloc (.cells #[.slice pa pn pc, .slice ra rn rc, .slice ta tn tc] 26)) w.heap.size [.slice pa pn pc, .slice ra rn rc, .slice ta tn tc]) := bl_alloc w #[.slice pa pn pc, .slice ra rn rc, .slice ta tn tc] 26
  have hz0 : w.heap.size < (w.alloc (.cells #[.slice pa pn pc, .slice ra rn rc, .slice ta tn tc] 26)).heap.size := by simp
  obtain ⟨b, off, rfl, hrg⟩ := (hp.below X1).at pro21 (by decide) hk
  have HRg := hide hrg
  have HI := hide (hr.below X1)
  have HT := hide (ht.below X1)
  have HL : Hid (l.length = pn) := hp.size
  have hkl : k < pn := by have := (List.getElem?_eq_some_iff.1 hk).1; rw [HL.out] at this; exact this
  have hk1 : (k : Int) < (pn : Int) := by omega
  have HX1 := hide X1
  clear hrg hp hr ht X1 hk
  go_enter Tryd.func34, Tryd.ntmps34
  go_upto_region 1 with fail
  generalize w.alloc (.cells #[.slice (some ⟨b, off, none⟩) pn pc, .slice ra rn rc, .slice ta tn tc] 26) = W0 at *
  have b0 := BX0.out.cell 0 _ rfl
  have X2 := new_below W0 (.cells p.cells.toArray 60)
  have BX := hide (BX0.out.below hz0 X2)
  have BP : Hid (Bl (W0.alloc (.cells p.cells.toArray 60)) W0.heap.size p.cells) := bl_alloc W0 p.cells.toArray 60
  have hz1 : w.heap.size < (W0.alloc (.cells p.cells.toArray 60)).heap.size := by simp; omega
  have hz2 : W0.heap.size < (W0.alloc (.cells p.cells.toArray 60)).heap.size := by simp
  have HB0 := hide (HX1.out.trans (X2.mono HX1.out.size))
  have HI2 := hide (HI.out.below X2)
  have HT2 := hide (HT.out.below X2)
  clear X2 HI HT HX1 BX0 hz0
  go_upto_region 2 with (first
    | (refine wpList_load_mid rfl 60 (.tmp 11) rfl b (off + k * 21) rfl p.cells _ HRg.out Tryd.underlying60 rfl sizeProc ?_)
    | (refine wpList_store_new rfl 60 (.tmp 5) (.tmp 12) rfl p.cells.toArray rfl rfl sizeProc (by rfl) (pro_all p) ?_))
  generalize W0.alloc (.cells p.cells.toArray 60) = W1 at *
  generalize W0.heap.size = pb at *
  have q0 : W1.cell? ⟨pb, 0, none⟩ = some (.int .u32 p.r0) := BP.out.cell 0 _ rfl
  have q17 : W1.cell? ⟨pb, 17, none⟩ = some (.int .i64 p.state) := BP.out.cell 17 _ rfl
  have q18 : W1.cell? ⟨pb, 18, none⟩ = some (.int .i64 p.prio) := BP.out.cell 18 _ rfl
  have q19 : W1.cell? ⟨pb, 19, none⟩ = some (.int .i64 p.wait) := BP.out.cell 19 _ rfl
  have q20 : W1.cell? ⟨pb, 20, none⟩ = some (.int .i64 p.obj) := BP.out.cell 20 _ rfl
  clear HRg b0
  generalize p.cells.toArray = PA at *
  simp only [Act.put, List.setIfInBounds_toArray, List.set_cons_succ, List.set_cons_zero]
  go_cut [46] from 13 to 46 (fun v wx => v = .bool (!decide (p.r0 = 0 ∧ 0 ≤ p.state ∧ p.state ≤ 3 ∧ 0 ≤ p.prio ∧ p.prio ≤ 255 ∧ 0 ≤ p.wait ∧ p.wait ≤ 4)) ∧ wx = W1)
  case first =>
    clear HB0 HI2 HT2 BX BP
    by_cases c0 : p.r0 = 0
    case neg =>
      have d0 : (p.r0 != 0) = true := by simp [c0]
      have HR : Hid (decide (p.r0 = 0 ∧ 0 ≤ p.state ∧ p.state ≤ 3 ∧ 0 ≤ p.prio ∧ p.prio ≤ 255 ∧ 0 ≤ p.wait ∧ p.wait ≤ 4) = false) := decide_eq_false (by omega)
      clear c0
      go_wp2
      go_meet
      exact ⟨by rw [HR.out]; rfl, rfl⟩
    have d0 : (p.r0 != 0) = false := by simp [c0]
    by_cases c1 : p.state < 0
    case pos =>
      have d1 : decide (p.state < 0) = true := decide_eq_true c1
      have HR : Hid (decide (p.r0 = 0 ∧ 0 ≤ p.state ∧ p.state ≤ 3 ∧ 0 ≤ p.prio ∧ p.prio ≤ 255 ∧ 0 ≤ p.wait ∧ p.wait ≤ 4) = false) := decide_eq_false (by omega)
      clear c0 c1
      go_wp2
      go_meet
      exact ⟨by rw [HR.out]; rfl, rfl⟩
    have d1 : decide (p.state < 0) = false := decide_eq_false c1
    by_cases c2 : 3 < p.state
    case pos =>
      have d2 : decide (3 < p.state) = true := decide_eq_true c2
      have HR : Hid (decide (p.r0 = 0 ∧ 0 ≤ p.state ∧ p.state ≤ 3 ∧ 0 ≤ p.prio ∧ p.prio ≤ 255 ∧ 0 ≤ p.wait ∧ p.wait ≤ 4) = false) := decide_eq_false (by omega)
      clear c0 c1 c2
      go_wp2
      go_meet
      exact ⟨by rw [HR.out]; rfl, rfl⟩
    have d2 : decide (3 < p.state) = false := decide_eq_false c2
    by_cases c3 : p.prio < 0
    case pos =>
      have d3 : decide (p.prio < 0) = true := decide_eq_true c3
      have HR : Hid (decide (p.r0 = 0 ∧ 0 ≤ p.state ∧ p.state ≤ 3 ∧ 0 ≤ p.prio ∧ p.prio ≤ 255 ∧ 0 ≤ p.wait ∧ p.wait ≤ 4) = false) := decide_eq_false (by omega)
      clear c0 c1 c2 c3
      go_wp2
      go_meet
      exact ⟨by rw [HR.out]; rfl, rfl⟩
    have d3 : decide (p.prio < 0) = false := decide_eq_false c3
    by_cases c4 : 255 < p.prio
    case pos =>
      have d4 : decide (255 < p.prio) = true := decide_eq_true c4
      have HR : Hid (decide (p.r0 = 0 ∧ 0 ≤ p.state ∧ p.state ≤ 3 ∧ 0 ≤ p.prio ∧ p.prio ≤ 255 ∧ 0 ≤ p.wait ∧ p.wait ≤ 4) = false) := decide_eq_false (by omega)
      clear c0 c1 c2 c3 c4
      go_wp2
      go_meet
      exact ⟨by rw [HR.out]; rfl, rfl⟩
    have d4 : decide (255 < p.prio) = false := decide_eq_false c4
    by_cases c5 : p.wait < 0
    case pos =>
      have d5 : decide (p.wait < 0) = true := decide_eq_true c5
      have HR : Hid (decide (p.r0 = 0 ∧ 0 ≤ p.state ∧ p.state ≤ 3 ∧ 0 ≤ p.prio ∧ p.prio ≤ 255 ∧ 0 ≤ p.wait ∧ p.wait ≤ 4) = false) := decide_eq_false (by omega)
      clear c0 c1 c2 c3 c4 c5
      go_wp2
      go_meet
      exact ⟨by rw [HR.out]; rfl, rfl⟩
    have d5 : decide (p.wait < 0) = false := decide_eq_false c5
    by_cases c6 : 4 < p.wait
    case pos =>
      have d6 : decide (4 < p.wait) = true := decide_eq_true c6
      have HR : Hid (decide (p.r0 = 0 ∧ 0 ≤ p.state ∧ p.state ≤ 3 ∧ 0 ≤ p.prio ∧ p.prio ≤ 255 ∧ 0 ≤ p.wait ∧ p.wait ≤ 4) = false) := decide_eq_false (by omega)
      clear c0 c1 c2 c3 c4 c5 c6
      go_wp2
      go_meet
      exact ⟨by rw [HR.out]; rfl, rfl⟩
    have d6 : decide (4 < p.wait) = false := decide_eq_false c6
    have HR : Hid (decide (p.r0 = 0 ∧ 0 ≤ p.state ∧ p.state ≤ 3 ∧ 0 ≤ p.prio ∧ p.prio ≤ 255 ∧ 0 ≤ p.wait ∧ p.wait ≤ 4) = true) := decide_eq_true (by omega)
    clear c0 c1 c2 c3 c4 c5 c6
    go_wp2
    go_meet
    exact ⟨by rw [HR.out]; rfl, rfl⟩
  case rest =>
    obtain ⟨rfl, rfl⟩ := hcut
    have HD : Hid (decide (RefP p (tcount t (k : Int)) (r.count (k : Int))) = (decide (p.r0 = 0 ∧ 0 ≤ p.state ∧ p.state ≤ 3 ∧ 0 ≤ p.prio ∧ p.prio ≤ 255 ∧ 0 ≤ p.wait ∧ p.wait ≤ 4) && decide (RefP p (tcount t (k : Int)) (r.count (k : Int))))) := by
      unfold Hid
      by_cases h : RefP p (tcount t (k : Int)) (r.count (k : Int))
      · rw [decide_eq_true h, decide_eq_true h.1]; rfl
      · rw [decide_eq_false h, Bool.and_false]
    cases hb2 : decide (p.r0 = 0 ∧ 0 ≤ p.state ∧ p.state ≤ 3 ∧ 0 ≤ p.prio ∧ p.prio ≤ 255 ∧ 0 ≤ p.wait ∧ p.wait ≤ 4)
    · rw [hb2] at HD
      clear hb2
      go_wp2
      go_ret
      exact ⟨by rw [HD.out]; rfl, HB0.out⟩
    have H2 := hide (of_decide_eq_true hb2)
    clear hb2 HD
    go_upto_region 4 with fail
    go_cut [68] from 47 to 68 (fun v wx => v = .bool (!decide ((p.wait ≠ 0 ↔ p.state = 2) ∧ 0 ≤ p.obj ∧ (p.wait ≤ 1 → p.obj = 0))) ∧ wx = wc)
    case first =>
      clear HB0 HI2 HT2 BX BP H2
      by_cases s2 : p.state = 2
      · have e2 : (p.state == 2) = true := by simp [s2]
        by_cases w0 : p.wait = 0
        case pos =>
          have e3 : (p.wait != 0) = false := by simp [w0]
          have HR : Hid (decide ((p.wait ≠ 0 ↔ p.state = 2) ∧ 0 ≤ p.obj ∧ (p.wait ≤ 1 → p.obj = 0)) = false) := decide_eq_false (fun h => (h.1.2 s2) w0)
          clear s2 w0
          go_wp2
          go_meet
          exact ⟨by rw [HR.out]; rfl, rfl⟩
        have e3 : (p.wait != 0) = true := by simp [w0]
        by_cases o0 : p.obj < 0
        case pos =>
          have e4 : decide (p.obj < 0) = true := decide_eq_true o0
          have HR : Hid (decide ((p.wait ≠ 0 ↔ p.state = 2) ∧ 0 ≤ p.obj ∧ (p.wait ≤ 1 → p.obj = 0)) = false) := decide_eq_false (fun h => by have := h.2.1; omega)
          clear s2 w0 o0
          go_wp2
          go_meet
          exact ⟨by rw [HR.out]; rfl, rfl⟩
        have e4 : decide (p.obj < 0) = false := decide_eq_false o0
        by_cases w1 : p.wait ≤ 1
        · have e5 : decide (p.wait ≤ 1) = true := decide_eq_true w1
          by_cases o1 : p.obj = 0
          · have e6 : (p.obj != 0) = false := by simp [o1]
            have HR : Hid (decide ((p.wait ≠ 0 ↔ p.state = 2) ∧ 0 ≤ p.obj ∧ (p.wait ≤ 1 → p.obj = 0)) = true) := decide_eq_true (⟨⟨fun _ => s2, fun _ => w0⟩, by omega, fun _ => o1⟩)
            clear s2 w0 o0 w1 o1
            go_wp2
            go_meet
            exact ⟨by rw [HR.out]; rfl, rfl⟩
          · have e6 : (p.obj != 0) = true := by simp [o1]
            have HR : Hid (decide ((p.wait ≠ 0 ↔ p.state = 2) ∧ 0 ≤ p.obj ∧ (p.wait ≤ 1 → p.obj = 0)) = false) := decide_eq_false (fun h => o1 (h.2.2 w1))
            clear s2 w0 o0 w1 o1
            go_wp2
            go_meet
            exact ⟨by rw [HR.out]; rfl, rfl⟩
        · have e5 : decide (p.wait ≤ 1) = false := decide_eq_false w1
          have HR : Hid (decide ((p.wait ≠ 0 ↔ p.state = 2) ∧ 0 ≤ p.obj ∧ (p.wait ≤ 1 → p.obj = 0)) = true) := decide_eq_true (⟨⟨fun _ => s2, fun _ => w0⟩, by omega, fun h => absurd h w1⟩)
          clear s2 w0 o0 w1
          go_wp2
          go_meet
          exact ⟨by rw [HR.out]; rfl, rfl⟩
      · have e2 : (p.state == 2) = false := by simp [s2]
        by_cases w0 : p.wait = 0
        case neg =>
          have e3 : (p.wait != 0) = true := by simp [w0]
          have HR : Hid (decide ((p.wait ≠ 0 ↔ p.state = 2) ∧ 0 ≤ p.obj ∧ (p.wait ≤ 1 → p.obj = 0)) = false) := decide_eq_false (fun h => s2 (h.1.1 w0))
          clear s2 w0
          go_wp2
          go_meet
          exact ⟨by rw [HR.out]; rfl, rfl⟩
        have e3 : (p.wait != 0) = false := by simp [w0]
        by_cases o0 : p.obj < 0
        case pos =>
          have e4 : decide (p.obj < 0) = true := decide_eq_true o0
          have HR : Hid (decide ((p.wait ≠ 0 ↔ p.state = 2) ∧ 0 ≤ p.obj ∧ (p.wait ≤ 1 → p.obj = 0)) = false) := decide_eq_false (fun h => by have := h.2.1; omega)
          clear s2 w0 o0
          go_wp2
          go_meet
          exact ⟨by rw [HR.out]; rfl, rfl⟩
        have e4 : decide (p.obj < 0) = false := decide_eq_false o0
        by_cases w1 : p.wait ≤ 1
        · have e5 : decide (p.wait ≤ 1) = true := decide_eq_true w1
          by_cases o1 : p.obj = 0
          · have e6 : (p.obj != 0) = false := by simp [o1]
            have HR : Hid (decide ((p.wait ≠ 0 ↔ p.state = 2) ∧ 0 ≤ p.obj ∧ (p.wait ≤ 1 → p.obj = 0)) = true) := decide_eq_true (⟨⟨fun h => absurd w0 h, fun h => absurd h s2⟩, by omega, fun _ => o1⟩)
            clear s2 w0 o0 w1 o1
            go_wp2
            go_meet
            exact ⟨by rw [HR.out]; rfl, rfl⟩
          · have e6 : (p.obj != 0) = true := by simp [o1]
            have HR : Hid (decide ((p.wait ≠ 0 ↔ p.state = 2) ∧ 0 ≤ p.obj ∧ (p.wait ≤ 1 → p.obj = 0)) = false) := decide_eq_false (fun h => o1 (h.2.2 w1))
            clear s2 w0 o0 w1 o1
            go_wp2
            go_meet
            exact ⟨by rw [HR.out]; rfl, rfl⟩
        · have e5 : decide (p.wait ≤ 1) = false := decide_eq_false w1
          have HR : Hid (decide ((p.wait ≠ 0 ↔ p.state = 2) ∧ 0 ≤ p.obj ∧ (p.wait ≤ 1 → p.obj = 0)) = true) := decide_eq_true (⟨⟨fun h => absurd w0 h, fun h => absurd h s2⟩, by omega, fun h => absurd h w1⟩)
          clear s2 w0 o0 w1
          go_wp2
          go_meet
          exact ⟨by rw [HR.out]; rfl, rfl⟩
    case rest =>
      obtain ⟨rfl, rfl⟩ := hcut
      have HD : Hid (decide (RefP p (tcount t (k : Int)) (r.count (k : Int))) = (decide ((p.wait ≠ 0 ↔ p.state = 2) ∧ 0 ≤ p.obj ∧ (p.wait ≤ 1 → p.obj = 0)) && decide (RefP p (tcount t (k : Int)) (r.count (k : Int))))) := by
        unfold Hid
        by_cases h : RefP p (tcount t (k : Int)) (r.count (k : Int))
        · rw [decide_eq_true h, decide_eq_true h.2.1]; rfl
        · rw [decide_eq_false h, Bool.and_false]
      cases hb4 : decide ((p.wait ≠ 0 ↔ p.state = 2) ∧ 0 ≤ p.obj ∧ (p.wait ≤ 1 → p.obj = 0))
      · rw [hb4] at HD
        clear hb4
        go_wp2
        go_ret
        exact ⟨by rw [HD.out]; rfl, HB0.out⟩
      have H4 := hide (of_decide_eq_true hb4)
      clear hb4 HD
      have b0 := BX.out.cell 0 _ rfl
      have b1 := BX.out.cell 1 _ rfl
      have b2 := BX.out.cell 2 _ rfl

      by_cases s1 : p.state = 1
      · skip
        have e1 : (p.state == 1) = true := by simp [s1]
        have HIN : Hid ((if p.state = 1 then 1 else 0 : Nat) = 1) := by unfold Hid; rw [if_pos s1]
        clear s1
        go_wp2_with fail
        refine Calls.mono (rtimers_any wc (some ⟨b, off, none⟩) pn pc ra rn rc ta tn tc t HT2.out (k : Int) hmt) ?_
        rintro e w2 ⟨rfl, b3⟩
        have BX2 := hide (BX.out.below hz1 b3)
        have BP2 := hide (BP.out.below hz2 b3)
        have HI3 := hide (HI2.out.below b3)
        have HB2 := hide (HB0.out.trans (b3.mono HB0.out.size))
        generalize hn : ((tcount t (k : Int) : Nat) : Int) = nn
        have HN := hide hn
        clear hn b3 b0 b1 b2 q0 q17 q18 q19 q20 e1
        have q17 : w2.cell? ⟨pb, 17, none⟩ = some (.int .i64 p.state) := BP2.out.cell 17 _ rfl
        have q19 : w2.cell? ⟨pb, 19, none⟩ = some (.int .i64 p.wait) := BP2.out.cell 19 _ rfl
        have b1 := BX2.out.cell 1 _ rfl
        go_upto_region 10 with fail
        go_cut [94] from 75 to 94 (fun v wx => v = .bool (!decide (tcount t (k : Int) ≤ 1 ∧ (tcount t (k : Int) = 1 → p.state = 2) ∧ (tcount t (k : Int) = 0 → p.wait ≠ 1))) ∧ wx = w2)
        case first =>
          clear HB2 HB0 HI2 HI3 HT2 BX BX2 BP BP2 H2 H4 HIN b1
          have hN := HN.out
          clear HN
          by_cases g1 : 1 < nn
          case pos =>
            have d1 : decide (1 < nn) = true := decide_eq_true g1
            have HR : Hid (decide (tcount t (k : Int) ≤ 1 ∧ (tcount t (k : Int) = 1 → p.state = 2) ∧ (tcount t (k : Int) = 0 → p.wait ≠ 1)) = false) := decide_eq_false (by omega)
            clear g1 hN
            go_wp2
            go_meet
            exact ⟨by rw [HR.out]; rfl, rfl⟩
          have d1 : decide (1 < nn) = false := decide_eq_false g1
          by_cases n1 : nn = 1
          · have d2 : (nn == 1) = true := by simp [n1]
            have d3 : (nn == 0) = false := by simp [n1]
            by_cases s2 : p.state = 2
            · have d4 : (p.state != 2) = false := by simp [s2]
              have HR : Hid (decide (tcount t (k : Int) ≤ 1 ∧ (tcount t (k : Int) = 1 → p.state = 2) ∧ (tcount t (k : Int) = 0 → p.wait ≠ 1)) = true) := decide_eq_true (by refine ⟨by omega, fun _ => s2, fun h => by omega⟩)
              clear g1 hN n1 s2
              go_wp2
              go_meet
              exact ⟨by rw [HR.out]; rfl, rfl⟩
            · have d4 : (p.state != 2) = true := by simp [s2]
              have HR : Hid (decide (tcount t (k : Int) ≤ 1 ∧ (tcount t (k : Int) = 1 → p.state = 2) ∧ (tcount t (k : Int) = 0 → p.wait ≠ 1)) = false) := decide_eq_false (fun h => s2 (h.2.1 (by omega)))
              clear g1 hN n1 s2
              go_wp2
              go_meet
              exact ⟨by rw [HR.out]; rfl, rfl⟩
          · have d2 : (nn == 1) = false := by simp [n1]
            have n0 : nn = 0 := by omega
            have d3 : (nn == 0) = true := by simp [n0]
            by_cases w1 : p.wait = 1
            · have d4 : (p.wait == 1) = true := by simp [w1]
              have HR : Hid (decide (tcount t (k : Int) ≤ 1 ∧ (tcount t (k : Int) = 1 → p.state = 2) ∧ (tcount t (k : Int) = 0 → p.wait ≠ 1)) = false) := decide_eq_false (fun h => (h.2.2 (by omega)) w1)
              clear g1 hN n1 n0 w1
              go_wp2
              go_meet
              exact ⟨by rw [HR.out]; rfl, rfl⟩
            · have d4 : (p.wait == 1) = false := by simp [w1]
              have HR : Hid (decide (tcount t (k : Int) ≤ 1 ∧ (tcount t (k : Int) = 1 → p.state = 2) ∧ (tcount t (k : Int) = 0 → p.wait ≠ 1)) = true) := decide_eq_true (by refine ⟨by omega, fun h => by omega, fun _ => w1⟩)
              clear g1 hN n1 n0 w1
              go_wp2
              go_meet
              exact ⟨by rw [HR.out]; rfl, rfl⟩
        case rest =>
          obtain ⟨rfl, rfl⟩ := hcut
          have HD : Hid (decide (RefP p (tcount t (k : Int)) (r.count (k : Int))) = (decide (tcount t (k : Int) ≤ 1 ∧ (tcount t (k : Int) = 1 → p.state = 2) ∧ (tcount t (k : Int) = 0 → p.wait ≠ 1)) && decide (RefP p (tcount t (k : Int)) (r.count (k : Int))))) := by
            unfold Hid
            by_cases h : RefP p (tcount t (k : Int)) (r.count (k : Int))
            · rw [decide_eq_true h, decide_eq_true h.2.2.1]; rfl
            · rw [decide_eq_false h, Bool.and_false]
          cases hb3 : decide (tcount t (k : Int) ≤ 1 ∧ (tcount t (k : Int) = 1 → p.state = 2) ∧ (tcount t (k : Int) = 0 → p.wait ≠ 1))
          · rw [hb3] at HD
            clear hb3
            go_wp2
            go_ret
            exact ⟨by rw [HD.out]; rfl, HB2.out⟩
          have H3 := hide (of_decide_eq_true hb3)
          clear hb3 HD
          go_wp2_with fail
          refine Calls.mono (rcount_any wc ra rn rc r HI3.out (k : Int) hmr) ?_
          rintro e w3 ⟨rfl, rfl⟩
          have HR : Hid (decide (RefP p (tcount t (k : Int)) (r.count (k : Int))) = ((r.count (k : Int) : Int) == 1)) := by
            unfold Hid
            rw [Bool.eq_iff_iff, decide_eq_true_eq, beq_iff_eq]
            have hI := HIN.out
            refine ⟨fun h => by have := h.2.2.2; rw [hI] at this; omega, fun h => ⟨H2.out, H4.out, H3.out, by rw [hI]; omega⟩⟩
          generalize ((r.count (k : Int) : Nat) : Int) = cc at *
          go_wp2
          go_ret
          exact ⟨by rw [HR.out]; rfl, HB2.out⟩
      · skip
        have e1 : (p.state == 1) = false := by simp [s1]
        have HIN : Hid ((if p.state = 1 then 1 else 0 : Nat) = 0) := by unfold Hid; rw [if_neg s1]
        clear s1
        go_wp2_with fail
        refine Calls.mono (rtimers_any wc (some ⟨b, off, none⟩) pn pc ra rn rc ta tn tc t HT2.out (k : Int) hmt) ?_
        rintro e w2 ⟨rfl, b3⟩
        have BX2 := hide (BX.out.below hz1 b3)
        have BP2 := hide (BP.out.below hz2 b3)
        have HI3 := hide (HI2.out.below b3)
        have HB2 := hide (HB0.out.trans (b3.mono HB0.out.size))
        generalize hn : ((tcount t (k : Int) : Nat) : Int) = nn
        have HN := hide hn
        clear hn b3 b0 b1 b2 q0 q17 q18 q19 q20 e1
        have q17 : w2.cell? ⟨pb, 17, none⟩ = some (.int .i64 p.state) := BP2.out.cell 17 _ rfl
        have q19 : w2.cell? ⟨pb, 19, none⟩ = some (.int .i64 p.wait) := BP2.out.cell 19 _ rfl
        have b1 := BX2.out.cell 1 _ rfl
        go_upto_region 10 with fail
        go_cut [94] from 75 to 94 (fun v wx => v = .bool (!decide (tcount t (k : Int) ≤ 1 ∧ (tcount t (k : Int) = 1 → p.state = 2) ∧ (tcount t (k : Int) = 0 → p.wait ≠ 1))) ∧ wx = w2)
        case first =>
          clear HB2 HB0 HI2 HI3 HT2 BX BX2 BP BP2 H2 H4 HIN b1
          have hN := HN.out
          clear HN
          by_cases g1 : 1 < nn
          case pos =>
            have d1 : decide (1 < nn) = true := decide_eq_true g1
            have HR : Hid (decide (tcount t (k : Int) ≤ 1 ∧ (tcount t (k : Int) = 1 → p.state = 2) ∧ (tcount t (k : Int) = 0 → p.wait ≠ 1)) = false) := decide_eq_false (by omega)
            clear g1 hN
            go_wp2
            go_meet
            exact ⟨by rw [HR.out]; rfl, rfl⟩
          have d1 : decide (1 < nn) = false := decide_eq_false g1
          by_cases n1 : nn = 1
          · have d2 : (nn == 1) = true := by simp [n1]
            have d3 : (nn == 0) = false := by simp [n1]
            by_cases s2 : p.state = 2
            · have d4 : (p.state != 2) = false := by simp [s2]
              have HR : Hid (decide (tcount t (k : Int) ≤ 1 ∧ (tcount t (k : Int) = 1 → p.state = 2) ∧ (tcount t (k : Int) = 0 → p.wait ≠ 1)) = true) := decide_eq_true (by refine ⟨by omega, fun _ => s2, fun h => by omega⟩)
              clear g1 hN n1 s2
              go_wp2
              go_meet
              exact ⟨by rw [HR.out]; rfl, rfl⟩
            · have d4 : (p.state != 2) = true := by simp [s2]
              have HR : Hid (decide (tcount t (k : Int) ≤ 1 ∧ (tcount t (k : Int) = 1 → p.state = 2) ∧ (tcount t (k : Int) = 0 → p.wait ≠ 1)) = false) := decide_eq_false (fun h => s2 (h.2.1 (by omega)))
              clear g1 hN n1 s2
              go_wp2
              go_meet
              exact ⟨by rw [HR.out]; rfl, rfl⟩
          · have d2 : (nn == 1) = false := by simp [n1]
            have n0 : nn = 0 := by omega
            have d3 : (nn == 0) = true := by simp [n0]
            by_cases w1 : p.wait = 1
            · have d4 : (p.wait == 1) = true := by simp [w1]
              have HR : Hid (decide (tcount t (k : Int) ≤ 1 ∧ (tcount t (k : Int) = 1 → p.state = 2) ∧ (tcount t (k : Int) = 0 → p.wait ≠ 1)) = false) := decide_eq_false (fun h => (h.2.2 (by omega)) w1)
              clear g1 hN n1 n0 w1
              go_wp2
              go_meet
              exact ⟨by rw [HR.out]; rfl, rfl⟩
            · have d4 : (p.wait == 1) = false := by simp [w1]
              have HR : Hid (decide (tcount t (k : Int) ≤ 1 ∧ (tcount t (k : Int) = 1 → p.state = 2) ∧ (tcount t (k : Int) = 0 → p.wait ≠ 1)) = true) := decide_eq_true (by refine ⟨by omega, fun h => by omega, fun _ => w1⟩)
              clear g1 hN n1 n0 w1
              go_wp2
              go_meet
              exact ⟨by rw [HR.out]; rfl, rfl⟩
        case rest =>
          obtain ⟨rfl, rfl⟩ := hcut
          have HD : Hid (decide (RefP p (tcount t (k : Int)) (r.count (k : Int))) = (decide (tcount t (k : Int) ≤ 1 ∧ (tcount t (k : Int) = 1 → p.state = 2) ∧ (tcount t (k : Int) = 0 → p.wait ≠ 1)) && decide (RefP p (tcount t (k : Int)) (r.count (k : Int))))) := by
            unfold Hid
            by_cases h : RefP p (tcount t (k : Int)) (r.count (k : Int))
            · rw [decide_eq_true h, decide_eq_true h.2.2.1]; rfl
            · rw [decide_eq_false h, Bool.and_false]
          cases hb3 : decide (tcount t (k : Int) ≤ 1 ∧ (tcount t (k : Int) = 1 → p.state = 2) ∧ (tcount t (k : Int) = 0 → p.wait ≠ 1))
          · rw [hb3] at HD
            clear hb3
            go_wp2
            go_ret
            exact ⟨by rw [HD.out]; rfl, HB2.out⟩
          have H3 := hide (of_decide_eq_true hb3)
          clear hb3 HD
          go_wp2_with fail
          refine Calls.mono (rcount_any wc ra rn rc r HI3.out (k : Int) hmr) ?_
          rintro e w3 ⟨rfl, rfl⟩
          have HR : Hid (decide (RefP p (tcount t (k : Int)) (r.count (k : Int))) = ((r.count (k : Int) : Int) == 0)) := by
            unfold Hid
            rw [Bool.eq_iff_iff, decide_eq_true_eq, beq_iff_eq]
            have hI := HIN.out
            refine ⟨fun h => by have := h.2.2.2; rw [hI] at this; omega, fun h => ⟨H2.out, H4.out, H3.out, by rw [hI]; omega⟩⟩
          generalize ((r.count (k : Int) : Nat) : Int) = cc at *
          go_wp2
          go_ret
          exact ⟨by rw [HR.out]; rfl, HB2.out⟩
end Go.Proofs.YtcfkngkenkbkaaaDoor
