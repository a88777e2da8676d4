/-
  A run of the machine.
-/
import Derived.Test.YteopkgjkbhcicaaDoorCmRun0
namespace Go.Proofs.YteopkgjkbhcicaaDoor
open Go.RowKit FerryCrc FerryAlu
set_option linter.unusedVariables false
set_option linter.unusedSimpArgs false

def stopL (r : Rn) : List Value := [.int .i64 (r.kind : Int), .int .i64 (r.steps : Int), .int .i64 r.code]
theorem infoStop : (Tryd.prog.info? 32).map (·.size) = some 3 := by kernel_rfl
theorem three_alloc (w : World) (x y z : Array Value) (t u : TypeId) : Bl (((w.alloc (.cells x t)).alloc (.cells y t)).alloc (.cells z u)) w.heap.size x.toList ∧ Bl (((w.alloc (.cells x t)).alloc (.cells y t)).alloc (.cells z u)) (w.heap.size + 1) y.toList ∧ Bl (((w.alloc (.cells x t)).alloc (.cells y t)).alloc (.cells z u)) (w.heap.size + 1 + 1) z.toList ∧ Below w.heap.size w (((w.alloc (.cells x t)).alloc (.cells y t)).alloc (.cells z u)) ∧ (((w.alloc (.cells x t)).alloc (.cells y t)).alloc (.cells z u)).heap.size = w.heap.size + 3 := by
  have h1 := bl_alloc w x t
  have s1 : (w.alloc (.cells x t)).heap.size = w.heap.size + 1 := by simp
  have b1 : Below w.heap.size w (w.alloc (.cells x t)) := (Below.refl _ _).alloc (Nat.le_refl _) _
  generalize w.alloc (.cells x t) = w1 at *
  have h2 := bl_alloc w1 y t
  have s2 : (w1.alloc (.cells y t)).heap.size = w1.heap.size + 1 := by simp
  have b2 : Below w1.heap.size w1 (w1.alloc (.cells y t)) := (Below.refl _ _).alloc (Nat.le_refl _) _
  have h1b := h1.below (by omega) b2
  generalize w1.alloc (.cells y t) = w2 at *
  have h3 := bl_alloc w2 z u
  have s3 : (w2.alloc (.cells z u)).heap.size = w2.heap.size + 1 := by simp
  have b3 : Below w2.heap.size w2 (w2.alloc (.cells z u)) := (Below.refl _ _).alloc (Nat.le_refl _) _
  have h1c := h1b.below (by omega) b3
  have h2c := h2.below (by omega) b3
  rw [s1] at h2c
  rw [s2, s1] at h3
  exact ⟨h1c, h2c, h3, (b1.trans (b2.mono (by omega))).trans (b3.mono (by omega)), by omega⟩
/-- Where a run under way stands. -/
structure At (w wr : World) (mb B g10 g7 g8 : Nat) (v : Value) (zs : List Value) (r : Rn) : Prop where
  m : MAt wr mb B v r.m
  stop : Bl wr g10 (stopL r)
  z7 : Bl wr g7 zs
  z8 : Bl wr g8 [.int .i64 0, .int .i64 0, .int .i64 0]
  below : Below w.heap.size w wr
  lt : g10 < wr.heap.size
theorem At.next {w wr w2 : World} {mb B g10 g7 g8 : Nat} {v : Value} {zs : List Value} {r : Rn} (h : At w wr mb B g10 g7 g8 v zs r) (hk : r.kind = 0) (hB : w.heap.size ≤ B) (h7 : g7 < B) (h8 : g8 < B) (hne : g10 ≠ mb ∧ v.ownBlock ≠ some g10) (h10 : B ≤ g10)
    (hm : MAt w2 mb B v r.m.step.1) (hf : Mfr mb v wr w2) :
    At w (((w2.setCell ⟨g10, 0, none⟩ (.int .i64 (r.m.step.2.1 : Int))).setCell ⟨g10, 2, none⟩ (.int .i64 r.m.step.2.2)).setCell ⟨g10, 1, none⟩ (.int .i64 ((r.steps + 1 : Nat) : Int))) mb B g10 g7 g8 v zs r.next := by
  have e : r.next = ⟨r.m.step.1, r.m.step.2.1, r.m.step.2.2, r.steps + 1⟩ := by unfold Rn.next; rw [if_pos hk]
  have own : ∀ k, v.ownBlock = some k → B ≤ k := fun k e => (World.ownsRow.lt h.m.own k e).1
  have b2 := hf.below h.m.size h.m.le own
  have f7 : ∀ {g : Nat} {cs : List Value}, Bl wr g cs → g < B → Bl w2 g cs := fun hb hg => hb.mfr (Nat.lt_of_lt_of_le hg h.m.size) hf (by have := h.m.le; omega) (fun e => by have := own _ e; omega)
  have s2 := h.stop.mfr h.lt hf hne.1 hne.2
  have k1 := ((s2.set (k := 0) (by simp [stopL]) (.int .i64 (r.m.step.2.1 : Int))).set (k := 2) (by simp [stopL]) (.int .i64 r.m.step.2.2)).set (k := 1) (by simp [stopL]) (.int .i64 ((r.steps + 1 : Nat) : Int))
  rw [e]
  refine ⟨?_, k1, ?_, ?_, ?_, ?_⟩
  · refine ⟨((hm.bl.far (fun e => hne.1 e)).far (fun e => hne.1 e)).far (fun e => hne.1 e), own_far (own_far (own_far hm.own hne.2) hne.2) hne.2, hm.ne, hm.ok, hm.le, ?_, ?_⟩
    · simpa [World.setCell] using hm.lt
    · simpa [World.setCell] using hm.size
  · exact (((f7 h.z7 h7).far (by omega)).far (by omega)).far (by omega)
  · exact (((f7 h.z8 h8).far (by omega)).far (by omega)).far (by omega)
  · have hb := h.below.trans (b2.mono hB)
    exact ((hb.setCell (p := ⟨g10, 0, none⟩) (by show w.heap.size ≤ g10; omega) _).setCell (p := ⟨g10, 2, none⟩) (by show w.heap.size ≤ g10; omega) _).setCell (p := ⟨g10, 1, none⟩) (by show w.heap.size ≤ g10; omega) _
  · have := Nat.lt_of_lt_of_le h.lt hf.size
    simpa [World.setCell] using this

theorem Bl.drew {w : World} {g : Nat} {cs : List Value} (h : Bl w g cs) : Bl w.drew g cs := ⟨fun j v hv => h.cell j v hv, fun j => h.free j⟩
theorem res_run (tm : Array Value) (W : World) (g7 g8 : Nat) (pv : Value) (P S : List Value) (e6 : tm.getD 6 undef = pv) (e7 : tm.getD 7 undef = .pointer (some ⟨g7, 0, none⟩)) (e8 : tm.getD 8 undef = .pointer (some ⟨g8, 0, none⟩))
    (h7 : W.rangeAt g7 0 P) (h8 : W.rangeAt g8 0 S) (hP : P.length = 21) (hS : S.length = 3) : (results Tryd.f10 tm).run Tryd.prog W = .ok (.tuple #[pv, .agg P.toArray, .agg S.toArray]) W := by
  have l7 := run_loadVar_mid (P := Tryd.prog) W g7 0 26 P _ h7 Tryd.underlying26 rfl (by rw [hP]; exact infoProc)
  have l8 := run_loadVar_mid (P := Tryd.prog) W g8 0 32 S _ h8 Tryd.underlying32 rfl (by rw [hS]; exact infoStop)
  rw [Array.getD_eq_getD_getElem?] at e6 e7 e8
  simp [results, Tryd.results10, asAddr, e6, e7, e8, l7, l8]
theorem own_farCells {base g : Nat} {v : Value} {l : List Pg} (hne : v.ownBlock ≠ some g) : ∀ (vs : List Value) (o : Nat) (w : World), POwn w base v l → POwn (w.setCells g o vs) base v l
  | [], _, _, h => h
  | x :: vs, o, w, h => by
    show POwn ((w.setCell ⟨g, o, none⟩ x).setCells g (o + 1) vs) base v l
    exact own_farCells hne vs (o + 1) _ (own_far h hne)
/-- How many steps are left. -/
def meas (N : Int) (g : Nat) (wr : World) : Nat := (N - intOf ((wr.cell? ⟨g, 1, none⟩).getD undef)).toNat

set_option maxRecDepth 100000 in
set_option maxHeartbeats 8000000 in
theorem run_any (a : Option Addr) (len cap : Nat) (m : Mc) (n : Int) (w : World) (hs : Pgs w a len cap m.pages) (ok : m.Ok) (A : Addr) (hv : Cov w A) (hn : n ≤ 1000000) (hn0 : -9223372036854775808 ≤ n) :
    Calls Tryd.prog 10 #[.slice a len cap, .agg m.proc.toArray, .int .i64 n] w fun e w' => ∃ v, e = .returned (.tuple #[v, .agg (m.run n.toNat).m.proc.toArray, .agg (stopL (m.run n.toNat)).toArray]) ∧ POwn w' w.heap.size v (m.run n.toNat).m.pages ∧ (m.run n.toNat).m.Ok ∧ Below w.heap.size w w' := by
  have HS := hide hs
  have HV := hide hv
  have OK := hide ok
  have HPL : Hid (m.proc.length = 21) := proc_len ok
  obtain ⟨z4, z7, z8, hb0, hsz⟩ := three_alloc w m.proc.toArray #[.int .u32 0, .int .u32 0, .int .u32 0, .int .u32 0, .int .u32 0, .int .u32 0, .int .u32 0, .int .u32 0, .int .u32 0, .int .u32 0, .int .u32 0, .int .u32 0, .int .u32 0, .int .u32 0, .int .u32 0, .int .u32 0, .int .u32 0, .int .i64 0, .int .i64 0, .int .i64 0, .int .i64 0] #[.int .i64 0, .int .i64 0, .int .i64 0] 26 32
  have hl7 : (#[.int .u32 0, .int .u32 0, .int .u32 0, .int .u32 0, .int .u32 0, .int .u32 0, .int .u32 0, .int .u32 0, .int .u32 0, .int .u32 0, .int .u32 0, .int .u32 0, .int .u32 0, .int .u32 0, .int .u32 0, .int .u32 0, .int .u32 0, .int .i64 0, .int .i64 0, .int .i64 0, .int .i64 0] : Array Value).toList.length = 21 := rfl
  have Z4 : Hid (Bl (((w.alloc (.cells m.proc.toArray 26)).alloc (.cells #[.int .u32 0, .int .u32 0, .int .u32 0, .int .u32 0, .int .u32 0, .int .u32 0, .int .u32 0, .int .u32 0, .int .u32 0, .int .u32 0, .int .u32 0, .int .u32 0, .int .u32 0, .int .u32 0, .int .u32 0, .int .u32 0, .int .u32 0, .int .i64 0, .int .i64 0, .int .i64 0, .int .i64 0] 26)).alloc (.cells #[.int .i64 0, .int .i64 0, .int .i64 0] 32)) w.heap.size m.proc) := z4
  have Z7 := hide z7
  have Z8 := hide z8
  have HB0 := hide hb0
  have HSZ := hide hsz
  have HL7 := hide hl7
  have hu26 := Tryd.underlying26
  have hi26 : (Tryd.prog.info? 26).map (·.size) = some m.proc.length := by rw [HPL.out]; exact infoProc
  have hr4 : (((w.alloc (.cells m.proc.toArray 26)).alloc (.cells #[.int .u32 0, .int .u32 0, .int .u32 0, .int .u32 0, .int .u32 0, .int .u32 0, .int .u32 0, .int .u32 0, .int .u32 0, .int .u32 0, .int .u32 0, .int .u32 0, .int .u32 0, .int .u32 0, .int .u32 0, .int .u32 0, .int .u32 0, .int .i64 0, .int .i64 0, .int .i64 0, .int .i64 0] 26)).alloc (.cells #[.int .i64 0, .int .i64 0, .int .i64 0] 32)).rangeAt w.heap.size 0 m.proc := bl_range z4
  clear hs hv ok z4 z7 z8 hb0 hsz hl7
  go_enter Tryd.func10, Tryd.ntmps10
  go_upto_region 1 with fail
  generalize (#[.int .u32 0, .int .u32 0, .int .u32 0, .int .u32 0, .int .u32 0, .int .u32 0, .int .u32 0, .int .u32 0, .int .u32 0, .int .u32 0, .int .u32 0, .int .u32 0, .int .u32 0, .int .u32 0, .int .u32 0, .int .u32 0, .int .u32 0, .int .i64 0, .int .i64 0, .int .i64 0, .int .i64 0] : Array Value) = ZA at *
  generalize ((w.alloc (.cells m.proc.toArray 26)).alloc (.cells ZA 26)).alloc (.cells #[.int .i64 0, .int .i64 0, .int .i64 0] 32) = W0 at *
  have HBG := hide (begin_any a len cap m W0 (HS.out.below HB0.out) OK.out)
  go_wp2_with (first | (refine wpList_load_mid rfl 26 (.tmp 4) rfl w.heap.size 0 rfl m.proc _ hr4 hu26 rfl hi26 ?_) | fail)
  refine Calls.mono HBG.out ?_
  rintro e w1 ⟨mb, v, rfl, hm1, b1⟩
  have HM1 := hide hm1
  have HB1 := hide b1
  clear hm1 b1 HBG hr4 hu26 hi26
  go_upto_region 3 with fail
  obtain ⟨r0, hr0⟩ : ∃ r0, (⟨m.from0, 0, 0, 0⟩ : Rn) = r0 := ⟨_, rfl⟩
  have HR0 : Hid (∀ k, m.run k = Rn.go k r0) := fun k => by rw [← hr0]; rfl
  have hb2 : Below w1.heap.size w1 (w1.alloc (.cells #[.int .i64 0, .int .i64 0, .int .i64 0] 32)) := (Below.refl _ _).alloc (Nat.le_refl _) _
  have HAT : Hid (At w (w1.alloc (.cells #[.int .i64 0, .int .i64 0, .int .i64 0] 32)) mb W0.heap.size w1.heap.size (w.heap.size + 1) (w.heap.size + 1 + 1) v ZA.toList r0) := by
    have h1 := Z7.out.below (by rw [HSZ.out]; omega) HB1.out
    have h2 := Z8.out.below (by rw [HSZ.out]; omega) HB1.out
    have hs1 := HB1.out.size
    have hz := HSZ.out
    refine ⟨by rw [← hr0]; exact HM1.out.below hb2, by rw [← hr0]; exact bl_alloc w1 #[.int .i64 0, .int .i64 0, .int .i64 0] 32, h1.below (by omega) hb2, h2.below (by omega) hb2, chain (chain HB0.out HB1.out) hb2, by simp⟩
  have HNE : Hid (w1.heap.size ≠ mb ∧ v.ownBlock ≠ some w1.heap.size) := ⟨fun e => by have := HM1.out.lt; omega, fun e => by have := (World.ownsRow.lt HM1.out.own _ e).2; omega⟩
  have HG : Hid (w.heap.size ≤ W0.heap.size ∧ w.heap.size + 1 < W0.heap.size ∧ w.heap.size + 1 + 1 < W0.heap.size ∧ W0.heap.size ≤ w1.heap.size) := by
    have hz := HSZ.out
    have hs1 := HB1.out.size
    exact ⟨by omega, by omega, by omega, hs1⟩
  have HST0 : Hid (r0.steps = 0) := by unfold Hid; rw [← hr0]
  clear hb2 hr0
  generalize w1.alloc (.cells #[.int .i64 0, .int .i64 0, .int .i64 0] 32) = W2 at *
  clear HM1 HB1 Z4 Z7 Z8 HB0 HSZ
  generalize w1.heap.size = g10 at *
  generalize W0.heap.size = B at *
  generalize ZA.toList = zs at *
  obtain ⟨g7, hg7⟩ : ∃ g7, w.heap.size + 1 = g7 := ⟨_, rfl⟩
  rw [hg7] at HAT HG ⊢
  obtain ⟨g8, hg8⟩ : ∃ g8, g7 + 1 = g8 := ⟨_, rfl⟩
  rw [hg8] at HAT HG ⊢
  have HGB : Hid (w.heap.size ≤ g7 ∧ w.heap.size ≤ g8 ∧ g7 ≠ g8) := ⟨by omega, by omega, by omega⟩
  clear hg7 hg8
  go_loopw [] (fun wr => ∃ k : Nat, k ≤ n.toNat ∧ Hid (At w wr mb B g10 g7 g8 v zs (Rn.go k r0))) (fun wr => meas n g10 wr)
  case atStart => exact ⟨0, by omega, HAT.out⟩
  case round =>
    obtain ⟨k, hk, hat⟩ := hrel
    obtain ⟨R, hR⟩ : ∃ R, Rn.go k r0 = R := ⟨_, rfl⟩
    have HST : Hid (R.kind = 0 → R.steps = k) := fun h => by
      have := Rn.go_steps k r0 (by rw [hR]; exact h)
      rw [hR, HST0.out] at this
      omega
    have HSL : Hid (R.steps ≤ k) := by
      have := Rn.go_le k r0
      rw [hR, HST0.out] at this
      unfold Hid
      omega
    rw [hR] at hat
    have HRR := hide hR
    clear hR
    have c0 : wr.cell? ⟨g10, 0, none⟩ = some (.int .i64 (R.kind : Int)) := hat.out.stop.cell 0 _ rfl
    have c1 : wr.cell? ⟨g10, 1, none⟩ = some (.int .i64 (R.steps : Int)) := hat.out.stop.cell 1 _ rfl
    have c2 : wr.cell? ⟨g10, 2, none⟩ = some (.int .i64 R.code) := hat.out.stop.cell 2 _ rfl
    by_cases hk0 : R.kind = 0
    · have d0 : ((R.kind : Int) == 0) = true := by simp [hk0]
      by_cases hlt : (R.steps : Int) < n
      · have d1 : decide ((R.steps : Int) < n) = true := decide_eq_true hlt
        have HKN : Hid (k < n.toNat) := by have := HST.out hk0; unfold Hid; omega
        have s1 : (R.steps : Int) ≤ 1000000 := by omega
        have HSP := hide (step_any hat.out.m A (HV.out.below hat.out.below))
        have HLT := hide hlt
        clear hlt
        go_wp2_with fail
        refine Calls.mono HSP.out ?_
        rintro e w2 ⟨rfl, hm2, f2⟩
        have hs2 := hat.out.stop.mfr hat.out.lt f2 HNE.out.1 HNE.out.2
        have q0 : w2.cell? ⟨g10, 0, none⟩ = some (.int .i64 (R.kind : Int)) := hs2.cell 0 _ rfl
        have q1 : w2.cell? ⟨g10, 1, none⟩ = some (.int .i64 (R.steps : Int)) := hs2.cell 1 _ rfl
        have q2 : w2.cell? ⟨g10, 2, none⟩ = some (.int .i64 R.code) := hs2.cell 2 _ rfl
        have y0 := hs2.free 0
        have y1 := hs2.free 1
        have y2 := hs2.free 2
        have hnx := hat.out.next hk0 HG.out.1 HG.out.2.1 HG.out.2.2.1 HNE.out HG.out.2.2.2 hm2 f2
        rw [show ((R.steps + 1 : Nat) : Int) = (R.steps : Int) + 1 by omega] at hnx
        have HNX := hide hnx
        have HM0 : Hid (meas n g10 wr = (n - (R.steps : Int)).toNat) := by unfold Hid meas; rw [c1]; rfl
        have HM1 : Hid (meas n g10 (((w2.setCell ⟨g10, 0, none⟩ (.int .i64 (R.m.step.2.1 : Int))).setCell ⟨g10, 2, none⟩ (.int .i64 R.m.step.2.2)).setCell ⟨g10, 1, none⟩ (.int .i64 ((R.steps : Int) + 1))) = (n - ((R.steps : Int) + 1)).toNat) := by
          unfold Hid meas
          rw [show (((w2.setCell ⟨g10, 0, none⟩ (.int .i64 (R.m.step.2.1 : Int))).setCell ⟨g10, 2, none⟩ (.int .i64 R.m.step.2.2)).setCell ⟨g10, 1, none⟩ (.int .i64 ((R.steps : Int) + 1))).cell? ⟨g10, 1, none⟩ = some (.int .i64 ((R.steps : Int) + 1)) from (((hs2.set (k := 0) (by simp [stopL]) _).set (k := 2) (by simp [stopL]) _).set (k := 1) (by simp [stopL]) _).cell 1 _ rfl]
          rfl
        clear hnx hs2 hm2 f2 HSP
        go_wp2
        go_roundw
        case rel => exact ⟨k + 1, by have := HKN.out; omega, by rw [Rn.go_succ, HRR.out]; exact HNX.out⟩
        case measure =>
          rw [HM0.out, HM1.out]
          have := HLT.out
          omega
      · have d1 : decide ((R.steps : Int) < n) = false := decide_eq_false hlt
        have HFIN : Hid (m.run n.toNat = R) := by
          have := HST.out hk0
          unfold Hid
          rw [HR0.out, show n.toNat = k by omega]
          exact HRR.out
        clear hlt
        have HP21 := hide (proc_len hat.out.m.ok)
        have HMT := hide hat.out.m
        obtain ⟨pa, pq, rfl, _, _⟩ := hat.out.m.own.pgs hat.out.m.ok.ok hat.out.m.ok.most
        have HK0 := hide hk0
        go_wp2_with fail
        have HSTP : Hid (stopL R = [.int .i64 0, .int .i64 (R.steps : Int), .int .i64 R.code]) := by unfold Hid stopL; simp [HK0.out]
        have HBL7 : Hid (∀ wz, Bl wz mb (.slice pa R.m.pages.length pq :: R.m.proc) → Bl wz g10 (stopL R) → (fun wz => wz.cell? ⟨mb, 0, none⟩ = some (.slice pa R.m.pages.length pq) ∧ wz.rangeAt mb 1 R.m.proc ∧ wz.cell? ⟨g10, 0, none⟩ = some (.int .i64 (R.kind : Int)) ∧ wz.cell? ⟨g10, 1, none⟩ = some (.int .i64 (R.steps : Int)) ∧ wz.cell? ⟨g10, 2, none⟩ = some (.int .i64 R.code)) wz) := fun wz h1 h2 => ⟨h1.cell 0 _ rfl, bl_tail h1, h2.cell 0 _ rfl, h2.cell 1 _ rfl, h2.cell 2 _ rfl⟩
        have HMB : Hid (Bl wr.drew mb (.slice pa R.m.pages.length pq :: R.m.proc)) := HMT.out.bl.drew
        have HGS : Hid (Bl wr.drew g10 (stopL R)) := hat.out.stop.drew
        have HN : Hid (g7 ≠ mb ∧ g7 ≠ g10 ∧ g8 ≠ mb ∧ g8 ≠ g10 ∧ (Value.slice pa R.m.pages.length pq).ownBlock ≠ some g7 ∧ (Value.slice pa R.m.pages.length pq).ownBlock ≠ some g8) := by
          have h1 := HG.out
          have h2 := HMT.out.le
          exact ⟨by omega, by omega, by omega, by omega, fun e => by have := (World.ownsRow.lt HMT.out.own _ e).1; omega, fun e => by have := (World.ownsRow.lt HMT.out.own _ e).1; omega⟩
        have hu26 := Tryd.underlying26
        have hi26 : (Tryd.prog.info? 26).map (·.size) = some R.m.proc.length := by rw [HP21.out]; exact infoProc
        have hth7 : wr.drew.there g7 0 R.m.proc.length := by rw [HP21.out, ← HL7.out]; exact bl_there hat.out.z7.drew
        refine wp_region_held_drew (S := fun wz => wz.cell? ⟨mb, 0, none⟩ = some (.slice pa R.m.pages.length pq) ∧ wz.rangeAt mb 1 R.m.proc ∧ wz.cell? ⟨g10, 0, none⟩ = some (.int .i64 (R.kind : Int)) ∧ wz.cell? ⟨g10, 1, none⟩ = some (.int .i64 (R.steps : Int)) ∧ wz.cell? ⟨g10, 2, none⟩ = some (.int .i64 R.code)) (by kernel_rfl) (HBL7.out _ HMB.out HGS.out) (fun hHeld => ?_)
        refine wpAnyH_take (i := 0) (oi := { dst := some 34, op := Go.Op.move (Go.Operand.tmp 9), type := 59, pos := "core.go:50", after := #[], guard := none }) (v := ?_) rfl (by kernel_rfl) (by kernel_rfl) (by kernel_rfl) (fun _ _ _ h => h) (Or.inl ⟨by rfl, ?_⟩) (by assumption) ?_
        rotate_left
        · intro w hSw
          try dsimp only at hSw
          go_simp
          try with_reducible rfl
        simp only [Act.put, List.setIfInBounds_toArray, List.set_cons_zero, List.set_cons_succ]
        refine wpAnyH_take (i := 1) (oi := { dst := some 35, op := Go.Op.nilCheck (Go.Operand.tmp 34), type := 0, pos := "core.go:50", after := #[{ on := 0, ground := Go.Ground.data }], guard := none }) (v := ?_) rfl (by kernel_rfl) (by kernel_rfl) (by kernel_rfl) (fun _ _ _ h => h) (Or.inl ⟨by rfl, ?_⟩) (by assumption) ?_
        rotate_left
        · intro w hSw
          try dsimp only at hSw
          go_simp
          try with_reducible rfl
        simp only [Act.put, List.setIfInBounds_toArray, List.set_cons_zero, List.set_cons_succ]
        refine wpAnyH_take (i := 2) (oi := { dst := some 36, op := Go.Op.fieldAddr 64 (Go.Operand.tmp 35) 0, type := 0, pos := "core.go:50", after := #[{ on := 1, ground := Go.Ground.data }], guard := none }) (v := ?_) rfl (by kernel_rfl) (by kernel_rfl) (by kernel_rfl) (fun _ _ _ h => h) (Or.inl ⟨by rfl, ?_⟩) (by assumption) ?_
        rotate_left
        · intro w hSw
          try dsimp only at hSw
          go_simp
          try with_reducible rfl
        simp only [Act.put, List.setIfInBounds_toArray, List.set_cons_zero, List.set_cons_succ]
        refine wpAnyH_take (i := 3) (oi := { dst := some 37, op := Go.Op.load 22 (Go.Operand.tmp 36), type := 22, pos := "core.go:50", after := #[{ on := 2, ground := Go.Ground.data }], guard := none }) (v := ?_) rfl (by kernel_rfl) (by kernel_rfl) (by kernel_rfl) (fun _ _ _ h => h) (Or.inl ⟨by rfl, ?_⟩) (by assumption) ?_
        rotate_left
        · intro w hSw
          try dsimp only at hSw
          go_simp
          try with_reducible rfl
        simp only [Act.put, List.setIfInBounds_toArray, List.set_cons_zero, List.set_cons_succ]
        refine wpAnyH_take (i := 4) (oi := { dst := some 38, op := Go.Op.move (Go.Operand.tmp 9), type := 59, pos := "core.go:50", after := #[{ on := 9, ground := Go.Ground.gcOnly Go.Departure.lateStores }], guard := none }) (v := ?_) rfl (by kernel_rfl) (by kernel_rfl) (by kernel_rfl) (fun _ _ _ h => h) (Or.inl ⟨by rfl, ?_⟩) (by assumption) ?_
        rotate_left
        · intro w hSw
          try dsimp only at hSw
          go_simp
          try with_reducible rfl
        simp only [Act.put, List.setIfInBounds_toArray, List.set_cons_zero, List.set_cons_succ]
        refine wpAnyH_take (i := 5) (oi := { dst := some 39, op := Go.Op.nilCheck (Go.Operand.tmp 38), type := 0, pos := "core.go:50", after := #[{ on := 4, ground := Go.Ground.data }, { on := 9, ground := Go.Ground.gcOnly Go.Departure.lateStores }], guard := none }) (v := ?_) rfl (by kernel_rfl) (by kernel_rfl) (by kernel_rfl) (fun _ _ _ h => h) (Or.inl ⟨by rfl, ?_⟩) (by assumption) ?_
        rotate_left
        · intro w hSw
          try dsimp only at hSw
          go_simp
          try with_reducible rfl
        simp only [Act.put, List.setIfInBounds_toArray, List.set_cons_zero, List.set_cons_succ]
        refine wpAnyH_take (i := 6) (oi := { dst := some 40, op := Go.Op.fieldAddr 64 (Go.Operand.tmp 39) 1, type := 0, pos := "core.go:50", after := #[{ on := 5, ground := Go.Ground.data }, { on := 9, ground := Go.Ground.gcOnly Go.Departure.lateStores }], guard := none }) (v := ?_) rfl (by kernel_rfl) (by kernel_rfl) (by kernel_rfl) (fun _ _ _ h => h) (Or.inl ⟨by rfl, ?_⟩) (by assumption) ?_
        rotate_left
        · intro w hSw
          try dsimp only at hSw
          go_simp
          try with_reducible rfl
        simp only [Act.put, List.setIfInBounds_toArray, List.set_cons_zero, List.set_cons_succ]
        refine wpAnyH_take (i := 7) (oi := { dst := some 41, op := Go.Op.load 26 (Go.Operand.tmp 40), type := 26, pos := "core.go:50", after := #[{ on := 6, ground := Go.Ground.data }, { on := 9, ground := Go.Ground.gcOnly Go.Departure.lateStores }], guard := none }) rfl (by kernel_rfl) (by kernel_rfl) (by kernel_rfl) (fun _ _ _ h => h) (yieldsIf_load_mid (by rfl) _ _ rfl _ _ rfl _ _ (fun _ h => h.2.1) hu26 rfl hi26) (by assumption) ?_
        simp only [Act.put, List.setIfInBounds_toArray, List.set_cons_zero, List.set_cons_succ]
        refine wpAnyH_take (i := 8) (oi := { dst := some 42, op := Go.Op.load 32 (Go.Operand.tmp 10), type := 32, pos := "core.go:50", after := #[{ on := 10, ground := Go.Ground.gcOnly Go.Departure.lateStores }], guard := none }) (v := ?_) rfl (by kernel_rfl) (by kernel_rfl) (by kernel_rfl) (fun _ _ _ h => h) (Or.inl ⟨by rfl, ?_⟩) (by assumption) ?_
        rotate_left
        · intro w hSw
          try dsimp only at hSw
          go_simp
          try with_reducible rfl
        simp only [Act.put, List.setIfInBounds_toArray, List.set_cons_zero, List.set_cons_succ]
        refine wpAnyH_take (i := 9) (oi := { dst := some 6, op := Go.Op.assign (Go.Operand.tmp 37), type := 22, pos := "core.go:50", after := #[{ on := 3, ground := Go.Ground.data }, { on := 0, ground := Go.Ground.phase }, { on := 1, ground := Go.Ground.phase }, { on := 2, ground := Go.Ground.phase }, { on := 3, ground := Go.Ground.phase }, { on := 4, ground := Go.Ground.textOnly Go.Departure.lateStores }, { on := 5, ground := Go.Ground.textOnly Go.Departure.lateStores }, { on := 6, ground := Go.Ground.textOnly Go.Departure.lateStores }, { on := 7, ground := Go.Ground.textOnly Go.Departure.lateStores }, { on := 8, ground := Go.Ground.textOnly Go.Departure.lateStores }], guard := none }) (v := ?_) rfl (by kernel_rfl) (by kernel_rfl) (by kernel_rfl) (fun _ _ _ h => h) (Or.inl ⟨by rfl, ?_⟩) (by assumption) ?_
        rotate_left
        · intro w hSw
          try dsimp only at hSw
          go_simp
          try with_reducible rfl
        simp only [Act.put, List.setIfInBounds_toArray, List.set_cons_zero, List.set_cons_succ]
        refine wpAnyH_ready (rs := [10]) (by kernel_rfl) (by simp) ?_
        refine AllReadyH.cons (o := { dst := none, op := Go.Op.store 26 (Go.Operand.tmp 7) (Go.Operand.tmp 41), type := 0, pos := "core.go:50", after := #[{ on := 7, ground := Go.Ground.data }, { on := 9, ground := Go.Ground.chain }, { on := 0, ground := Go.Ground.phase }, { on := 1, ground := Go.Ground.phase }, { on := 2, ground := Go.Ground.phase }, { on := 3, ground := Go.Ground.phase }, { on := 4, ground := Go.Ground.phase }, { on := 5, ground := Go.Ground.phase }, { on := 6, ground := Go.Ground.phase }, { on := 7, ground := Go.Ground.phase }, { on := 8, ground := Go.Ground.textOnly Go.Departure.lateStores }, { on := 9, ground := Go.Ground.phase }], guard := none }) rfl (fun K hK => ?_) AllReadyH.nil
        refine step_store rfl 26 (.tmp 7) (.tmp 41) rfl g7 0 R.m.proc rfl rfl hth7 hi26 (proc_one R.m) ?_
        have HMB2 := hide (HMB.out.farCells (o := 0) (vs := R.m.proc) HN.out.1)
        have HGS2 := hide (HGS.out.farCells (o := 0) (vs := R.m.proc) HN.out.2.1)
        have HZ7 : Hid (Bl (wr.drew.setCells g7 0 R.m.proc) g7 R.m.proc) := bl_setCells (cs := zs) hat.out.z7.drew (by rw [HP21.out]; exact HL7.out)
        have HZ8 := hide (hat.out.z8.drew.farCells (o := 0) (vs := R.m.proc) HGB.out.2.2)
        have HOW := hide (own_farCells HN.out.2.2.2.2.1 R.m.proc 0 wr.drew (World.ownsRow.drew HMT.out.own))
        have HBE := hide (below_setCells HGB.out.1 R.m.proc 0 wr.drew hat.out.below.drew)
        refine hK.out _ _ (HBL7.out _ HMB2.out HGS2.out) (fun hHeld2 => ?_)
        clear hK K hHeld
        generalize wr.drew.setCells g7 0 R.m.proc = W7 at *
        try simp only [Act.put, List.setIfInBounds_toArray, List.set_cons_zero, List.set_cons_succ]
        refine wpAnyH_ready (rs := [11]) (by kernel_rfl) (by simp) ?_
        refine AllReadyH.cons (o := { dst := none, op := Go.Op.store 32 (Go.Operand.tmp 8) (Go.Operand.tmp 42), type := 0, pos := "core.go:50", after := #[{ on := 8, ground := Go.Ground.data }, { on := 10, ground := Go.Ground.chain }, { on := 0, ground := Go.Ground.phase }, { on := 1, ground := Go.Ground.phase }, { on := 2, ground := Go.Ground.phase }, { on := 3, ground := Go.Ground.phase }, { on := 4, ground := Go.Ground.phase }, { on := 5, ground := Go.Ground.phase }, { on := 6, ground := Go.Ground.phase }, { on := 7, ground := Go.Ground.phase }, { on := 8, ground := Go.Ground.phase }, { on := 9, ground := Go.Ground.phase }, { on := 10, ground := Go.Ground.phase }], guard := none }) rfl (fun K hK => ?_) AllReadyH.nil
        refine step_store rfl 32 (.tmp 8) (.tmp 42) rfl g8 0 [.int .i64 0, .int .i64 (R.steps : Int), .int .i64 R.code] rfl rfl (show W7.there g8 0 3 from bl_there HZ8.out) infoStop (by intro u hu; simp only [List.mem_cons, List.not_mem_nil, or_false] at hu; rcases hu with rfl | rfl | rfl <;> rfl) ?_
        have HMB3 := hide (HMB2.out.farCells (o := 0) (vs := [.int .i64 0, .int .i64 (R.steps : Int), .int .i64 R.code]) HN.out.2.2.1)
        have HGS3 := hide (HGS2.out.farCells (o := 0) (vs := [.int .i64 0, .int .i64 (R.steps : Int), .int .i64 R.code]) HN.out.2.2.2.1)
        have HR7 := hide (HZ7.out.farCells (o := 0) (vs := [.int .i64 0, .int .i64 (R.steps : Int), .int .i64 R.code]) HGB.out.2.2.symm)
        have HR8 := hide (bl_setCells (vs := [.int .i64 0, .int .i64 (R.steps : Int), .int .i64 R.code]) HZ8.out rfl)
        have HOW3 := hide (own_farCells HN.out.2.2.2.2.2 [.int .i64 0, .int .i64 (R.steps : Int), .int .i64 R.code] 0 W7 HOW.out)
        have HBE3 := hide (below_setCells HGB.out.2.1 [.int .i64 0, .int .i64 (R.steps : Int), .int .i64 R.code] 0 W7 HBE.out)
        refine hK.out _ _ (HBL7.out _ HMB3.out HGS3.out) (fun hHeld3 => ?_)
        clear hK K hHeld2
        generalize W7.setCells g8 0 [.int .i64 0, .int .i64 (R.steps : Int), .int .i64 R.code] = W9 at *
        try simp only [Act.put, List.setIfInBounds_toArray, List.set_cons_zero, List.set_cons_succ]
        refine wpAnyH_done (by kernel_rfl) ?_ _
        (try simp only [Exit.inBlock, Exit.then])
        go_wp2
        (try simp only [Exit.inBlock, Exit.then])
        refine bodyPost_ret (v := .tuple #[.slice pa R.m.pages.length pq, .agg R.m.proc.toArray, .agg [.int .i64 0, .int .i64 (R.steps : Int), .int .i64 R.code].toArray]) (res_run _ W9 g7 g8 _ _ _ rfl rfl rfl (bl_range HR7.out) (bl_range HR8.out) HP21.out rfl) rfl ?_
        exact ⟨_, by rw [HFIN.out, HSTP.out], by rw [HFIN.out]; exact HOW3.out.weaken HG.out.1, by rw [HFIN.out]; exact HMT.out.ok, HBE3.out⟩
    · have d0 : ((R.kind : Int) == 0) = false := by rw [beq_eq_false_iff_ne]; omega
      have HFIN : Hid (m.run n.toNat = R) := by
        unfold Hid
        rw [HR0.out, show n.toNat = k + (n.toNat - k) by omega, Rn.go_add, HRR.out]
        exact Rn.go_still hk0
      have HP21 := hide (proc_len hat.out.m.ok)
      have HMT := hide hat.out.m
      obtain ⟨pa, pq, rfl, _, _⟩ := hat.out.m.own.pgs hat.out.m.ok.ok hat.out.m.ok.most
      have HK0 : Hid (R.kind = R.kind) := rfl
      go_wp2_with fail
      have HSTP : Hid (stopL R = [.int .i64 (R.kind : Int), .int .i64 (R.steps : Int), .int .i64 R.code]) := by unfold Hid stopL; simp [HK0.out]
      have HBL7 : Hid (∀ wz, Bl wz mb (.slice pa R.m.pages.length pq :: R.m.proc) → Bl wz g10 (stopL R) → (fun wz => wz.cell? ⟨mb, 0, none⟩ = some (.slice pa R.m.pages.length pq) ∧ wz.rangeAt mb 1 R.m.proc ∧ wz.cell? ⟨g10, 0, none⟩ = some (.int .i64 (R.kind : Int)) ∧ wz.cell? ⟨g10, 1, none⟩ = some (.int .i64 (R.steps : Int)) ∧ wz.cell? ⟨g10, 2, none⟩ = some (.int .i64 R.code)) wz) := fun wz h1 h2 => ⟨h1.cell 0 _ rfl, bl_tail h1, h2.cell 0 _ rfl, h2.cell 1 _ rfl, h2.cell 2 _ rfl⟩
      have HMB : Hid (Bl wr.drew mb (.slice pa R.m.pages.length pq :: R.m.proc)) := HMT.out.bl.drew
      have HGS : Hid (Bl wr.drew g10 (stopL R)) := hat.out.stop.drew
      have HN : Hid (g7 ≠ mb ∧ g7 ≠ g10 ∧ g8 ≠ mb ∧ g8 ≠ g10 ∧ (Value.slice pa R.m.pages.length pq).ownBlock ≠ some g7 ∧ (Value.slice pa R.m.pages.length pq).ownBlock ≠ some g8) := by
        have h1 := HG.out
        have h2 := HMT.out.le
        exact ⟨by omega, by omega, by omega, by omega, fun e => by have := (World.ownsRow.lt HMT.out.own _ e).1; omega, fun e => by have := (World.ownsRow.lt HMT.out.own _ e).1; omega⟩
      have hu26 := Tryd.underlying26
      have hi26 : (Tryd.prog.info? 26).map (·.size) = some R.m.proc.length := by rw [HP21.out]; exact infoProc
      have hth7 : wr.drew.there g7 0 R.m.proc.length := by rw [HP21.out, ← HL7.out]; exact bl_there hat.out.z7.drew
      refine wp_region_held_drew (S := fun wz => wz.cell? ⟨mb, 0, none⟩ = some (.slice pa R.m.pages.length pq) ∧ wz.rangeAt mb 1 R.m.proc ∧ wz.cell? ⟨g10, 0, none⟩ = some (.int .i64 (R.kind : Int)) ∧ wz.cell? ⟨g10, 1, none⟩ = some (.int .i64 (R.steps : Int)) ∧ wz.cell? ⟨g10, 2, none⟩ = some (.int .i64 R.code)) (by kernel_rfl) (HBL7.out _ HMB.out HGS.out) (fun hHeld => ?_)
      refine wpAnyH_take (i := 0) (oi := { dst := some 34, op := Go.Op.move (Go.Operand.tmp 9), type := 59, pos := "core.go:50", after := #[], guard := none }) (v := ?_) rfl (by kernel_rfl) (by kernel_rfl) (by kernel_rfl) (fun _ _ _ h => h) (Or.inl ⟨by rfl, ?_⟩) (by assumption) ?_
      rotate_left
      · intro w hSw
        try dsimp only at hSw
        go_simp
        try with_reducible rfl
      simp only [Act.put, List.setIfInBounds_toArray, List.set_cons_zero, List.set_cons_succ]
      refine wpAnyH_take (i := 1) (oi := { dst := some 35, op := Go.Op.nilCheck (Go.Operand.tmp 34), type := 0, pos := "core.go:50", after := #[{ on := 0, ground := Go.Ground.data }], guard := none }) (v := ?_) rfl (by kernel_rfl) (by kernel_rfl) (by kernel_rfl) (fun _ _ _ h => h) (Or.inl ⟨by rfl, ?_⟩) (by assumption) ?_
      rotate_left
      · intro w hSw
        try dsimp only at hSw
        go_simp
        try with_reducible rfl
      simp only [Act.put, List.setIfInBounds_toArray, List.set_cons_zero, List.set_cons_succ]
      refine wpAnyH_take (i := 2) (oi := { dst := some 36, op := Go.Op.fieldAddr 64 (Go.Operand.tmp 35) 0, type := 0, pos := "core.go:50", after := #[{ on := 1, ground := Go.Ground.data }], guard := none }) (v := ?_) rfl (by kernel_rfl) (by kernel_rfl) (by kernel_rfl) (fun _ _ _ h => h) (Or.inl ⟨by rfl, ?_⟩) (by assumption) ?_
      rotate_left
      · intro w hSw
        try dsimp only at hSw
        go_simp
        try with_reducible rfl
      simp only [Act.put, List.setIfInBounds_toArray, List.set_cons_zero, List.set_cons_succ]
      refine wpAnyH_take (i := 3) (oi := { dst := some 37, op := Go.Op.load 22 (Go.Operand.tmp 36), type := 22, pos := "core.go:50", after := #[{ on := 2, ground := Go.Ground.data }], guard := none }) (v := ?_) rfl (by kernel_rfl) (by kernel_rfl) (by kernel_rfl) (fun _ _ _ h => h) (Or.inl ⟨by rfl, ?_⟩) (by assumption) ?_
      rotate_left
      · intro w hSw
        try dsimp only at hSw
        go_simp
        try with_reducible rfl
      simp only [Act.put, List.setIfInBounds_toArray, List.set_cons_zero, List.set_cons_succ]
      refine wpAnyH_take (i := 4) (oi := { dst := some 38, op := Go.Op.move (Go.Operand.tmp 9), type := 59, pos := "core.go:50", after := #[{ on := 9, ground := Go.Ground.gcOnly Go.Departure.lateStores }], guard := none }) (v := ?_) rfl (by kernel_rfl) (by kernel_rfl) (by kernel_rfl) (fun _ _ _ h => h) (Or.inl ⟨by rfl, ?_⟩) (by assumption) ?_
      rotate_left
      · intro w hSw
        try dsimp only at hSw
        go_simp
        try with_reducible rfl
      simp only [Act.put, List.setIfInBounds_toArray, List.set_cons_zero, List.set_cons_succ]
      refine wpAnyH_take (i := 5) (oi := { dst := some 39, op := Go.Op.nilCheck (Go.Operand.tmp 38), type := 0, pos := "core.go:50", after := #[{ on := 4, ground := Go.Ground.data }, { on := 9, ground := Go.Ground.gcOnly Go.Departure.lateStores }], guard := none }) (v := ?_) rfl (by kernel_rfl) (by kernel_rfl) (by kernel_rfl) (fun _ _ _ h => h) (Or.inl ⟨by rfl, ?_⟩) (by assumption) ?_
      rotate_left
      · intro w hSw
        try dsimp only at hSw
        go_simp
        try with_reducible rfl
      simp only [Act.put, List.setIfInBounds_toArray, List.set_cons_zero, List.set_cons_succ]
      refine wpAnyH_take (i := 6) (oi := { dst := some 40, op := Go.Op.fieldAddr 64 (Go.Operand.tmp 39) 1, type := 0, pos := "core.go:50", after := #[{ on := 5, ground := Go.Ground.data }, { on := 9, ground := Go.Ground.gcOnly Go.Departure.lateStores }], guard := none }) (v := ?_) rfl (by kernel_rfl) (by kernel_rfl) (by kernel_rfl) (fun _ _ _ h => h) (Or.inl ⟨by rfl, ?_⟩) (by assumption) ?_
      rotate_left
      · intro w hSw
        try dsimp only at hSw
        go_simp
        try with_reducible rfl
      simp only [Act.put, List.setIfInBounds_toArray, List.set_cons_zero, List.set_cons_succ]
      refine wpAnyH_take (i := 7) (oi := { dst := some 41, op := Go.Op.load 26 (Go.Operand.tmp 40), type := 26, pos := "core.go:50", after := #[{ on := 6, ground := Go.Ground.data }, { on := 9, ground := Go.Ground.gcOnly Go.Departure.lateStores }], guard := none }) rfl (by kernel_rfl) (by kernel_rfl) (by kernel_rfl) (fun _ _ _ h => h) (yieldsIf_load_mid (by rfl) _ _ rfl _ _ rfl _ _ (fun _ h => h.2.1) hu26 rfl hi26) (by assumption) ?_
      simp only [Act.put, List.setIfInBounds_toArray, List.set_cons_zero, List.set_cons_succ]
      refine wpAnyH_take (i := 8) (oi := { dst := some 42, op := Go.Op.load 32 (Go.Operand.tmp 10), type := 32, pos := "core.go:50", after := #[{ on := 10, ground := Go.Ground.gcOnly Go.Departure.lateStores }], guard := none }) (v := ?_) rfl (by kernel_rfl) (by kernel_rfl) (by kernel_rfl) (fun _ _ _ h => h) (Or.inl ⟨by rfl, ?_⟩) (by assumption) ?_
      rotate_left
      · intro w hSw
        try dsimp only at hSw
        go_simp
        try with_reducible rfl
      simp only [Act.put, List.setIfInBounds_toArray, List.set_cons_zero, List.set_cons_succ]
      refine wpAnyH_take (i := 9) (oi := { dst := some 6, op := Go.Op.assign (Go.Operand.tmp 37), type := 22, pos := "core.go:50", after := #[{ on := 3, ground := Go.Ground.data }, { on := 0, ground := Go.Ground.phase }, { on := 1, ground := Go.Ground.phase }, { on := 2, ground := Go.Ground.phase }, { on := 3, ground := Go.Ground.phase }, { on := 4, ground := Go.Ground.textOnly Go.Departure.lateStores }, { on := 5, ground := Go.Ground.textOnly Go.Departure.lateStores }, { on := 6, ground := Go.Ground.textOnly Go.Departure.lateStores }, { on := 7, ground := Go.Ground.textOnly Go.Departure.lateStores }, { on := 8, ground := Go.Ground.textOnly Go.Departure.lateStores }], guard := none }) (v := ?_) rfl (by kernel_rfl) (by kernel_rfl) (by kernel_rfl) (fun _ _ _ h => h) (Or.inl ⟨by rfl, ?_⟩) (by assumption) ?_
      rotate_left
      · intro w hSw
        try dsimp only at hSw
        go_simp
        try with_reducible rfl
      simp only [Act.put, List.setIfInBounds_toArray, List.set_cons_zero, List.set_cons_succ]
      refine wpAnyH_ready (rs := [10]) (by kernel_rfl) (by simp) ?_
      refine AllReadyH.cons (o := { dst := none, op := Go.Op.store 26 (Go.Operand.tmp 7) (Go.Operand.tmp 41), type := 0, pos := "core.go:50", after := #[{ on := 7, ground := Go.Ground.data }, { on := 9, ground := Go.Ground.chain }, { on := 0, ground := Go.Ground.phase }, { on := 1, ground := Go.Ground.phase }, { on := 2, ground := Go.Ground.phase }, { on := 3, ground := Go.Ground.phase }, { on := 4, ground := Go.Ground.phase }, { on := 5, ground := Go.Ground.phase }, { on := 6, ground := Go.Ground.phase }, { on := 7, ground := Go.Ground.phase }, { on := 8, ground := Go.Ground.textOnly Go.Departure.lateStores }, { on := 9, ground := Go.Ground.phase }], guard := none }) rfl (fun K hK => ?_) AllReadyH.nil
      refine step_store rfl 26 (.tmp 7) (.tmp 41) rfl g7 0 R.m.proc rfl rfl hth7 hi26 (proc_one R.m) ?_
      have HMB2 := hide (HMB.out.farCells (o := 0) (vs := R.m.proc) HN.out.1)
      have HGS2 := hide (HGS.out.farCells (o := 0) (vs := R.m.proc) HN.out.2.1)
      have HZ7 : Hid (Bl (wr.drew.setCells g7 0 R.m.proc) g7 R.m.proc) := bl_setCells (cs := zs) hat.out.z7.drew (by rw [HP21.out]; exact HL7.out)
      have HZ8 := hide (hat.out.z8.drew.farCells (o := 0) (vs := R.m.proc) HGB.out.2.2)
      have HOW := hide (own_farCells HN.out.2.2.2.2.1 R.m.proc 0 wr.drew (World.ownsRow.drew HMT.out.own))
      have HBE := hide (below_setCells HGB.out.1 R.m.proc 0 wr.drew hat.out.below.drew)
      refine hK.out _ _ (HBL7.out _ HMB2.out HGS2.out) (fun hHeld2 => ?_)
      clear hK K hHeld
      generalize wr.drew.setCells g7 0 R.m.proc = W7 at *
      try simp only [Act.put, List.setIfInBounds_toArray, List.set_cons_zero, List.set_cons_succ]
      refine wpAnyH_ready (rs := [11]) (by kernel_rfl) (by simp) ?_
      refine AllReadyH.cons (o := { dst := none, op := Go.Op.store 32 (Go.Operand.tmp 8) (Go.Operand.tmp 42), type := 0, pos := "core.go:50", after := #[{ on := 8, ground := Go.Ground.data }, { on := 10, ground := Go.Ground.chain }, { on := 0, ground := Go.Ground.phase }, { on := 1, ground := Go.Ground.phase }, { on := 2, ground := Go.Ground.phase }, { on := 3, ground := Go.Ground.phase }, { on := 4, ground := Go.Ground.phase }, { on := 5, ground := Go.Ground.phase }, { on := 6, ground := Go.Ground.phase }, { on := 7, ground := Go.Ground.phase }, { on := 8, ground := Go.Ground.phase }, { on := 9, ground := Go.Ground.phase }, { on := 10, ground := Go.Ground.phase }], guard := none }) rfl (fun K hK => ?_) AllReadyH.nil
      refine step_store rfl 32 (.tmp 8) (.tmp 42) rfl g8 0 [.int .i64 (R.kind : Int), .int .i64 (R.steps : Int), .int .i64 R.code] rfl rfl (show W7.there g8 0 3 from bl_there HZ8.out) infoStop (by intro u hu; simp only [List.mem_cons, List.not_mem_nil, or_false] at hu; rcases hu with rfl | rfl | rfl <;> rfl) ?_
      have HMB3 := hide (HMB2.out.farCells (o := 0) (vs := [.int .i64 (R.kind : Int), .int .i64 (R.steps : Int), .int .i64 R.code]) HN.out.2.2.1)
      have HGS3 := hide (HGS2.out.farCells (o := 0) (vs := [.int .i64 (R.kind : Int), .int .i64 (R.steps : Int), .int .i64 R.code]) HN.out.2.2.2.1)
      have HR7 := hide (HZ7.out.farCells (o := 0) (vs := [.int .i64 (R.kind : Int), .int .i64 (R.steps : Int), .int .i64 R.code]) HGB.out.2.2.symm)
      have HR8 := hide (bl_setCells (vs := [.int .i64 (R.kind : Int), .int .i64 (R.steps : Int), .int .i64 R.code]) HZ8.out rfl)
      have HOW3 := hide (own_farCells HN.out.2.2.2.2.2 [.int .i64 (R.kind : Int), .int .i64 (R.steps : Int), .int .i64 R.code] 0 W7 HOW.out)
      have HBE3 := hide (below_setCells HGB.out.2.1 [.int .i64 (R.kind : Int), .int .i64 (R.steps : Int), .int .i64 R.code] 0 W7 HBE.out)
      refine hK.out _ _ (HBL7.out _ HMB3.out HGS3.out) (fun hHeld3 => ?_)
      clear hK K hHeld2
      generalize W7.setCells g8 0 [.int .i64 (R.kind : Int), .int .i64 (R.steps : Int), .int .i64 R.code] = W9 at *
      try simp only [Act.put, List.setIfInBounds_toArray, List.set_cons_zero, List.set_cons_succ]
      refine wpAnyH_done (by kernel_rfl) ?_ _
      (try simp only [Exit.inBlock, Exit.then])
      go_wp2
      (try simp only [Exit.inBlock, Exit.then])
      refine bodyPost_ret (v := .tuple #[.slice pa R.m.pages.length pq, .agg R.m.proc.toArray, .agg [.int .i64 (R.kind : Int), .int .i64 (R.steps : Int), .int .i64 R.code].toArray]) (res_run _ W9 g7 g8 _ _ _ rfl rfl rfl (bl_range HR7.out) (bl_range HR8.out) HP21.out rfl) rfl ?_
      exact ⟨_, by rw [HFIN.out, HSTP.out], by rw [HFIN.out]; exact HOW3.out.weaken HG.out.1, by rw [HFIN.out]; exact HMT.out.ok, HBE3.out⟩
end Go.Proofs.YteopkgjkbhcicaaDoor
