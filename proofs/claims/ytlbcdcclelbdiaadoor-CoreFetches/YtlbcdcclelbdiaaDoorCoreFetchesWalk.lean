/-
  CoreFetches: the law walked.
-/
import Derived.Test.YtlbcdcclelbdiaaDoorCoreMem
namespace Go.Proofs.YtlbcdcclelbdiaaDoor.coreFetches
open Go.RowKit FerryCrc
set_option linter.unusedVariables false
set_option linter.unusedSimpArgs false

theorem mem_fetch : fIns (mem 12) 0 = ⟨16, 1, 0, 0, 5⟩ ∧ fCode (mem 12) 0 = 0 := ⟨by kernel_rfl, by decide⟩
theorem mem_pgs {w : World} {g : Nat} (h : POwn w g (.slice (some ⟨g, 0, none⟩) 2 2) (mem 12)) : Pgs w (some ⟨g, 0, none⟩) 2 2 (mem 12) := by
  obtain ⟨a, c, e, hp, _⟩ := h.pgs (mem_ok (Nat.le_refl _)) (by decide)
  injection e with e1 e2 e3
  subst e1 e3
  exact hp

set_option maxRecDepth 100000 in
set_option maxHeartbeats 8000000 in
theorem law (a : Option Addr) (len cap : Nat) (l : List Pg) (n : Nat) (w : World) (hv : Isv w) (hs : Pgs w a len cap l) (hn : n < 4294967296) :
    Calls Tryd.prog 3 #[.slice a len cap, .int .u32 (n : Int)] w fun e w' => e = .returned (.bool true) ∧ Below w.heap.size w w' := by
  have HS := hide hs
  have HV := hide hv
  have HM := hide (memory_any w)
  clear hs hv
  go_enter Tryd.func3, Tryd.ntmps3
  go_wp2_with fail
  refine Calls.mono HM.out ?_
  rintro e w1 ⟨rfl, ho, hb⟩
  have D1 := hide hb
  have H1 := hide (coreFetch_any _ _ _ (mem 12) 0 w1 (mem_pgs ho) (by decide) (HV.out.below hb))
  rw [mem_fetch.1, mem_fetch.2] at H1
  clear HM ho hb
  go_wp2_with fail
  refine Calls.mono H1.out ?_
  rintro e w2 ⟨rfl, hb⟩
  have D2 := hide (chain D1.out hb)
  clear hb H1 D1
  unfold Ins.cells
  go_upto_region 4 with fail
  obtain ⟨hz, hbw⟩ := box_world w2 25 #[.int .i64 16, .int .i64 1, .int .i64 0, .int .i64 0, .int .i64 5] _ (Below.refl _ _)
  have hz0 : w2.heap.size < (w2.alloc (.cells #[.int .i64 16, .int .i64 1, .int .i64 0, .int .i64 0, .int .i64 5] 25)).heap.size := by simp
  generalize w2.alloc (.cells #[.int .i64 16, .int .i64 1, .int .i64 0, .int .i64 0, .int .i64 5] 25) = W3 at *
  have D3 := hide (chain D2.out hbw)
  have HSL : Hid (w.heap.size ≤ w2.heap.size) := D2.out.size
  clear hbw D2
  generalize w2.heap.size = g5 at *
  have H3 := hide (rcoreFetch_any a len cap l n W3 (HS.out.below D3.out) hn)
  obtain ⟨I, hI⟩ : ∃ I, fIns l n = I := ⟨_, rfl⟩
  obtain ⟨C, hC⟩ : ∃ C, fCode l n = C := ⟨_, rfl⟩
  rw [hI, hC] at H3
  have H4 : Hid (∀ W, Below w.heap.size w W → Calls Tryd.prog 4 #[.slice a len cap, .int .u32 (n : Int)] W fun e w' => e = .returned (.tuple #[.agg I.cells, .int .i64 (C : Int)]) ∧ Below W.heap.size W w') := fun W h => by
    have := coreFetch_any a len cap l n W (HS.out.below h) hn (HV.out.below h)
    rw [hI, hC] at this
    exact this
  clear hI hC
  obtain ⟨o, p, q, r, s⟩ := I
  unfold Ins.cells at H3 H4
  have HZ := hide hz
  have HZ0 := hide hz0
  clear hz hz0
  go_wp2_with fail
  refine Calls.mono H3.out ?_
  rintro e w4 ⟨rfl, hb4⟩
  have D4 := hide (chain D3.out hb4)
  have HZ4 := hide (HZ.out.below HZ0.out hb4)
  have HZS : Hid (g5 < w4.heap.size) := Nat.lt_of_lt_of_le HZ0.out hb4.size
  clear hb4 H3 HZ HZ0 D3
  go_upto_region 5 with fail
  obtain ⟨hz, hbw⟩ := box_world w4 25 #[.int .i64 o, .int .i64 p, .int .i64 q, .int .i64 r, .int .i64 s] _ (Below.refl _ _)
  have hz0 : w4.heap.size < (w4.alloc (.cells #[.int .i64 o, .int .i64 p, .int .i64 q, .int .i64 r, .int .i64 s] 25)).heap.size := by simp
  generalize w4.alloc (.cells #[.int .i64 o, .int .i64 p, .int .i64 q, .int .i64 r, .int .i64 s] 25) = W5 at *
  have D5 := hide (chain D4.out hbw)
  have HZ5 := hide (HZ4.out.below HZS.out hbw)
  have HY5 := hide hz
  have HZ0 := hide hz0
  have HNE : Hid (g5 < w4.heap.size) := HZS.out
  clear hz hz0 hbw D4 HZ4 HZS
  generalize w4.heap.size = g7 at *
  go_wp2_with fail
  refine Calls.mono (H4.out _ D5.out) ?_
  rintro e w6 ⟨rfl, hb6⟩
  have D6 := hide (chain D5.out hb6)
  have hz6 := HZ5.out.below (Nat.lt_trans HNE.out HZ0.out) hb6
  have hy6 := HY5.out.below HZ0.out hb6
  obtain ⟨z0, z1, z2, z3, z4⟩ := bl_get hz6
  obtain ⟨y0, y1, y2, y3, y4⟩ := bl_free hz6
  have hz7 := hz6.five (.int .i64 o) (.int .i64 p) (.int .i64 q) (.int .i64 r) (.int .i64 s)
  have hy7 : Bl (set5 w6 g5 (.int .i64 o) (.int .i64 p) (.int .i64 q) (.int .i64 r) (.int .i64 s)) g7 [.int .i64 o, .int .i64 p, .int .i64 q, .int .i64 r, .int .i64 s] := ((((hy6.far (Nat.ne_of_lt HNE.out)).far (Nat.ne_of_lt HNE.out)).far (Nat.ne_of_lt HNE.out)).far (Nat.ne_of_lt HNE.out)).far (Nat.ne_of_lt HNE.out)
  have D7 := hide (below_five D6.out HSL.out (.int .i64 o) (.int .i64 p) (.int .i64 q) (.int .i64 r) (.int .i64 s))
  unfold set5 at hz7 hy7 D7
  have HZ7 := hide hz7
  have HY7 := hide hy7
  clear hz6 hy6 hz7 hy7 hb6 H4 HZ5 HY5 D5 D6
  go_upto_region 6 with fail
  generalize ((((w6.setCell ⟨g5, 0, none⟩ (.int .i64 o)).setCell ⟨g5, 1, none⟩ (.int .i64 p)).setCell ⟨g5, 2, none⟩ (.int .i64 q)).setCell ⟨g5, 3, none⟩ (.int .i64 r)).setCell ⟨g5, 4, none⟩ (.int .i64 s) = W7 at *
  clear z0 z1 z2 z3 z4 y0 y1 y2 y3 y4
  obtain ⟨z0, z1, z2, z3, z4⟩ := bl_get HZ7.out
  obtain ⟨y0, y1, y2, y3, y4⟩ := bl_get HY7.out
  go_wp2
  go_ret
  exact ⟨rfl, D7.out⟩
end Go.Proofs.YtlbcdcclelbdiaaDoor.coreFetches
