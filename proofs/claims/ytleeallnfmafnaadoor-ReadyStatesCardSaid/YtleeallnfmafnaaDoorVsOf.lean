/-
  ready's Of, over rows.
-/
import Derived.Test.YtleeallnfmafnaaDoorVsCopied
namespace Go.Proofs.YtleeallnfmafnaaDoor.Vv
open Go.RowKit FerryCrc
set_option linter.unusedVariables false
set_option linter.unusedSimpArgs false

set_option maxRecDepth 100000 in
set_option maxHeartbeats 4000000 in
theorem of_any (w : World) (x0 x1 x2 x6 x7 x8 x9 : Value) (pa : Option Addr) (pn pc : Nat) (P : List Value) (hp : Row w pa pn pc 21 P) (ra : Option Addr) (rn rc : Nat) (R : List Value) (hr : Row w ra rn rc 1 R) (ta : Option Addr) (tn tc : Nat) (T : List Value) (ht : Row w ta tn tc 2 T)
    (op : ∀ u ∈ P, u.oneCell' = true) (or' : ∀ u ∈ R, u.oneCell' = true) (ot : ∀ u ∈ T, u.oneCell' = true) (hmp : pn * 104 ≤ 140737488355328) (hmr : rn * 8 ≤ 140737488355328) (hmt : tn * 16 ≤ 140737488355328) :
    Calls Tryd.prog 6 #[.agg #[x0, x1, x2, .slice pa pn pc, .slice ra rn rc, .slice ta tn tc, x6, x7, x8, x9]] w fun e w' => ∃ a1 c1 a2 c2 a3 c3, e = .returned (.agg #[.slice a1 pn c1, .slice a2 rn c2, .slice a3 tn c3]) ∧ w'.ownsRow w.heap.size 64 21 (.slice a1 pn c1) pn P ∧ w'.ownsRow w.heap.size 3 1 (.slice a2 rn c2) rn R ∧ w'.ownsRow w.heap.size 66 2 (.slice a3 tn c3) tn T ∧ Below w.heap.size w w' := by
  obtain ⟨S, hS⟩ : ∃ S : Array Value, #[x0, x1, x2, .slice pa pn pc, .slice ra rn rc, .slice ta tn tc, x6, x7, x8, x9] = S := ⟨_, rfl⟩
  have HSS := hide hS
  rw [hS]
  clear hS
  have X1 := one_below w (.cells S 29)
  have X2 := one_below (w.alloc (.cells S 29)) (.cells #[.slice none 0 0, .slice none 0 0, .slice none 0 0] 34)
  have BX0 : Bl (w.alloc (.cells S 29)) w.heap.size S.toList := bl_alloc w S 29
  have BX := hide (BX0.below (by simp) X2)
  have BG : Hid (Bl ((w.alloc (.cells S 29)).alloc (.cells #[.slice none 0 0, .slice none 0 0, .slice none 0 0] 34)) (w.heap.size + 1) [.slice none 0 0, .slice none 0 0, .slice none 0 0]) := by
    have := bl_alloc (w.alloc (.cells S 29)) #[.slice none 0 0, .slice none 0 0, .slice none 0 0] 34
    rw [show (w.alloc (.cells S 29)).heap.size = w.heap.size + 1 by simp] at this
    exact this
  have HB0 := hide (chain X1 X2)
  have hz : ((w.alloc (.cells S 29)).alloc (.cells #[.slice none 0 0, .slice none 0 0, .slice none 0 0] 34)).heap.size = w.heap.size + 2 := by simp
  have HC := hide (copied_any _ pa pn pc P (hp.below HB0.out) ra rn rc R (hr.below HB0.out) ta tn tc T (ht.below HB0.out) op or' ot hmp hmr hmt)
  clear X1 X2 BX0 hp hr ht op or' ot
  go_enter Tryd.func6, Tryd.ntmps6
  go_upto_region 1 with fail
  generalize (w.alloc (.cells S 29)).alloc (.cells #[.slice none 0 0, .slice none 0 0, .slice none 0 0] 34) = W0 at *
  have HZ := hide hz
  clear hz
  have hl2 : Hid (w.heap.size + 1 < W0.heap.size) := by unfold Hid; rw [HZ.out]; omega
  have d3 : W0.cell? ⟨w.heap.size, 3, none⟩ = some (.slice pa pn pc) := BX.out.cell 3 _ (by rw [← HSS.out]; rfl)
  have d4 : W0.cell? ⟨w.heap.size, 4, none⟩ = some (.slice ra rn rc) := BX.out.cell 4 _ (by rw [← HSS.out]; rfl)
  have d5 : W0.cell? ⟨w.heap.size, 5, none⟩ = some (.slice ta tn tc) := BX.out.cell 5 _ (by rw [← HSS.out]; rfl)
  go_wp2_with fail
  refine Calls.mono HC.out ?_
  rintro e w1 ⟨ap, cp, ai, ci, at', ct, rfl, o1, o2, o3, b1⟩
  have y1 := HB0.out.size
  have FP := hide (ownsRow_weaken (own3 (g := w.heap.size + 1) o1 hl2.out (.slice ap pn cp) (.slice ai rn ci) (.slice at' tn ct)) y1)
  have FI := hide (ownsRow_weaken (own3 (g := w.heap.size + 1) o2 hl2.out (.slice ap pn cp) (.slice ai rn ci) (.slice at' tn ct)) y1)
  have FT := hide (ownsRow_weaken (own3 (g := w.heap.size + 1) o3 hl2.out (.slice ap pn cp) (.slice ai rn ci) (.slice at' tn ct)) y1)
  have GB := BG.out.below hl2.out b1
  have G1 := hide (bl_three GB (.slice ap pn cp) (.slice ai rn ci) (.slice at' tn ct))
  have B1 := hide (below3 (g := w.heap.size + 1) (.slice ap pn cp) (.slice ai rn ci) (.slice at' tn ct) (chain HB0.out b1) (by omega))
  have g0 := GB.cell 0 _ rfl
  have g1 := GB.cell 1 _ rfl
  have g2 := GB.cell 2 _ rfl
  have f0 := GB.free 0
  have f1 := GB.free 1
  have f2 := GB.free 2
  clear GB o1 o2 o3 b1 d3 d4 d5 y1 HC
  go_wp2
  clear g0 g1 g2 f0 f1 f2
  generalize ((w1.setCell ⟨w.heap.size + 1, 0, none⟩ (.slice ap pn cp)).setCell ⟨w.heap.size + 1, 1, none⟩ (.slice ai rn ci)).setCell ⟨w.heap.size + 1, 2, none⟩ (.slice at' tn ct) = W9 at *
  have e0 := G1.out.cell 0 _ rfl
  have e1 := G1.out.cell 1 _ rfl
  have e2 := G1.out.cell 2 _ rfl
  (try simp only [Exit.inBlock, Exit.then])
  refine bodyPost_ret (v := .agg #[.slice ap pn cp, .slice ai rn ci, .slice at' tn ct]) (by simp [results, Tryd.results6, go_sem, e0, e1, e2]) rfl ?_
  exact ⟨_, _, _, _, _, _, rfl, FP.out, FI.out, FT.out, B1.out⟩
end Go.Proofs.YtleeallnfmafnaaDoor.Vv
