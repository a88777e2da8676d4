/-
  ready's copied, over rows.
-/
import Derived.Test.YtleeallnfmafnaaDoorVsRow
import Derived.Deep.RegionHeld3
import Derived.Deep.Cut
namespace Go.Proofs.YtleeallnfmafnaaDoor.Vv
open Go.RowKit FerryCrc
set_option linter.unusedVariables false
set_option linter.unusedSimpArgs false

structure Bl (w : World) (g : Nat) (cs : List Value) : Prop where
  cell : ∀ j v, cs[j]? = some v → w.cell? ⟨g, j, none⟩ = some v
  free : ∀ j, w.frozen? ⟨g, j, none⟩ = false
theorem bl_alloc (w : World) (c : Array Value) (t : TypeId) : Bl (w.alloc (.cells c t)) w.heap.size c.toList :=
  ⟨fun j v hv => by rw [World.cell?_alloc_at _ _ _ _ rfl]; simpa using hv, fun j => World.frozen?_alloc_new _ _ _ _⟩
theorem Bl.below {w w' : World} {g : Nat} {cs : List Value} (h : Bl w g cs) (hg : g < w.heap.size) (hb : Below w.heap.size w w') : Bl w' g cs :=
  ⟨fun j v hv => by rw [hb.cell (p := ⟨g, j, none⟩) hg]; exact h.cell j v hv, fun j => by rw [hb.frozen (p := ⟨g, j, none⟩) hg]; exact h.free j⟩
theorem Bl.far {w : World} {g g' k : Nat} {cs : List Value} {u : Value} (h : Bl w g cs) (hne : g' ≠ g) : Bl (w.setCell ⟨g', k, none⟩ u) g cs :=
  ⟨fun j v hv => by rw [World.cell?_setCell_other _ _ _ _ (by simp)]; exact h.cell j v hv, fun j => by rw [World.frozen?_setCell]; exact h.free j⟩
theorem Bl.set {w : World} {g : Nat} {cs : List Value} (h : Bl w g cs) {k : Nat} (hk : k < cs.length) (u : Value) : Bl (w.setCell ⟨g, k, none⟩ u) g (cs.set k u) := by
  refine ⟨fun j v hv => ?_, fun j => by rw [World.frozen?_setCell]; exact h.free j⟩
  by_cases hj : j = k
  · subst hj
    rw [List.getElem?_set_self hk] at hv
    obtain rfl := Option.some.inj hv
    exact World.cell?_setCell_same _ _ _ (h.cell j _ (List.getElem?_eq_getElem hk))
  · rw [List.getElem?_set_ne (Ne.symm hj)] at hv
    rw [World.cell?_setCell_other _ _ _ _ (by simp [hj])]
    exact h.cell j v hv
/-- What a later world still shows of a table's box. -/
theorem heldC {W wz : World} {b : Nat} {x y z : Value} (hb : Bl W b [x, y, z]) (hl : b < W.heap.size) (h : Below W.heap.size W wz) : wz.cell? ⟨b, 0, none⟩ = some x ∧ wz.cell? ⟨b, 1, none⟩ = some y ∧ wz.cell? ⟨b, 2, none⟩ = some z := by
  have h1 := hb.below hl h
  exact ⟨h1.cell 0 _ rfl, h1.cell 1 _ rfl, h1.cell 2 _ rfl⟩
theorem heldS {W wz : World} {b g : Nat} {x y z u v t : Value} (hb : Bl W b [x, y, z]) (hl : b < W.heap.size) (h : Below W.heap.size W wz) (hne : g ≠ b) : (((wz.setCell ⟨g, 0, none⟩ u).setCell ⟨g, 1, none⟩ v).setCell ⟨g, 2, none⟩ t).cell? ⟨b, 0, none⟩ = some x ∧ (((wz.setCell ⟨g, 0, none⟩ u).setCell ⟨g, 1, none⟩ v).setCell ⟨g, 2, none⟩ t).cell? ⟨b, 1, none⟩ = some y ∧ (((wz.setCell ⟨g, 0, none⟩ u).setCell ⟨g, 1, none⟩ v).setCell ⟨g, 2, none⟩ t).cell? ⟨b, 2, none⟩ = some z := by
  have h1 := (((hb.below hl h).far (g' := g) (k := 0) (u := u) hne).far (g' := g) (k := 1) (u := v) hne).far (g' := g) (k := 2) (u := t) hne
  exact ⟨h1.cell 0 _ rfl, h1.cell 1 _ rfl, h1.cell 2 _ rfl⟩
theorem bl_three {w : World} {g : Nat} {x y z : Value} (h : Bl w g [x, y, z]) (u v t : Value) : Bl (((w.setCell ⟨g, 0, none⟩ u).setCell ⟨g, 1, none⟩ v).setCell ⟨g, 2, none⟩ t) g [u, v, t] :=
  ((h.set (k := 0) (by simp) u).set (k := 1) (by simp) v).set (k := 2) (by simp) t
theorem below3 {w w' : World} {B g : Nat} (u v t : Value) (h : Below B w w') (hb : B ≤ g) : Below B w (((w'.setCell ⟨g, 0, none⟩ u).setCell ⟨g, 1, none⟩ v).setCell ⟨g, 2, none⟩ t) :=
  ((h.setCell (p := ⟨g, 0, none⟩) hb u).setCell (p := ⟨g, 1, none⟩) hb v).setCell (p := ⟨g, 2, none⟩) hb t
theorem undrewV {W w' : World} (b : Below W.drew.heap.size W.drew w') : Below W.heap.size W w' := ⟨b.os, b.tape, b.output, b.size, b.block⟩
theorem own3 {w : World} {base : Nat} {e : TypeId} {sz : Nat} {v : Value} {n : Nat} {cs : List Value} (h : w.ownsRow base e sz v n cs) {g : Nat} (hg : g < base) (x y z : Value) : (((w.setCell ⟨g, 0, none⟩ x).setCell ⟨g, 1, none⟩ y).setCell ⟨g, 2, none⟩ z).ownsRow base e sz v n cs :=
  ownsRow_setCell_below (ownsRow_setCell_below (ownsRow_setCell_below h (a := ⟨g, 0, none⟩) hg x) (a := ⟨g, 1, none⟩) hg y) (a := ⟨g, 2, none⟩) hg z

set_option maxRecDepth 100000 in
set_option maxHeartbeats 4000000 in
theorem copied_any (w : World) (pa : Option Addr) (pn pc : Nat) (P : List Value) (hp : Row w pa pn pc 21 P) (ra : Option Addr) (rn rc : Nat) (R : List Value) (hr : Row w ra rn rc 1 R) (ta : Option Addr) (tn tc : Nat) (T : List Value) (ht : Row w ta tn tc 2 T)
    (op : ∀ u ∈ P, u.oneCell' = true) (or' : ∀ u ∈ R, u.oneCell' = true) (ot : ∀ u ∈ T, u.oneCell' = true) (hmp : pn * 104 ≤ 140737488355328) (hmr : rn * 8 ≤ 140737488355328) (hmt : tn * 16 ≤ 140737488355328) :
    Calls Tryd.prog 15 #[.agg #[.slice pa pn pc, .slice ra rn rc, .slice ta tn tc]] w fun e w' => ∃ a1 c1 a2 c2 a3 c3, e = .returned (.agg #[.slice a1 pn c1, .slice a2 rn c2, .slice a3 tn c3]) ∧ w'.ownsRow w.heap.size 64 21 (.slice a1 pn c1) pn P ∧ w'.ownsRow w.heap.size 3 1 (.slice a2 rn c2) rn R ∧ w'.ownsRow w.heap.size 66 2 (.slice a3 tn c3) tn T ∧ Below w.heap.size w w' := by
  have ONP := hide op
  have ONR := hide or'
  have ONT := hide ot
  have X1 := one_below w (.cells #[.slice pa pn pc, .slice ra rn rc, .slice ta tn tc] 34)
  have X2 := one_below (w.alloc (.cells #[.slice pa pn pc, .slice ra rn rc, .slice ta tn tc] 34)) (.cells #[.slice none 0 0, .slice none 0 0, .slice none 0 0] 34)
  have BX0 : Bl (w.alloc (.cells #[.slice pa pn pc, .slice ra rn rc, .slice ta tn tc] 34)) w.heap.size [.slice pa pn pc, .slice ra rn rc, .slice ta tn tc] := bl_alloc w #[.slice pa pn pc, .slice ra rn rc, .slice ta tn tc] 34
  have BX := hide (BX0.below (by simp) X2)
  have BG : Hid (Bl ((w.alloc (.cells #[.slice pa pn pc, .slice ra rn rc, .slice ta tn tc] 34)).alloc (.cells #[.slice none 0 0, .slice none 0 0, .slice none 0 0] 34)) (w.heap.size + 1) [.slice none 0 0, .slice none 0 0, .slice none 0 0]) := by
    have := bl_alloc (w.alloc (.cells #[.slice pa pn pc, .slice ra rn rc, .slice ta tn tc] 34)) #[.slice none 0 0, .slice none 0 0, .slice none 0 0] 34
    rw [show (w.alloc (.cells #[.slice pa pn pc, .slice ra rn rc, .slice ta tn tc] 34)).heap.size = w.heap.size + 1 by simp] at this
    exact this
  have HB0 := hide (chain X1 X2)
  have hz : ((w.alloc (.cells #[.slice pa pn pc, .slice ra rn rc, .slice ta tn tc] 34)).alloc (.cells #[.slice none 0 0, .slice none 0 0, .slice none 0 0] 34)).heap.size = w.heap.size + 2 := by simp
  have Hp := hide (hp.below HB0.out)
  have Hi := hide (hr.below HB0.out)
  have Ht := hide (ht.below HB0.out)
  clear X1 X2 BX0 hp hr ht op or' ot
  go_enter Tryd.func15, Tryd.ntmps15
  go_upto_region 1 with fail
  generalize ((w.alloc (.cells #[.slice pa pn pc, .slice ra rn rc, .slice ta tn tc] 34)).alloc (.cells #[.slice none 0 0, .slice none 0 0, .slice none 0 0] 34)) = W0 at *
  have HZ := hide hz
  clear hz
  have hl1 : Hid (w.heap.size < W0.heap.size) := by unfold Hid; rw [HZ.out]; omega
  have hl2 : Hid (w.heap.size + 1 < W0.heap.size) := by unfold Hid; rw [HZ.out]; omega
  have HW := hide (Below.refl W0.heap.size W0)
  have Z0 := hide (Nat.le_refl W0.heap.size)
  go_region_held3 (fun wz => wz.cell? ⟨w.heap.size, 0, none⟩ = some (.slice pa pn pc) ∧ wz.cell? ⟨w.heap.size, 1, none⟩ = some (.slice ra rn rc) ∧ wz.cell? ⟨w.heap.size, 2, none⟩ = some (.slice ta tn tc))
    (first | exact heldC BX.out hl1.out HW.out | exact heldC BX.out hl1.out HW.out.drew | exact heldS BX.out hl1.out HW.out (by omega))
    (first
      | (go_at_call 26; refine (clone_proc _ pa pn pc P (Hp.out.below (by first | exact HW.out | exact HW.out.drew)) ONP.out hmp).mono ?_; rintro e wp ⟨vp, rfl, op, bp⟩; obtain ⟨ap, cp, rfl, _⟩ := RLk.row (.inl op); have Zp := hide bp.size; have Op := hide op; (try have Oi := hide (ownsRow_below Oi.out bp)); (try have Ot := hide (ownsRow_below Ot.out bp)); have HW := hide (chain HW.out (by first | exact bp | exact undrewV bp)); have GB := BG.out.below hl2.out HW.out; have g0 := GB.cell 0 _ rfl; have g1 := GB.cell 1 _ rfl; have g2 := GB.cell 2 _ rfl; have f0 := GB.free 0; have f1 := GB.free 1; have f2 := GB.free 2; clear GB; clear op bp)
      | (go_at_call 17; refine (clone_int _ ra rn rc R (Hi.out.below (by first | exact HW.out | exact HW.out.drew)) ONR.out hmr).mono ?_; rintro e wi ⟨vi, rfl, oi, bi⟩; obtain ⟨ai, ci, rfl, _⟩ := RLk.row (.inl oi); have Zi := hide bi.size; have Oi := hide oi; (try have Op := hide (ownsRow_below Op.out bi)); (try have Ot := hide (ownsRow_below Ot.out bi)); have HW := hide (chain HW.out (by first | exact bi | exact undrewV bi)); have GB := BG.out.below hl2.out HW.out; have g0 := GB.cell 0 _ rfl; have g1 := GB.cell 1 _ rfl; have g2 := GB.cell 2 _ rfl; have f0 := GB.free 0; have f1 := GB.free 1; have f2 := GB.free 2; clear GB; clear oi bi)
      | (go_at_call 27; refine (clone_timer _ ta tn tc T (Ht.out.below (by first | exact HW.out | exact HW.out.drew)) ONT.out hmt).mono ?_; rintro e wt ⟨vt, rfl, ot, bt⟩; obtain ⟨at', ct, rfl, _⟩ := RLk.row (.inl ot); have Zt := hide bt.size; have Ot := hide ot; (try have Op := hide (ownsRow_below Op.out bt)); (try have Oi := hide (ownsRow_below Oi.out bt)); have HW := hide (chain HW.out (by first | exact bt | exact undrewV bt)); have GB := BG.out.below hl2.out HW.out; have g0 := GB.cell 0 _ rfl; have g1 := GB.cell 1 _ rfl; have g2 := GB.cell 2 _ rfl; have f0 := GB.free 0; have f1 := GB.free 1; have f2 := GB.free 2; clear GB; clear ot bt)
      | fail)
  have z1 : W0.heap.size ≤ wp.heap.size := Zp.out
  have z2 := Zi.out
  have z3 := Zt.out
  have y1 := HB0.out.size
  have FP := hide (ownsRow_weaken (own3 (g := w.heap.size + 1) (ownsRow_weaken Op.out (Nat.le_refl W0.heap.size)) hl2.out (.slice ap pn cp) (.slice ai rn ci) (.slice at' tn ct)) y1)
  have FI := hide (ownsRow_weaken (own3 (g := w.heap.size + 1) (ownsRow_weaken Oi.out z1) hl2.out (.slice ap pn cp) (.slice ai rn ci) (.slice at' tn ct)) y1)
  have FT := hide (ownsRow_weaken (own3 (g := w.heap.size + 1) (ownsRow_weaken Ot.out (Nat.le_trans z1 z2)) hl2.out (.slice ap pn cp) (.slice ai rn ci) (.slice at' tn ct)) y1)
  have G1 := hide (bl_three (BG.out.below hl2.out HW.out) (.slice ap pn cp) (.slice ai rn ci) (.slice at' tn ct))
  have B1 := hide (below3 (g := w.heap.size + 1) (.slice ap pn cp) (.slice ai rn ci) (.slice at' tn ct) (HB0.out.trans (HW.out.mono HB0.out.size)) (by omega))
  clear z1 z2 z3 y1 Op Oi Ot g0 g1 g2 f0 f1 f2
  generalize ((wt.setCell ⟨w.heap.size + 1, 0, none⟩ (.slice ap pn cp)).setCell ⟨w.heap.size + 1, 1, none⟩ (.slice ai rn ci)).setCell ⟨w.heap.size + 1, 2, none⟩ (.slice at' tn ct) = W9 at *
  go_wp2
  have e0 := G1.out.cell 0 _ rfl
  have e1 := G1.out.cell 1 _ rfl
  have e2 := G1.out.cell 2 _ rfl
  (try simp only [Exit.inBlock, Exit.then])
  refine bodyPost_ret (v := .agg #[.slice ap pn cp, .slice ai rn ci, .slice at' tn ct]) (by simp [results, Tryd.results15, go_sem, e0, e1, e2]) rfl ?_
  exact ⟨_, _, _, _, _, _, rfl, FP.out, FI.out, FT.out, B1.out⟩
end Go.Proofs.YtleeallnfmafnaaDoor.Vv
