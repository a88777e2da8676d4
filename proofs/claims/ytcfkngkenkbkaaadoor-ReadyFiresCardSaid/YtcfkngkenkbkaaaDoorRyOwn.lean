/-
  ready's copied and own: a table of the call's own.
-/
import Derived.Test.YtcfkngkenkbkaaaDoorRyPk
namespace Go.Proofs.YtcfkngkenkbkaaaDoor
open Classical
open Go.RowKit
set_option linter.unusedVariables false
set_option linter.unusedSimpArgs false

theorem undrewB {W w' : World} (b : Below W.drew.heap.size W.drew w') : Below W.heap.size W w' := ⟨b.os, b.tape, b.output, b.size, b.block⟩
theorem sep_rng {u v : Value} {a b c d : Nat} (hu : ∀ k, u.ownBlock = some k → a ≤ k ∧ k < b) (hv : ∀ k, v.ownBlock = some k → c ≤ k ∧ k < d) (h : b ≤ c ∨ d ≤ a) : Sep u v := by
  cases e : u.ownBlock with
  | none => exact .inl e
  | some g =>
    refine .inr fun e' => ?_
    rw [e] at e'
    have h1 := hu g e
    have h2 := hv g e'.symm
    omega
/-- A table of the call's own, from block 'base' on: no two of its lists share a block. -/
structure Tab (w : World) (base : Nat) (v1 v2 v3 : Value) (l : List Pro) (r : List Int) (t : List Tm) : Prop where
  p : PrOwn w base v1 l
  r : IOwn w base v2 r
  t : TOwn w base v3 t
  s12 : Sep v1 v2
  s13 : Sep v1 v3
  s23 : Sep v2 v3
theorem Tab.below {w w' : World} {base : Nat} {v1 v2 v3 : Value} {l : List Pro} {r : List Int} {t : List Tm} (h : Tab w base v1 v2 v3 l r t) (hb : Below w.heap.size w w') : Tab w' base v1 v2 v3 l r t :=
  ⟨ownsRow_below h.p hb, ownsRow_below h.r hb, ownsRow_below h.t hb, h.s12, h.s13, h.s23⟩
theorem Tab.weaken {w : World} {base base' : Nat} {v1 v2 v3 : Value} {l : List Pro} {r : List Int} {t : List Tm} (h : Tab w base v1 v2 v3 l r t) (hb : base' ≤ base) : Tab w base' v1 v2 v3 l r t :=
  ⟨ownsRow_weaken h.p hb, ownsRow_weaken h.r hb, ownsRow_weaken h.t hb, h.s12, h.s13, h.s23⟩
theorem tab_nil (w : World) (base : Nat) : Tab w base (.slice none 0 0) (.slice none 0 0) (.slice none 0 0) [] [] [] := ⟨prown_nil _ _, iown_nil _ _, town_nil _ _, sep_nil _, sep_nil _, sep_nil _⟩
theorem Tab.setCell {w : World} {base : Nat} {v1 v2 v3 : Value} {l : List Pro} {r : List Int} {t : List Tm} (h : Tab w base v1 v2 v3 l r t) {p : Addr} (hp : p.block < base) (u : Value) : Tab (w.setCell p u) base v1 v2 v3 l r t :=
  ⟨ownsRow_setCell_below h.p hp u, ownsRow_setCell_below h.r hp u, ownsRow_setCell_below h.t hp u, h.s12, h.s13, h.s23⟩

theorem clonePro_any (w : World) (a : Option Addr) (len cap : Nat) (l : List Pro) (hs : Pros w a len cap l) (hm : len ≤ 1048576) :
    Calls Tryd.prog 74 #[.slice a len cap] w fun e w' => ∃ v, e = .returned v ∧ PrOwn w' w.heap.size v l ∧ Below w.heap.size w w' := by
  have HS := hide hs
  have hl := hs.size
  have HI := hide infoProc
  have hq := fun w' => eql_slice_nil (P := Tryd.prog) w' 22 60 a len cap Tryd.underlying22
  have BE := hide (new_below w (.cells #[] 60))
  cases a with
  | none =>
    obtain ⟨rfl, rfl⟩ := hs.row.null rfl
    obtain rfl : l = [] := List.length_eq_zero_iff.1 hl
    clear hs
    simp only [Option.isNone_none] at hq
    go_enter Tryd.func74, Tryd.ntmps74
    go_wp2
    go_ret
    exact ⟨_, rfl, prown_nil _ _, Below.refl _ _⟩
  | some ad =>
    clear hs
    simp only [Option.isNone_some] at hq
    go_enter Tryd.func74, Tryd.ntmps74
    go_wp2_with (at_builtin; refine append_list rfl (.tmp 5) (.tmp 6) 22 60 rfl Tryd.underlying22 HI.out (by decide) w.heap.size _ 0 [] rfl (World.ownsRow_lit w #[] 0 (Nat.le_refl _) (by decide) rfl) (some ad) len cap (l.flatMap Pro.cells) rfl ((HS.out.below BE.out).row) (pro_one l) (by unfold maxLen; omega) (by omega) BE.out.size ?_; intro v2 w2 h2 b2)
    rw [List.nil_append, Nat.zero_add, ← hl] at h2
    have H2 := hide h2
    have B2 := hide (BE.out.trans b2)
    clear h2 b2
    go_wp2
    go_ret
    exact ⟨_, rfl, H2.out, B2.out⟩

theorem cloneInt_any (w : World) (a : Option Addr) (len cap : Nat) (l : List Int) (hs : Is w a len cap l) (hm : len ≤ 1048576) :
    Calls Tryd.prog 75 #[.slice a len cap] w fun e w' => ∃ v, e = .returned v ∧ IOwn w' w.heap.size v l ∧ Below w.heap.size w w' := by
  have HS := hide hs
  have hl := hs.size
  have HI := hide infoInt
  have hq := fun w' => eql_slice_nil (P := Tryd.prog) w' 23 3 a len cap Tryd.underlying23
  have BE := hide (new_below w (.cells #[] 3))
  cases a with
  | none =>
    obtain ⟨rfl, rfl⟩ := hs.row.null rfl
    obtain rfl : l = [] := List.length_eq_zero_iff.1 hl
    clear hs
    simp only [Option.isNone_none] at hq
    go_enter Tryd.func75, Tryd.ntmps75
    go_wp2
    go_ret
    exact ⟨_, rfl, iown_nil _ _, Below.refl _ _⟩
  | some ad =>
    clear hs
    simp only [Option.isNone_some] at hq
    go_enter Tryd.func75, Tryd.ntmps75
    go_wp2_with (at_builtin; refine append_list rfl (.tmp 5) (.tmp 6) 23 3 rfl Tryd.underlying23 HI.out (by decide) w.heap.size _ 0 [] rfl (World.ownsRow_lit w #[] 0 (Nat.le_refl _) (by decide) rfl) (some ad) len cap (l.flatMap ci) rfl ((HS.out.below BE.out).row) (ci_one l) (by unfold maxLen; omega) (by omega) BE.out.size ?_; intro v2 w2 h2 b2)
    rw [List.nil_append, Nat.zero_add, ← hl] at h2
    have H2 := hide h2
    have B2 := hide (BE.out.trans b2)
    clear h2 b2
    go_wp2
    go_ret
    exact ⟨_, rfl, H2.out, B2.out⟩

/-- What a later world still shows of a table's box. -/
theorem heldC {W wz : World} {b : Nat} {x y z : Value} (hb : Bl W b [x, y, z]) (hl : b < W.heap.size) (h : Below W.heap.size W wz) : wz.cell? ⟨b, 0, none⟩ = some x ∧ wz.cell? ⟨b, 1, none⟩ = some y ∧ wz.cell? ⟨b, 2, none⟩ = some z := by
  have h1 := hb.below hl h
  exact ⟨h1.cell 0 _ rfl, h1.cell 1 _ rfl, h1.cell 2 _ rfl⟩
theorem heldS {W wz : World} {b g : Nat} {x y z u v t : Value} (hb : Bl W b [x, y, z]) (hl : b < W.heap.size) (h : Below W.heap.size W wz) (hne : g ≠ b) : (((wz.setCell ⟨g, 0, none⟩ u).setCell ⟨g, 1, none⟩ v).setCell ⟨g, 2, none⟩ t).cell? ⟨b, 0, none⟩ = some x ∧ (((wz.setCell ⟨g, 0, none⟩ u).setCell ⟨g, 1, none⟩ v).setCell ⟨g, 2, none⟩ t).cell? ⟨b, 1, none⟩ = some y ∧ (((wz.setCell ⟨g, 0, none⟩ u).setCell ⟨g, 1, none⟩ v).setCell ⟨g, 2, none⟩ t).cell? ⟨b, 2, none⟩ = some z := by
  have h1 := (((hb.below hl h).far (g' := g) (k := 0) (u := u) hne).far (g' := g) (k := 1) (u := v) hne).far (g' := g) (k := 2) (u := t) hne
  exact ⟨h1.cell 0 _ rfl, h1.cell 1 _ rfl, h1.cell 2 _ rfl⟩
theorem bl_three {w : World} {g : Nat} {x y z : Value} (h : Bl w g [x, y, z]) (u v t : Value) : Bl (((w.setCell ⟨g, 0, none⟩ u).setCell ⟨g, 1, none⟩ v).setCell ⟨g, 2, none⟩ t) g [u, v, t] :=
  ((h.set (k := 0) (by simp) u).set (k := 1) (by simp) v).set (k := 2) (by simp) t
theorem below3 {w w' : World} {B g : Nat} (u v t : Value) (h : Below B w w') (hb : B ≤ g) : Below B w (((w'.setCell ⟨g, 0, none⟩ u).setCell ⟨g, 1, none⟩ v).setCell ⟨g, 2, none⟩ t) :=
  ((h.setCell (p := ⟨g, 0, none⟩) hb u).setCell (p := ⟨g, 1, none⟩) hb v).setCell (p := ⟨g, 2, none⟩) hb t
theorem Tab.three {w : World} {base : Nat} {v1 v2 v3 : Value} {l : List Pro} {r : List Int} {t : List Tm} (h : Tab w base v1 v2 v3 l r t) {g : Nat} (hg : g < base) (x y z : Value) : Tab (((w.setCell ⟨g, 0, none⟩ x).setCell ⟨g, 1, none⟩ y).setCell ⟨g, 2, none⟩ z) base v1 v2 v3 l r t :=
  ((h.setCell (p := ⟨g, 0, none⟩) hg x).setCell (p := ⟨g, 1, none⟩) hg y).setCell (p := ⟨g, 2, none⟩) hg z

set_option maxRecDepth 100000 in
set_option maxHeartbeats 4000000 in
theorem copied_any (w : World) (pa : Option Addr) (pn pc : Nat) (l : List Pro) (hp : Pros w pa pn pc l) (ra : Option Addr) (rn rc : Nat) (r : List Int) (hr : Is w ra rn rc r) (ta : Option Addr) (tn tc : Nat) (t : List Tm) (ht : Tms w ta tn tc t) (hmp : pn ≤ 1048576) (hmr : rn ≤ 1048576) (hmt : tn ≤ 1048576) :
    Calls Tryd.prog 58 #[.agg #[.slice pa pn pc, .slice ra rn rc, .slice ta tn tc]] w fun e w' => ∃ a1 c1 a2 c2 a3 c3, e = .returned (.agg #[.slice a1 l.length c1, .slice a2 r.length c2, .slice a3 t.length c3]) ∧ Tab w' w.heap.size (.slice a1 l.length c1) (.slice a2 r.length c2) (.slice a3 t.length c3) l r t ∧ Below w.heap.size w w' := by
  have X1 := new_below w (.cells #[.slice pa pn pc, .slice ra rn rc, .slice ta tn tc] 29)
  have X2 := new_below (w.alloc (.cells #[.slice pa pn pc, .slice ra rn rc, .slice ta tn tc] 29)) (.cells #[.slice none 0 0, .slice none 0 0, .slice none 0 0] 29)
  have BX0 : Bl (w.alloc (.cells #[.slice pa pn pc, .slice ra rn rc, .slice ta tn tc] 29)) w.heap.size [.slice pa pn pc, .slice ra rn rc, .slice ta tn tc] := bl_alloc w #[.slice pa pn pc, .slice ra rn rc, .slice ta tn tc] 29
  have BX := hide (BX0.below (by simp) X2)
  have BG : Hid (Bl ((w.alloc (.cells #[.slice pa pn pc, .slice ra rn rc, .slice ta tn tc] 29)).alloc (.cells #[.slice none 0 0, .slice none 0 0, .slice none 0 0] 29)) (w.heap.size + 1) [.slice none 0 0, .slice none 0 0, .slice none 0 0]) := by
    have := bl_alloc (w.alloc (.cells #[.slice pa pn pc, .slice ra rn rc, .slice ta tn tc] 29)) #[.slice none 0 0, .slice none 0 0, .slice none 0 0] 29
    rw [show (w.alloc (.cells #[.slice pa pn pc, .slice ra rn rc, .slice ta tn tc] 29)).heap.size = w.heap.size + 1 by simp] at this
    exact this
  have HB0 := hide (chain X1 X2)
  have hz : ((w.alloc (.cells #[.slice pa pn pc, .slice ra rn rc, .slice ta tn tc] 29)).alloc (.cells #[.slice none 0 0, .slice none 0 0, .slice none 0 0] 29)).heap.size = w.heap.size + 2 := by simp
  have HS := hide (hp.below HB0.out)
  have HI := hide (hr.below HB0.out)
  have HT := hide (ht.below HB0.out)
  clear X1 X2 BX0 hp hr ht
  go_enter Tryd.func58, Tryd.ntmps58
  go_upto_region 1 with fail
  generalize (w.alloc (.cells #[.slice pa pn pc, .slice ra rn rc, .slice ta tn tc] 29)).alloc (.cells #[.slice none 0 0, .slice none 0 0, .slice none 0 0] 29) = W0 at *
  have HZ := hide hz
  clear hz
  have hl1 : Hid (w.heap.size < W0.heap.size) := by unfold Hid; rw [HZ.out]; omega
  have hl2 : Hid (w.heap.size + 1 < W0.heap.size) := by unfold Hid; rw [HZ.out]; omega
  have HW := hide (Below.refl W0.heap.size W0)
  have Z0 := hide (Nat.le_refl W0.heap.size)
  go_region_held3 (fun wz => wz.cell? ⟨w.heap.size, 0, none⟩ = some (.slice pa pn pc) ∧ wz.cell? ⟨w.heap.size, 1, none⟩ = some (.slice ra rn rc) ∧ wz.cell? ⟨w.heap.size, 2, none⟩ = some (.slice ta tn tc))
    (first | exact heldC BX.out hl1.out HW.out | exact heldC BX.out hl1.out HW.out.drew | exact heldS BX.out hl1.out HW.out (by omega))
    (first
      | (go_at_call 74; refine (clonePro_any _ pa pn pc l (HS.out.below (by first | exact HW.out | exact HW.out.drew)) hmp).mono ?_; rintro e wp ⟨vp, rfl, op, bp⟩; obtain ⟨ap, cp, rfl, _⟩ := prown_pros op; have RP := hide op.lt; have ZP := hide bp.size; have OP := hide op; (try have OI := hide (ownsRow_below OI.out bp)); (try have OT := hide (ownsRow_below OT.out bp)); have HW := hide (chain HW.out (by first | exact bp | exact undrewB bp)); have GB := BG.out.below hl2.out HW.out; have g0 := GB.cell 0 _ rfl; have g1 := GB.cell 1 _ rfl; have g2 := GB.cell 2 _ rfl; have f0 := GB.free 0; have f1 := GB.free 1; have f2 := GB.free 2; clear GB; clear op bp)
      | (go_at_call 75; refine (cloneInt_any _ ra rn rc r (HI.out.below (by first | exact HW.out | exact HW.out.drew)) hmr).mono ?_; rintro e wi ⟨vi, rfl, oi, bi⟩; obtain ⟨ai, ci', rfl, _⟩ := iown_is oi; have RI := hide oi.lt; have ZI := hide bi.size; have OI := hide oi; (try have OP := hide (ownsRow_below OP.out bi)); (try have OT := hide (ownsRow_below OT.out bi)); have HW := hide (chain HW.out (by first | exact bi | exact undrewB bi)); have GB := BG.out.below hl2.out HW.out; have g0 := GB.cell 0 _ rfl; have g1 := GB.cell 1 _ rfl; have g2 := GB.cell 2 _ rfl; have f0 := GB.free 0; have f1 := GB.free 1; have f2 := GB.free 2; clear GB; clear oi bi)
      | (go_at_call 76; refine (clone_any _ ta tn tc t (HT.out.below (by first | exact HW.out | exact HW.out.drew)) hmt).mono ?_; rintro e wt ⟨vt, rfl, ot, bt⟩; obtain ⟨at', ct, rfl, _⟩ := town_tms ot; have RT := hide ot.lt; have ZT := hide bt.size; have OT := hide ot; (try have OP := hide (ownsRow_below OP.out bt)); (try have OI := hide (ownsRow_below OI.out bt)); have HW := hide (chain HW.out (by first | exact bt | exact undrewB bt)); have GB := BG.out.below hl2.out HW.out; have g0 := GB.cell 0 _ rfl; have g1 := GB.cell 1 _ rfl; have g2 := GB.cell 2 _ rfl; have f0 := GB.free 0; have f1 := GB.free 1; have f2 := GB.free 2; clear GB; clear ot bt))
  have z1 : W0.heap.size ≤ wp.heap.size := ZP.out
  have z2 := ZI.out
  have z3 := ZT.out
  have T0 : Tab wt W0.heap.size (.slice ap l.length cp) (.slice ai r.length ci') (.slice at' t.length ct) l r t :=
    ⟨OP.out, ownsRow_weaken OI.out z1, ownsRow_weaken OT.out (Nat.le_trans z1 z2), sep_rng RP.out RI.out (.inl (Nat.le_refl _)), sep_rng RP.out RT.out (.inl z2), sep_rng RI.out RT.out (.inl (Nat.le_refl _))⟩
  have T1 := hide ((T0.three (g := w.heap.size + 1) hl2.out (.slice ap l.length cp) (.slice ai r.length ci') (.slice at' t.length ct)).weaken HB0.out.size)
  have G1 := hide (bl_three (BG.out.below hl2.out HW.out) (.slice ap l.length cp) (.slice ai r.length ci') (.slice at' t.length ct))
  have B1 := hide (below3 (g := w.heap.size + 1) (.slice ap l.length cp) (.slice ai r.length ci') (.slice at' t.length ct) (HB0.out.trans (HW.out.mono HB0.out.size)) (by omega))
  clear z1 z2 z3 T0 OP OI OT g0 g1 g2 f0 f1 f2
  generalize ((wt.setCell ⟨w.heap.size + 1, 0, none⟩ (.slice ap l.length cp)).setCell ⟨w.heap.size + 1, 1, none⟩ (.slice ai r.length ci')).setCell ⟨w.heap.size + 1, 2, none⟩ (.slice at' t.length ct) = W9 at *
  go_wp2
  have e0 := G1.out.cell 0 _ rfl
  have e1 := G1.out.cell 1 _ rfl
  have e2 := G1.out.cell 2 _ rfl
  (try simp only [Exit.inBlock, Exit.then])
  refine bodyPost_ret (v := .agg #[.slice ap l.length cp, .slice ai r.length ci', .slice at' t.length ct]) (by simp [results, Tryd.results58, go_sem, e0, e1, e2]) rfl ?_
  exact ⟨_, _, _, _, _, _, rfl, T1.out, B1.out⟩

theorem glob3 {w : World} {b : Nat} {o : Nat} {v : Value} (h : w.cell? ⟨b, o, none⟩ = some v) {g : Nat} (hne : b ≠ g) (x y z : Value) : (((w.setCell ⟨g, 0, none⟩ x).setCell ⟨g, 1, none⟩ y).setCell ⟨g, 2, none⟩ z).cell? ⟨b, o, none⟩ = some v := by
  rw [World.cell?_setCell_other _ _ _ _ (fun e => hne (congrArg Addr.block e).symm), World.cell?_setCell_other _ _ _ _ (fun e => hne (congrArg Addr.block e).symm), World.cell?_setCell_other _ _ _ _ (fun e => hne (congrArg Addr.block e).symm)]
  exact h
/-- What own answers. -/
def ownT {α : Type} (g : Prop) [Decidable g] (l : List α) : List α := if g then l else []
def ownE (g : Prop) [Decidable g] : Nat := if g then 0 else 9
set_option maxRecDepth 100000 in
set_option maxHeartbeats 4000000 in
theorem own_any {w : World} {E : Nat → Addr} (he : Er9 w E) (pa : Option Addr) (pn pc : Nat) (l : List Pro) (hp : Pros w pa pn pc l) (ra : Option Addr) (rn rc : Nat) (r : List Int) (hr : Is w ra rn rc r) (ta : Option Addr) (tn tc : Nat) (t : List Tm) (ht : Tms w ta tn tc t) (hmp : pn ≤ 9223372036854775807) (hmr : rn ≤ 9223372036854775807) (hmt : tn ≤ 9223372036854775807) :
    Calls Tryd.prog 39 #[.agg #[.slice pa pn pc, .slice ra rn rc, .slice ta tn tc]] w fun e w' => ∃ a1 n1 c1 a2 n2 c2 a3 n3 c3 v, e = .returned (.tuple #[.agg #[.slice a1 n1 c1, .slice a2 n2 c2, .slice a3 n3 c3], v]) ∧ Bare E v (ownE (Good l r t)) ∧ Tab w' w.heap.size (.slice a1 n1 c1) (.slice a2 n2 c2) (.slice a3 n3 c3) (ownT (Good l r t) l) (ownT (Good l r t) r) (ownT (Good l r t) t) ∧ Below w.heap.size w w' := by
  have X1 := new_below w (.cells #[.slice pa pn pc, .slice ra rn rc, .slice ta tn tc] 29)
  have X2 := new_below (w.alloc (.cells #[.slice pa pn pc, .slice ra rn rc, .slice ta tn tc] 29)) (.cells #[.slice none 0 0, .slice none 0 0, .slice none 0 0] 29)
  have BX0 : Bl (w.alloc (.cells #[.slice pa pn pc, .slice ra rn rc, .slice ta tn tc] 29)) w.heap.size [.slice pa pn pc, .slice ra rn rc, .slice ta tn tc] := bl_alloc w #[.slice pa pn pc, .slice ra rn rc, .slice ta tn tc] 29
  have BX := hide (BX0.below (by simp) X2)
  have BG : Hid (Bl ((w.alloc (.cells #[.slice pa pn pc, .slice ra rn rc, .slice ta tn tc] 29)).alloc (.cells #[.slice none 0 0, .slice none 0 0, .slice none 0 0] 29)) (w.heap.size + 1) [.slice none 0 0, .slice none 0 0, .slice none 0 0]) := by
    have := bl_alloc (w.alloc (.cells #[.slice pa pn pc, .slice ra rn rc, .slice ta tn tc] 29)) #[.slice none 0 0, .slice none 0 0, .slice none 0 0] 29
    rw [show (w.alloc (.cells #[.slice pa pn pc, .slice ra rn rc, .slice ta tn tc] 29)).heap.size = w.heap.size + 1 by simp] at this
    exact this
  have HB0 := hide (chain X1 X2)
  have hz : ((w.alloc (.cells #[.slice pa pn pc, .slice ra rn rc, .slice ta tn tc] 29)).alloc (.cells #[.slice none 0 0, .slice none 0 0, .slice none 0 0] 29)).heap.size = w.heap.size + 2 := by simp
  have HS := hide (hp.below HB0.out)
  have HI := hide (hr.below HB0.out)
  have HT := hide (ht.below HB0.out)
  have HE := hide (he.below HB0.out)
  have HG9 := hide (block_lt_of_cell he.v9)
  have HL : Hid (l.length = pn) := hp.size
  have HLR : Hid (r.length = rn) := hr.size
  have HLT : Hid (t.length = tn) := ht.size
  clear X1 X2 BX0 hp hr ht he
  go_enter Tryd.func39, Tryd.ntmps39
  go_upto_region 1 with fail
  generalize (w.alloc (.cells #[.slice pa pn pc, .slice ra rn rc, .slice ta tn tc] 29)).alloc (.cells #[.slice none 0 0, .slice none 0 0, .slice none 0 0] 29) = W0 at *
  have HZ := hide hz
  clear hz
  have hl1 : Hid (w.heap.size < W0.heap.size) := by unfold Hid; rw [HZ.out]; omega
  have hl2 : Hid (w.heap.size + 1 < W0.heap.size) := by unfold Hid; rw [HZ.out]; omega
  have b0 := BX.out.cell 0 _ rfl
  have b1 := BX.out.cell 1 _ rfl
  have b2 := BX.out.cell 2 _ rfl
  go_wp2_with fail
  refine Calls.mono (rgood_any HE.out.er3 pa pn pc l HS.out ra rn rc r HI.out ta tn tc t HT.out hmp hmr hmt) ?_
  rintro e w1 ⟨rfl, x1⟩
  have BX1 := hide (BX.out.below hl1.out x1)
  have BG1 := hide (BG.out.below hl2.out x1)
  have hl3 : Hid (w.heap.size + 1 < w1.heap.size) := Nat.lt_of_lt_of_le hl2.out x1.size
  have B1 := hide (HB0.out.trans (x1.mono HB0.out.size))
  have HS1 := hide (HS.out.below x1)
  have HI1 := hide (HI.out.below x1)
  have HT1 := hide (HT.out.below x1)
  have HE1 := hide (HE.out.below x1)
  clear x1 b0 b1 b2
  have g0 := BG1.out.cell 0 _ rfl
  have g1 := BG1.out.cell 1 _ rfl
  have g2 := BG1.out.cell 2 _ rfl
  have f0 := BG1.out.free 0
  have f1 := BG1.out.free 1
  have f2 := BG1.out.free 2
  by_cases hg : Good l r t
  · rw [decide_eq_true hg]
    have hn1 := hg.1
    have hn2 := goodR_few hg.2.2.1 hg.1
    have hn3 := hg.tfew
    rw [HL.out] at hn1
    rw [HLR.out] at hn2
    rw [HLT.out] at hn3
    have HO : Hid (ownE (Good l r t) = 0 ∧ ownT (Good l r t) l = l ∧ ownT (Good l r t) r = r ∧ ownT (Good l r t) t = t) := ⟨if_pos hg, if_pos hg, if_pos hg, if_pos hg⟩
    have b0 := BX1.out.cell 0 _ rfl
    have b1 := BX1.out.cell 1 _ rfl
    have b2 := BX1.out.cell 2 _ rfl
    clear hg
    go_wp2_with fail
    refine Calls.mono (copied_any w1 pa pn pc l HS1.out ra rn rc r HI1.out ta tn tc t HT1.out (by omega) (by omega) (by omega)) ?_
    rintro e w2 ⟨a1, c1, a2, c2, a3, c3, rfl, htab, x2⟩
    have BG2 := hide (BG1.out.below hl3.out x2)
    have T1 := hide ((htab.three (g := w.heap.size + 1) hl3.out (.slice a1 l.length c1) (.slice a2 r.length c2) (.slice a3 t.length c3)).weaken B1.out.size)
    have G1 := hide (bl_three BG2.out (.slice a1 l.length c1) (.slice a2 r.length c2) (.slice a3 t.length c3))
    have B2 := hide (below3 (g := w.heap.size + 1) (.slice a1 l.length c1) (.slice a2 r.length c2) (.slice a3 t.length c3) (chain B1.out x2) (by omega))
    clear x2 htab b0 b1 b2 g0 g1 g2 f0 f1 f2
    have g0 := BG2.out.cell 0 _ rfl
    have g1 := BG2.out.cell 1 _ rfl
    have g2 := BG2.out.cell 2 _ rfl
    have f0 := BG2.out.free 0
    have f1 := BG2.out.free 1
    have f2 := BG2.out.free 2
    generalize l.length = m1 at *
    generalize r.length = m2 at *
    generalize t.length = m3 at *
    go_wp2
    generalize ((w2.setCell ⟨w.heap.size + 1, 0, none⟩ (.slice a1 m1 c1)).setCell ⟨w.heap.size + 1, 1, none⟩ (.slice a2 m2 c2)).setCell ⟨w.heap.size + 1, 2, none⟩ (.slice a3 m3 c3) = W9 at *
    have e0 := G1.out.cell 0 _ rfl
    have e1 := G1.out.cell 1 _ rfl
    have e2 := G1.out.cell 2 _ rfl
    (try simp only [Exit.inBlock, Exit.then])
    refine bodyPost_ret (v := .tuple #[.agg #[.slice a1 m1 c1, .slice a2 m2 c2, .slice a3 m3 c3], .nilIface]) (by simp [results, Tryd.results39, go_sem, e0, e1, e2]) rfl ?_
    exact ⟨_, _, _, _, _, _, _, _, _, _, rfl, by rw [HO.out.1]; exact bare_nil E, by rw [HO.out.2.1, HO.out.2.2.1, HO.out.2.2.2]; exact T1.out, B2.out⟩
  · rw [decide_eq_false hg]
    have HO : Hid (ownE (Good l r t) = 9 ∧ ownT (Good l r t) l = [] ∧ ownT (Good l r t) r = [] ∧ ownT (Good l r t) t = []) := ⟨if_neg hg, if_neg hg, if_neg hg, if_neg hg⟩
    have v9 := HE1.out.v9
    have hne : 0 ≠ w.heap.size + 1 := by have h9 : 0 < w.heap.size := HG9.out; omega
    have v9s := glob3 v9 hne (.slice none 0 0) (.slice none 0 0) (.slice none 0 0)
    have B2 := hide (below3 (g := w.heap.size + 1) (.slice none 0 0) (.slice none 0 0) (.slice none 0 0) B1.out (by omega))
    have G1 := hide (bl_three BG1.out (.slice none 0 0) (.slice none 0 0) (.slice none 0 0))
    clear hg
    go_wp2
    go_region_held3 (fun wz => wz.cell? ⟨0, 0, none⟩ = some (sent (E 9))) (first | exact v9 | exact v9s) (fail)
    generalize ((w1.setCell ⟨w.heap.size + 1, 0, none⟩ (.slice none 0 0)).setCell ⟨w.heap.size + 1, 1, none⟩ (.slice none 0 0)).setCell ⟨w.heap.size + 1, 2, none⟩ (.slice none 0 0) = W9 at *
    go_wp2
    have e0 : W9.drew.cell? ⟨w.heap.size + 1, 0, none⟩ = _ := G1.out.cell 0 _ rfl
    have e1 : W9.drew.cell? ⟨w.heap.size + 1, 1, none⟩ = _ := G1.out.cell 1 _ rfl
    have e2 : W9.drew.cell? ⟨w.heap.size + 1, 2, none⟩ = _ := G1.out.cell 2 _ rfl
    (try simp only [Exit.inBlock, Exit.then])
    refine bodyPost_ret (v := .tuple #[.agg #[.slice none 0 0, .slice none 0 0, .slice none 0 0], sent (E 9)]) (by simp [results, Tryd.results39, go_sem, e0, e1, e2]) rfl ?_
    exact ⟨_, _, _, _, _, _, _, _, _, _, rfl, by rw [HO.out.1]; exact bare_sent E 9 (by decide) (by decide), by rw [HO.out.2.1, HO.out.2.2.1, HO.out.2.2.2]; exact tab_nil _ _, B2.out.drew⟩
end Go.Proofs.YtcfkngkenkbkaaaDoor
