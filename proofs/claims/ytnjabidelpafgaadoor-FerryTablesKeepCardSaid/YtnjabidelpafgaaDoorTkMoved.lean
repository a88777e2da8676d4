/-
  ferrytop's moved: one step of the tables: refused, or a good table again.
-/
import Derived.Test.YtnjabidelpafgaaDoorTkMoved0
import Derived.Test.YtnjabidelpafgaaDoorMvHalt
import Derived.Test.YtnjabidelpafgaaDoorMvRank
import Derived.Test.YtnjabidelpafgaaDoorMvStart
import Derived.Test.YtnjabidelpafgaaDoorMvWake
import Derived.Test.YtnjabidelpafgaaDoorRbBlock
import Derived.Test.YtnjabidelpafgaaDoorTmSet
import Derived.Test.YtnjabidelpafgaaDoorRyTop
namespace Go.Proofs.YtnjabidelpafgaaDoor
open Classical
open Go.RowKit
set_option linter.unusedVariables false
set_option linter.unusedSimpArgs false

/-- Refused, or a good table of the call's own. -/
def Mvd (E : Nat → Addr) (w : World) (base : Nat) (v1 v2 v3 v : Value) : Prop := (∃ i, v = sent (E i)) ∨ (v = .nilIface ∧ ∃ l r t, Good l r t ∧ Tab w base v1 v2 v3 l r t)
theorem mvd_of {E : Nat → Addr} {w : World} {base : Nat} {v1 v2 v3 v : Value} {G K : Prop} [Decidable G] [Decidable K] [Decidable (G ∧ K)] {l : List Pro} {r : List Int} {t : List Tm} (hb : Bare E v (ofE G K)) (ht : Tab w base v1 v2 v3 (ownT (G ∧ K) l) (ownT (G ∧ K) r) (ownT (G ∧ K) t)) (hg : G → K → Good l r t) : Mvd E w base v1 v2 v3 v := by
  by_cases h : G ∧ K
  · rw [ofE_ok h.1 h.2] at hb
    have e1 : ownT (G ∧ K) l = l := if_pos h
    have e2 : ownT (G ∧ K) r = r := if_pos h
    have e3 : ownT (G ∧ K) t = t := if_pos h
    rw [e1, e2, e3] at ht
    exact .inr ⟨bare0 hb, l, r, t, hg h.1 h.2, ht⟩
  · refine .inl ⟨_, bare_ne hb ?_⟩
    unfold ofE
    by_cases h1 : G
    · rw [if_pos h1, if_neg (fun h2 => h ⟨h1, h2⟩)]; decide
    · rw [if_neg h1]; decide
theorem Mvd.three {E : Nat → Addr} {w : World} {base : Nat} {v1 v2 v3 v : Value} (h : Mvd E w base v1 v2 v3 v) {g : Nat} (hg : g < base) (x y z : Value) : Mvd E (((w.setCell ⟨g, 0, none⟩ x).setCell ⟨g, 1, none⟩ y).setCell ⟨g, 2, none⟩ z) base v1 v2 v3 v :=
  h.imp id fun ⟨e, l, r, t, h1, h2⟩ => ⟨e, l, r, t, h1, h2.three hg x y z⟩
theorem Mvd.weaken {E : Nat → Addr} {w : World} {base base' : Nat} {v1 v2 v3 v : Value} (h : Mvd E w base v1 v2 v3 v) (hb : base' ≤ base) : Mvd E w base' v1 v2 v3 v :=
  h.imp id fun ⟨e, l, r, t, h1, h2⟩ => ⟨e, l, r, t, h1, h2.weaken hb⟩
theorem Mvd.below {E : Nat → Addr} {w w' : World} {base : Nat} {v1 v2 v3 v : Value} (h : Mvd E w base v1 v2 v3 v) (hb : Below w.heap.size w w') : Mvd E w' base v1 v2 v3 v :=
  h.imp id fun ⟨e, l, r, t, h1, h2⟩ => ⟨e, l, r, t, h1, h2.below hb⟩
theorem good_yield {l : List Pro} {r : List Int} {t : List Tm} (h : Good l r t) {k : Nat} {q : Pro} (hk : l[k]? = some q) (hs : q.state = 1) : Good l (yldR r (k : Int)) t := by
  have hkl := (List.getElem?_eq_some_iff.1 hk).1
  have e : l.set k q = l := by
    obtain ⟨h1, h2⟩ := List.getElem?_eq_some_iff.1 hk
    rw [← h2]
    exact List.set_getElem_self h1
  have hq := h.2.1 q (List.mem_of_getElem? hk)
  have := good_put (q' := q) (r' := yldR r (k : Int)) h hk hq (fun i hi => ?_) ?_ (fun j hj => ?_) (good_at h hk).2.1 (good_at h hk).2.2
  · rw [e] at this
    exact this
  · rcases List.mem_append.1 hi with hi | hi
    · exact h.2.2.1.1 i (List.mem_filter.1 hi).1
    · simp at hi; omega
  · unfold yldR
    rw [List.count_append, count_out_self, if_pos hs]
    simp
  · unfold yldR
    rw [List.count_append, count_out (by omega)]
    have : ([(k : Int)].count (j : Int)) = 0 := by rw [List.count_eq_zero]; simp; omega
    omega
theorem tab_far {w : World} {base g : Nat} {v1 v2 v3 : Value} {l : List Pro} {r : List Int} {t : List Tm} (h : Tab w base v1 v2 v3 l r t) (f1 : v1.ownBlock ≠ some g) (f2 : v2.ownBlock ≠ some g) (f3 : v3.ownBlock ≠ some g) (x y z : Value) : Tab (((w.setCell ⟨g, 0, none⟩ x).setCell ⟨g, 1, none⟩ y).setCell ⟨g, 2, none⟩ z) base v1 v2 v3 l r t :=
  ⟨ownsRow_far (ownsRow_far (ownsRow_far h.p (p := ⟨g, 0, none⟩) f1 x) (p := ⟨g, 1, none⟩) f1 y) (p := ⟨g, 2, none⟩) f1 z, ownsRow_far (ownsRow_far (ownsRow_far h.r (p := ⟨g, 0, none⟩) f2 x) (p := ⟨g, 1, none⟩) f2 y) (p := ⟨g, 2, none⟩) f2 z, ownsRow_far (ownsRow_far (ownsRow_far h.t (p := ⟨g, 0, none⟩) f3 x) (p := ⟨g, 1, none⟩) f3 y) (p := ⟨g, 2, none⟩) f3 z, h.s12, h.s13, h.s23⟩
theorem bl_of_heap {w : World} {g : Nat} {c : Array Value} {ty : TypeId} (h : w.heap[g]? = some (.cells c ty)) : Bl w g c.toList :=
  ⟨fun j v hv => by simp only [World.cell?, h]; simpa using hv, fun j => by simp [World.frozen?, h]⟩
theorem tab_listsM {w : World} {base : Nat} {a1 : Option Addr} {n1 c1 : Nat} {a2 : Option Addr} {n2 c2 : Nat} {a3 : Option Addr} {n3 c3 : Nat} {l : List Pro} {r : List Int} {t : List Tm} (h : Tab w base (.slice a1 n1 c1) (.slice a2 n2 c2) (.slice a3 n3 c3) l r t) : Pros w a1 n1 c1 l ∧ Is w a2 n2 c2 r ∧ Tms w a3 n3 c3 t := by
  obtain ⟨a, c, e, h1⟩ := prown_pros h.p
  obtain ⟨a', c', e', h2⟩ := iown_is h.r
  obtain ⟨a'', c'', e'', h3⟩ := town_tms h.t
  simp only [Value.slice.injEq] at e e' e''
  obtain ⟨rfl, rfl, rfl⟩ := e
  obtain ⟨rfl, rfl, rfl⟩ := e'
  obtain ⟨rfl, rfl, rfl⟩ := e''
  exact ⟨h1, h2, h3⟩

set_option maxRecDepth 100000 in
set_option maxHeartbeats 8000000 in
theorem moved_any {w : World} {E : Nat → Addr} (he : Er9 w E) (pa : Option Addr) (pn pc : Nat) (l : List Pro) (hp : Pros w pa pn pc l) (ra : Option Addr) (rn rc : Nat) (r : List Int) (hr : Is w ra rn rc r) (ta : Option Addr) (tn tc : Nat) (t : List Tm) (ht : Tms w ta tn tc t) (hg : Good l r t) (kd p wt ob du st pr : Int) :
    Calls Tryd.prog 7 #[.agg #[.slice pa pn pc, .slice ra rn rc, .slice ta tn tc], .agg #[.int .i64 kd, .int .i64 p, .int .i64 wt, .int .i64 ob, .int .i64 du, .int .i64 st, .int .i64 pr]] w fun e w' => ∃ b1 m1 d1 b2 m2 d2 b3 m3 d3 v, e = .returned (.tuple #[.agg #[.slice b1 m1 d1, .slice b2 m2 d2, .slice b3 m3 d3], v]) ∧ Mvd E w' w.heap.size (.slice b1 m1 d1) (.slice b2 m2 d2) (.slice b3 m3 d3) v ∧ Below w.heap.size w w' := by
  have X1 := new_below w (.cells #[.slice pa pn pc, .slice ra rn rc, .slice ta tn tc] 28)
  have X2 := new_below (w.alloc (.cells #[.slice pa pn pc, .slice ra rn rc, .slice ta tn tc] 28)) (.cells #[.int .i64 kd, .int .i64 p, .int .i64 wt, .int .i64 ob, .int .i64 du, .int .i64 st, .int .i64 pr] 39)
  have X3 := new_below ((w.alloc (.cells #[.slice pa pn pc, .slice ra rn rc, .slice ta tn tc] 28)).alloc (.cells #[.int .i64 kd, .int .i64 p, .int .i64 wt, .int .i64 ob, .int .i64 du, .int .i64 st, .int .i64 pr] 39)) (.cells #[.slice none 0 0, .slice none 0 0, .slice none 0 0] 28)
  have s1 : (w.alloc (.cells #[.slice pa pn pc, .slice ra rn rc, .slice ta tn tc] 28)).heap.size = w.heap.size + 1 := by simp
  have s2 : ((w.alloc (.cells #[.slice pa pn pc, .slice ra rn rc, .slice ta tn tc] 28)).alloc (.cells #[.int .i64 kd, .int .i64 p, .int .i64 wt, .int .i64 ob, .int .i64 du, .int .i64 st, .int .i64 pr] 39)).heap.size = w.heap.size + 2 := by simp
  have s3 : (((w.alloc (.cells #[.slice pa pn pc, .slice ra rn rc, .slice ta tn tc] 28)).alloc (.cells #[.int .i64 kd, .int .i64 p, .int .i64 wt, .int .i64 ob, .int .i64 du, .int .i64 st, .int .i64 pr] 39)).alloc (.cells #[.slice none 0 0, .slice none 0 0, .slice none 0 0] 28)).heap.size = w.heap.size + 3 := by simp
  have BX0 := bl_alloc w #[.slice pa pn pc, .slice ra rn rc, .slice ta tn tc] 28
  have BM0 := bl_alloc (w.alloc (.cells #[.slice pa pn pc, .slice ra rn rc, .slice ta tn tc] 28)) #[.int .i64 kd, .int .i64 p, .int .i64 wt, .int .i64 ob, .int .i64 du, .int .i64 st, .int .i64 pr] 39
  have BR0 := bl_alloc ((w.alloc (.cells #[.slice pa pn pc, .slice ra rn rc, .slice ta tn tc] 28)).alloc (.cells #[.int .i64 kd, .int .i64 p, .int .i64 wt, .int .i64 ob, .int .i64 du, .int .i64 st, .int .i64 pr] 39)) #[.slice none 0 0, .slice none 0 0, .slice none 0 0] 28
  rw [s1] at BM0
  rw [s2] at BR0
  have BX : Hid (Bl (((w.alloc (.cells #[.slice pa pn pc, .slice ra rn rc, .slice ta tn tc] 28)).alloc (.cells #[.int .i64 kd, .int .i64 p, .int .i64 wt, .int .i64 ob, .int .i64 du, .int .i64 st, .int .i64 pr] 39)).alloc (.cells #[.slice none 0 0, .slice none 0 0, .slice none 0 0] 28)) w.heap.size [.slice pa pn pc, .slice ra rn rc, .slice ta tn tc]) := (BX0.below (by omega) X2).below (by omega) X3
  have BM : Hid (Bl (((w.alloc (.cells #[.slice pa pn pc, .slice ra rn rc, .slice ta tn tc] 28)).alloc (.cells #[.int .i64 kd, .int .i64 p, .int .i64 wt, .int .i64 ob, .int .i64 du, .int .i64 st, .int .i64 pr] 39)).alloc (.cells #[.slice none 0 0, .slice none 0 0, .slice none 0 0] 28)) (w.heap.size + 1) [.int .i64 kd, .int .i64 p, .int .i64 wt, .int .i64 ob, .int .i64 du, .int .i64 st, .int .i64 pr]) := BM0.below (by omega) X3
  have BR : Hid (Bl (((w.alloc (.cells #[.slice pa pn pc, .slice ra rn rc, .slice ta tn tc] 28)).alloc (.cells #[.int .i64 kd, .int .i64 p, .int .i64 wt, .int .i64 ob, .int .i64 du, .int .i64 st, .int .i64 pr] 39)).alloc (.cells #[.slice none 0 0, .slice none 0 0, .slice none 0 0] 28)) (w.heap.size + 2) [.slice none 0 0, .slice none 0 0, .slice none 0 0]) := BR0
  have HB0 := hide (chain (chain X1 X2) X3)
  have HZ := hide s3
  have HS := hide (hp.below HB0.out)
  have HI := hide (hr.below HB0.out)
  have HT := hide (ht.below HB0.out)
  have HE := hide (he.below HB0.out)
  have HGD := hide hg
  have HS8 : Hid (l.length ≤ 8 ∧ r.length ≤ 8 ∧ t.length ≤ 8) := ⟨hg.1, goodR_few hg.2.2.1 hg.1, hg.tfew⟩
  have HLN : Hid (l.length = pn ∧ r.length = rn ∧ t.length = tn) := ⟨hp.size, hr.size, ht.size⟩
  clear X1 X2 X3 s1 s2 s3 BX0 BM0 BR0 hp hr ht he hg
  go_enter Tryd.func7, Tryd.ntmps7
  go_upto_region 1 with fail
  generalize ((w.alloc (.cells #[.slice pa pn pc, .slice ra rn rc, .slice ta tn tc] 28)).alloc (.cells #[.int .i64 kd, .int .i64 p, .int .i64 wt, .int .i64 ob, .int .i64 du, .int .i64 st, .int .i64 pr] 39)).alloc (.cells #[.slice none 0 0, .slice none 0 0, .slice none 0 0] 28) = W0 at *
  have hl1 : Hid (w.heap.size < W0.heap.size) := by unfold Hid; rw [HZ.out]; omega
  have hl2 : Hid (w.heap.size + 1 < W0.heap.size) := by unfold Hid; rw [HZ.out]; omega
  have hl3 : Hid (w.heap.size + 2 < W0.heap.size) := by unfold Hid; rw [HZ.out]; omega
  have HW := hide (Below.refl W0.heap.size W0)
  refine wp_region_held_drew (S := fun wz => wz.cell? ⟨w.heap.size, 0, none⟩ = some (.slice pa pn pc) ∧ wz.cell? ⟨w.heap.size, 1, none⟩ = some (.slice ra rn rc) ∧ wz.cell? ⟨w.heap.size, 2, none⟩ = some (.slice ta tn tc)) (by kernel_rfl) (heldC BX.out hl1.out HW.out.drew) (fun hHeld => ?_)
  refine wpAnyH_take (i := 1) (oi := { dst := some 11, op := Go.Op.fieldAddr 28 (Go.Operand.tmp 2) 0, type := 0, pos := "top04.go:35", after := #[], guard := none }) (v := ?_) rfl (by kernel_rfl) (by kernel_rfl) (by kernel_rfl) (fun _ _ _ h => h) (Or.inl ⟨by rfl, ?_⟩) (by assumption) ?_
  rotate_left
  · intro w hSw
    try dsimp only at hSw
    go_simp
    try with_reducible rfl
  simp only [Act.put, List.setIfInBounds_toArray, List.set_cons_zero, List.set_cons_succ]
  refine wpAnyH_take (i := 2) (oi := { dst := some 12, op := Go.Op.load 23 (Go.Operand.tmp 11), type := 23, pos := "top04.go:35", after := #[{ on := 1, ground := Go.Ground.data }], guard := none }) (v := ?_) rfl (by kernel_rfl) (by kernel_rfl) (by kernel_rfl) (fun _ _ _ h => h) (Or.inl ⟨by rfl, ?_⟩) (by assumption) ?_
  rotate_left
  · intro w hSw
    try dsimp only at hSw
    go_simp
    try with_reducible rfl
  simp only [Act.put, List.setIfInBounds_toArray, List.set_cons_zero, List.set_cons_succ]
  refine wpAnyH_take (i := 5) (oi := { dst := some 15, op := Go.Op.fieldAddr 28 (Go.Operand.tmp 2) 1, type := 0, pos := "top04.go:35", after := #[], guard := none }) (v := ?_) rfl (by kernel_rfl) (by kernel_rfl) (by kernel_rfl) (fun _ _ _ h => h) (Or.inl ⟨by rfl, ?_⟩) (by assumption) ?_
  rotate_left
  · intro w hSw
    try dsimp only at hSw
    go_simp
    try with_reducible rfl
  simp only [Act.put, List.setIfInBounds_toArray, List.set_cons_zero, List.set_cons_succ]
  refine wpAnyH_take (i := 6) (oi := { dst := some 16, op := Go.Op.load 25 (Go.Operand.tmp 15), type := 25, pos := "top04.go:35", after := #[{ on := 5, ground := Go.Ground.data }], guard := none }) (v := ?_) rfl (by kernel_rfl) (by kernel_rfl) (by kernel_rfl) (fun _ _ _ h => h) (Or.inl ⟨by rfl, ?_⟩) (by assumption) ?_
  rotate_left
  · intro w hSw
    try dsimp only at hSw
    go_simp
    try with_reducible rfl
  simp only [Act.put, List.setIfInBounds_toArray, List.set_cons_zero, List.set_cons_succ]
  refine wpAnyH_take (i := 9) (oi := { dst := some 19, op := Go.Op.fieldAddr 28 (Go.Operand.tmp 2) 2, type := 0, pos := "top04.go:35", after := #[], guard := none }) (v := ?_) rfl (by kernel_rfl) (by kernel_rfl) (by kernel_rfl) (fun _ _ _ h => h) (Or.inl ⟨by rfl, ?_⟩) (by assumption) ?_
  rotate_left
  · intro w hSw
    try dsimp only at hSw
    go_simp
    try with_reducible rfl
  simp only [Act.put, List.setIfInBounds_toArray, List.set_cons_zero, List.set_cons_succ]
  refine wpAnyH_take (i := 10) (oi := { dst := some 20, op := Go.Op.load 26 (Go.Operand.tmp 19), type := 26, pos := "top04.go:35", after := #[{ on := 9, ground := Go.Ground.data }], guard := none }) (v := ?_) rfl (by kernel_rfl) (by kernel_rfl) (by kernel_rfl) (fun _ _ _ h => h) (Or.inl ⟨by rfl, ?_⟩) (by assumption) ?_
  rotate_left
  · intro w hSw
    try dsimp only at hSw
    go_simp
    try with_reducible rfl
  simp only [Act.put, List.setIfInBounds_toArray, List.set_cons_zero, List.set_cons_succ]
  refine mv_three (W := W0.drew) pa pn pc l (HS.out.below HW.out.drew) ra rn rc r (HI.out.below HW.out.drew) ta tn tc t (HT.out.below HW.out.drew) (by have := HLN.out; have := HS8.out; omega) (by have := HLN.out; have := HS8.out; omega) (by have := HLN.out; have := HS8.out; omega) (by simp) rfl rfl rfl (fun w' b => heldC BX.out hl1.out (HW.out.trans (undrewB b))) ?_
  intro u1 u2 u3 a1 n1 a2 n2 a3 n3 gz w1 htab b9 lz hz
  have hHeld := heldC BX.out hl1.out (HW.out.trans (undrewB b9))
  have lz' : W0.heap.size ≤ gz := lz
  have htab' : Tab w1 W0.heap.size (.slice a1 l.length n1) (.slice a2 r.length n2) (.slice a3 t.length n3) l r t := htab
  have zz : gz < w1.heap.size := (Array.getElem?_eq_some_iff.1 hz).1
  have HW9 := hide (HW.out.trans (undrewB b9))
  have GZ := hide (bl_of_heap hz)
  have FX : ∀ {e : TypeId} {sz n : Nat} {v : Value} {cs : List Value}, w1.ownsRow W0.heap.size e sz v n cs → e ≠ 28 → v.ownBlock ≠ some gz := fun ho hne e => box_apart ho hz hne e.symm
  have T0 : Hid (Tab (((w1.setCell ⟨gz, 0, none⟩ (.slice a1 l.length n1)).setCell ⟨gz, 1, none⟩ (.slice a2 r.length n2)).setCell ⟨gz, 2, none⟩ (.slice a3 t.length n3)) W0.heap.size (.slice a1 l.length n1) (.slice a2 r.length n2) (.slice a3 t.length n3) l r t) := tab_far htab' (FX htab'.p (by decide)) (FX htab'.r (by decide)) (FX htab'.t (by decide)) _ _ _
  have UB0 := hide (bl_three (x := .slice none 0 0) (y := .slice none 0 0) (z := .slice none 0 0) GZ.out (.slice a1 l.length n1) (.slice a2 r.length n2) (.slice a3 t.length n3))
  have B0 := hide (below3 (g := gz) (.slice a1 l.length n1) (.slice a2 r.length n2) (.slice a3 t.length n3) HW9.out lz')
  have RB0 := hide ((((BR.out.below hl3.out HW9.out).far (g' := gz) (k := 0) (u := .slice a1 l.length n1) (by have := hl3.out; omega)).far (g' := gz) (k := 1) (u := .slice a2 r.length n2) (by have := hl3.out; omega)).far (g' := gz) (k := 2) (u := .slice a3 t.length n3) (by have := hl3.out; omega))
  have MB0 := hide ((((BM.out.below hl2.out HW9.out).far (g' := gz) (k := 0) (u := .slice a1 l.length n1) (by have := hl2.out; omega)).far (g' := gz) (k := 1) (u := .slice a2 r.length n2) (by have := hl2.out; omega)).far (g' := gz) (k := 2) (u := .slice a3 t.length n3) (by have := hl2.out; omega))
  have hS9 := heldS (g := gz) (u := .slice a1 l.length n1) (v := .slice a2 r.length n2) (t := .slice a3 t.length n3) BX.out hl1.out HW9.out (by have := hl1.out; omega)
  have g0 := GZ.out.cell 0 _ rfl
  have g1 := GZ.out.cell 1 _ rfl
  have g2 := GZ.out.cell 2 _ rfl
  have f0 := GZ.out.free 0
  have f1 := GZ.out.free 1
  have f2 := GZ.out.free 2
  clear htab htab' b9 lz lz' hz zz FX
  simp only [Act.put, List.setIfInBounds_toArray, List.set_cons_zero, List.set_cons_succ]
  refine wpAnyH_ready (rs := [14]) (by kernel_rfl) (by simp) ?_
  refine AllReadyH.cons (o := { dst := none, op := Go.Op.store 28 (Go.Operand.tmp 6) (Go.Operand.tmp 22), type := 0, pos := "top04.go:35", after := #[{ on := 13, ground := Go.Ground.data }, { on := 12, ground := Go.Ground.data }, { on := 11, ground := Go.Ground.chain }, { on := 0, ground := Go.Ground.phase }, { on := 1, ground := Go.Ground.phase }, { on := 2, ground := Go.Ground.phase }, { on := 3, ground := Go.Ground.phase }, { on := 4, ground := Go.Ground.phase }, { on := 5, ground := Go.Ground.phase }, { on := 6, ground := Go.Ground.phase }, { on := 7, ground := Go.Ground.phase }, { on := 8, ground := Go.Ground.phase }, { on := 9, ground := Go.Ground.phase }, { on := 10, ground := Go.Ground.phase }, { on := 11, ground := Go.Ground.phase }, { on := 12, ground := Go.Ground.phase }, { on := 13, ground := Go.Ground.phase }], guard := none }) rfl (fun K hK => ?_) AllReadyH.nil
  go_simp
  try go_wp2_with fail
  clear g0 g1 g2 f0 f1 f2
  refine hK.out _ _ hS9 (fun hHeld2 => ?_)
  clear hK K hHeld hHeld2 hS9
  generalize (((w1.setCell ⟨gz, 0, none⟩ (.slice a1 l.length n1)).setCell ⟨gz, 1, none⟩ (.slice a2 r.length n2)).setCell ⟨gz, 2, none⟩ (.slice a3 t.length n3)) = W1 at *
  try simp only [Act.put, List.setIfInBounds_toArray, List.set_cons_zero, List.set_cons_succ]
  refine wpAnyH_done (by kernel_rfl) ?_ _
  have HQ := hide (tab_listsM T0.out)
  have B1 := hide (HB0.out.trans (B0.out.mono HB0.out.size))
  have HE1 := hide (HE.out.below B0.out)
  have UB := hide UB0.out
  have MB := hide MB0.out
  have RB := hide RB0.out
  have RZ : Hid (w.heap.size + 2 < W1.heap.size) := Nat.lt_of_lt_of_le hl3.out B0.out.size
  clear T0 UB0 MB0 RB0 B0 HW9 GZ HS HI HT HE BX BM BR HB0 HW HZ hl1 hl2 hl3
  have k0 := MB.out.cell 0 _ rfl
  go_upto_region 3 with fail
  clear k0
  by_cases hk0 : kd = 0
  · have e0 : (kd == 0) = true := by simp [hk0]
    have u0 := UB.out.cell 0 _ rfl
    have u1 := UB.out.cell 1 _ rfl
    have u2 := UB.out.cell 2 _ rfl
    have k1 := MB.out.cell 1 _ rfl
    go_wp2_with fail
    refine Calls.mono (yield_any HE1.out a1 l.length n1 l HQ.out.1 a2 r.length n2 r HQ.out.2.1 a3 t.length n3 t HQ.out.2.2 (by have := HS8.out; omega) (by have := HS8.out; omega) (by have := HS8.out; omega) p) ?_
    rintro e w9 ⟨b1, m1, d1, b2, m2, d2, b3, m3, d3, v9, rfl, hb9, ht9, x9⟩
    have HMV : Hid (Mvd E w9 W1.heap.size (.slice b1 m1 d1) (.slice b2 m2 d2) (.slice b3 m3 d3) v9) := mvd_of hb9 ht9 (fun hg hk => by obtain ⟨k, q, rfl, hq, hs⟩ := okP_at hk; exact good_yield hg hq (by simpa using hs))
    clear hb9 ht9 u0 u1 u2 k1
    have BGF := hide (RB.out.below RZ.out x9)
    have G1 := hide (bl_three BGF.out (.slice b1 m1 d1) (.slice b2 m2 d2) (.slice b3 m3 d3))
    have BF := hide (below3 (g := w.heap.size + 2) (.slice b1 m1 d1) (.slice b2 m2 d2) (.slice b3 m3 d3) (chain B1.out x9) (by omega))
    have HF := hide ((HMV.out.three (g := w.heap.size + 2) RZ.out (.slice b1 m1 d1) (.slice b2 m2 d2) (.slice b3 m3 d3)).weaken B1.out.size)
    have g0 := BGF.out.cell 0 _ rfl
    have g1 := BGF.out.cell 1 _ rfl
    have g2 := BGF.out.cell 2 _ rfl
    have f0 := BGF.out.free 0
    have f1 := BGF.out.free 1
    have f2 := BGF.out.free 2
    clear x9
    go_wp2
    generalize (((w9.setCell ⟨w.heap.size + 2, 0, none⟩ (.slice b1 m1 d1)).setCell ⟨w.heap.size + 2, 1, none⟩ (.slice b2 m2 d2)).setCell ⟨w.heap.size + 2, 2, none⟩ (.slice b3 m3 d3)) = W9 at *
    have e0 := G1.out.cell 0 _ rfl
    have e1 := G1.out.cell 1 _ rfl
    have e2 := G1.out.cell 2 _ rfl
    (try simp only [Exit.inBlock, Exit.then])
    refine bodyPost_ret (v := .tuple #[.agg #[.slice b1 m1 d1, .slice b2 m2 d2, .slice b3 m3 d3], v9]) (by simp [results, Tryd.results7, go_sem, e0, e1, e2]) rfl ?_
    exact ⟨_, _, _, _, _, _, _, _, _, _, rfl, HF.out, BF.out⟩
  have e0 : (kd == 0) = false := by simp [hk0]
  by_cases hk1 : kd = 1
  · have e1 : (kd == 1) = true := by simp [hk1]
    have u0 := UB.out.cell 0 _ rfl
    have u1 := UB.out.cell 1 _ rfl
    have u2 := UB.out.cell 2 _ rfl
    have k1 := MB.out.cell 1 _ rfl
    have k2 := MB.out.cell 2 _ rfl
    have k3 := MB.out.cell 3 _ rfl
    have k4 := MB.out.cell 4 _ rfl
    go_wp2_with fail
    refine Calls.mono (block_any HE1.out a1 l.length n1 l HQ.out.1 a2 r.length n2 r HQ.out.2.1 a3 t.length n3 t HQ.out.2.2 (by have := HS8.out; omega) (by have := HS8.out; omega) (by have := HS8.out; omega) p wt ob du (fun W he a len cap l hs p d hm => tset_any he a len cap l hs p d hm)) ?_
    rintro e w9 ⟨b1, m1, d1, b2, m2, d2, b3, m3, d3, v9, rfl, hb9, x9⟩
    have HMV : Hid (Mvd E w9 W1.heap.size (.slice b1 m1 d1) (.slice b2 m2 d2) (.slice b3 m3 d3) v9) := by
      rcases hb9 with ⟨hi, -⟩ | ⟨hv, k, q, rfl, hq, hs, hg, hw, hd, htb⟩
      · exact .inl hi
      · exact .inr ⟨hv, _, _, _, Rb.good_block hg hq hs hw hd, htb⟩
    clear hb9 u0 u1 u2 k1 k2 k3 k4
    have BGF := hide (RB.out.below RZ.out x9)
    have G1 := hide (bl_three BGF.out (.slice b1 m1 d1) (.slice b2 m2 d2) (.slice b3 m3 d3))
    have BF := hide (below3 (g := w.heap.size + 2) (.slice b1 m1 d1) (.slice b2 m2 d2) (.slice b3 m3 d3) (chain B1.out x9) (by omega))
    have HF := hide ((HMV.out.three (g := w.heap.size + 2) RZ.out (.slice b1 m1 d1) (.slice b2 m2 d2) (.slice b3 m3 d3)).weaken B1.out.size)
    have g0 := BGF.out.cell 0 _ rfl
    have g1 := BGF.out.cell 1 _ rfl
    have g2 := BGF.out.cell 2 _ rfl
    have f0 := BGF.out.free 0
    have f1 := BGF.out.free 1
    have f2 := BGF.out.free 2
    clear x9
    go_wp2
    generalize (((w9.setCell ⟨w.heap.size + 2, 0, none⟩ (.slice b1 m1 d1)).setCell ⟨w.heap.size + 2, 1, none⟩ (.slice b2 m2 d2)).setCell ⟨w.heap.size + 2, 2, none⟩ (.slice b3 m3 d3)) = W9 at *
    have e0 := G1.out.cell 0 _ rfl
    have e1 := G1.out.cell 1 _ rfl
    have e2 := G1.out.cell 2 _ rfl
    (try simp only [Exit.inBlock, Exit.then])
    refine bodyPost_ret (v := .tuple #[.agg #[.slice b1 m1 d1, .slice b2 m2 d2, .slice b3 m3 d3], v9]) (by simp [results, Tryd.results7, go_sem, e0, e1, e2]) rfl ?_
    exact ⟨_, _, _, _, _, _, _, _, _, _, rfl, HF.out, BF.out⟩
  have e1 : (kd == 1) = false := by simp [hk1]
  by_cases hk2 : kd = 2
  · have e2 : (kd == 2) = true := by simp [hk2]
    have u0 := UB.out.cell 0 _ rfl
    have u1 := UB.out.cell 1 _ rfl
    have u2 := UB.out.cell 2 _ rfl
    have k1 := MB.out.cell 1 _ rfl
    have k3 := MB.out.cell 3 _ rfl
    go_wp2_with fail
    refine Calls.mono (wakeE_any HE1.out a1 l.length n1 l HQ.out.1 a2 r.length n2 r HQ.out.2.1 a3 t.length n3 t HQ.out.2.2 (by have := HS8.out; omega) (by have := HS8.out; omega) (by have := HS8.out; omega) p _) ?_
    rintro e w9 ⟨b1, m1, d1, b2, m2, d2, b3, m3, d3, v9, rfl, hb9, ht9, x9⟩
    have HMV : Hid (Mvd E w9 W1.heap.size (.slice b1 m1 d1) (.slice b2 m2 d2) (.slice b3 m3 d3) v9) := mvd_of hb9 ht9 (fun hg hk => by obtain ⟨k, q, rfl, hq, hs⟩ := okP_at hk; rw [setAt_of hq]; exact good_wake hg hq (by simpa using hs) _)
    clear hb9 ht9 u0 u1 u2 k1 k3
    have BGF := hide (RB.out.below RZ.out x9)
    have G1 := hide (bl_three BGF.out (.slice b1 m1 d1) (.slice b2 m2 d2) (.slice b3 m3 d3))
    have BF := hide (below3 (g := w.heap.size + 2) (.slice b1 m1 d1) (.slice b2 m2 d2) (.slice b3 m3 d3) (chain B1.out x9) (by omega))
    have HF := hide ((HMV.out.three (g := w.heap.size + 2) RZ.out (.slice b1 m1 d1) (.slice b2 m2 d2) (.slice b3 m3 d3)).weaken B1.out.size)
    have g0 := BGF.out.cell 0 _ rfl
    have g1 := BGF.out.cell 1 _ rfl
    have g2 := BGF.out.cell 2 _ rfl
    have f0 := BGF.out.free 0
    have f1 := BGF.out.free 1
    have f2 := BGF.out.free 2
    clear x9
    go_wp2
    generalize (((w9.setCell ⟨w.heap.size + 2, 0, none⟩ (.slice b1 m1 d1)).setCell ⟨w.heap.size + 2, 1, none⟩ (.slice b2 m2 d2)).setCell ⟨w.heap.size + 2, 2, none⟩ (.slice b3 m3 d3)) = W9 at *
    have e0 := G1.out.cell 0 _ rfl
    have e1 := G1.out.cell 1 _ rfl
    have e2 := G1.out.cell 2 _ rfl
    (try simp only [Exit.inBlock, Exit.then])
    refine bodyPost_ret (v := .tuple #[.agg #[.slice b1 m1 d1, .slice b2 m2 d2, .slice b3 m3 d3], v9]) (by simp [results, Tryd.results7, go_sem, e0, e1, e2]) rfl ?_
    exact ⟨_, _, _, _, _, _, _, _, _, _, rfl, HF.out, BF.out⟩
  have e2 : (kd == 2) = false := by simp [hk2]
  by_cases hk3 : kd = 3
  · have e3 : (kd == 3) = true := by simp [hk3]
    have u0 := UB.out.cell 0 _ rfl
    have u1 := UB.out.cell 1 _ rfl
    have u2 := UB.out.cell 2 _ rfl
    have k1 := MB.out.cell 1 _ rfl
    have k5 := MB.out.cell 5 _ rfl
    go_wp2_with fail
    refine Calls.mono (halt_any HE1.out a1 l.length n1 l HQ.out.1 a2 r.length n2 r HQ.out.2.1 a3 t.length n3 t HQ.out.2.2 (by have := HS8.out; omega) (by have := HS8.out; omega) (by have := HS8.out; omega) p st) ?_
    rintro e w9 ⟨b1, m1, d1, b2, m2, d2, b3, m3, d3, v9, rfl, hb9, ht9, x9⟩
    have HMV : Hid (Mvd E w9 W1.heap.size (.slice b1 m1 d1) (.slice b2 m2 d2) (.slice b3 m3 d3) v9) := mvd_of hb9 ht9 (fun hg hk => by obtain ⟨k, q, rfl, hq, hs⟩ := okP_at hk.1; rw [setAt_of hq]; exact good_halt hg hq (by simpa using hs) hk.2)
    clear hb9 ht9 u0 u1 u2 k1 k5
    have BGF := hide (RB.out.below RZ.out x9)
    have G1 := hide (bl_three BGF.out (.slice b1 m1 d1) (.slice b2 m2 d2) (.slice b3 m3 d3))
    have BF := hide (below3 (g := w.heap.size + 2) (.slice b1 m1 d1) (.slice b2 m2 d2) (.slice b3 m3 d3) (chain B1.out x9) (by omega))
    have HF := hide ((HMV.out.three (g := w.heap.size + 2) RZ.out (.slice b1 m1 d1) (.slice b2 m2 d2) (.slice b3 m3 d3)).weaken B1.out.size)
    have g0 := BGF.out.cell 0 _ rfl
    have g1 := BGF.out.cell 1 _ rfl
    have g2 := BGF.out.cell 2 _ rfl
    have f0 := BGF.out.free 0
    have f1 := BGF.out.free 1
    have f2 := BGF.out.free 2
    clear x9
    go_wp2
    generalize (((w9.setCell ⟨w.heap.size + 2, 0, none⟩ (.slice b1 m1 d1)).setCell ⟨w.heap.size + 2, 1, none⟩ (.slice b2 m2 d2)).setCell ⟨w.heap.size + 2, 2, none⟩ (.slice b3 m3 d3)) = W9 at *
    have e0 := G1.out.cell 0 _ rfl
    have e1 := G1.out.cell 1 _ rfl
    have e2 := G1.out.cell 2 _ rfl
    (try simp only [Exit.inBlock, Exit.then])
    refine bodyPost_ret (v := .tuple #[.agg #[.slice b1 m1 d1, .slice b2 m2 d2, .slice b3 m3 d3], v9]) (by simp [results, Tryd.results7, go_sem, e0, e1, e2]) rfl ?_
    exact ⟨_, _, _, _, _, _, _, _, _, _, rfl, HF.out, BF.out⟩
  have e3 : (kd == 3) = false := by simp [hk3]
  by_cases hk4 : kd = 4
  · have e4 : (kd == 4) = true := by simp [hk4]
    have u0 := UB.out.cell 0 _ rfl
    have u1 := UB.out.cell 1 _ rfl
    have u2 := UB.out.cell 2 _ rfl
    have k1 := MB.out.cell 1 _ rfl
    have k3 := MB.out.cell 3 _ rfl
    have k6 := MB.out.cell 6 _ rfl
    go_wp2_with fail
    refine Calls.mono (start_any HE1.out a1 l.length n1 l HQ.out.1 a2 r.length n2 r HQ.out.2.1 a3 t.length n3 t HQ.out.2.2 (by have := HS8.out; omega) (by have := HS8.out; omega) (by have := HS8.out; omega) p _ pr) ?_
    rintro e w9 ⟨b1, m1, d1, b2, m2, d2, b3, m3, d3, v9, rfl, hb9, ht9, x9⟩
    have HMV : Hid (Mvd E w9 W1.heap.size (.slice b1 m1 d1) (.slice b2 m2 d2) (.slice b3 m3 d3) v9) := mvd_of hb9 ht9 (fun hg hk => by obtain ⟨k, q, rfl, hq, hs⟩ := okP_at hk.1; rw [setAt_of hq]; exact good_start hg hq (by simpa using hs) _ hk.2)
    clear hb9 ht9 u0 u1 u2 k1 k3 k6
    have BGF := hide (RB.out.below RZ.out x9)
    have G1 := hide (bl_three BGF.out (.slice b1 m1 d1) (.slice b2 m2 d2) (.slice b3 m3 d3))
    have BF := hide (below3 (g := w.heap.size + 2) (.slice b1 m1 d1) (.slice b2 m2 d2) (.slice b3 m3 d3) (chain B1.out x9) (by omega))
    have HF := hide ((HMV.out.three (g := w.heap.size + 2) RZ.out (.slice b1 m1 d1) (.slice b2 m2 d2) (.slice b3 m3 d3)).weaken B1.out.size)
    have g0 := BGF.out.cell 0 _ rfl
    have g1 := BGF.out.cell 1 _ rfl
    have g2 := BGF.out.cell 2 _ rfl
    have f0 := BGF.out.free 0
    have f1 := BGF.out.free 1
    have f2 := BGF.out.free 2
    clear x9
    go_wp2
    generalize (((w9.setCell ⟨w.heap.size + 2, 0, none⟩ (.slice b1 m1 d1)).setCell ⟨w.heap.size + 2, 1, none⟩ (.slice b2 m2 d2)).setCell ⟨w.heap.size + 2, 2, none⟩ (.slice b3 m3 d3)) = W9 at *
    have e0 := G1.out.cell 0 _ rfl
    have e1 := G1.out.cell 1 _ rfl
    have e2 := G1.out.cell 2 _ rfl
    (try simp only [Exit.inBlock, Exit.then])
    refine bodyPost_ret (v := .tuple #[.agg #[.slice b1 m1 d1, .slice b2 m2 d2, .slice b3 m3 d3], v9]) (by simp [results, Tryd.results7, go_sem, e0, e1, e2]) rfl ?_
    exact ⟨_, _, _, _, _, _, _, _, _, _, rfl, HF.out, BF.out⟩
  have e4 : (kd == 4) = false := by simp [hk4]
  by_cases hk5 : kd = 5
  · have e5 : (kd == 5) = true := by simp [hk5]
    have u0 := UB.out.cell 0 _ rfl
    have u1 := UB.out.cell 1 _ rfl
    have u2 := UB.out.cell 2 _ rfl
    have k1 := MB.out.cell 1 _ rfl
    have k6 := MB.out.cell 6 _ rfl
    go_wp2_with fail
    refine Calls.mono (rank_any HE1.out a1 l.length n1 l HQ.out.1 a2 r.length n2 r HQ.out.2.1 a3 t.length n3 t HQ.out.2.2 (by have := HS8.out; omega) (by have := HS8.out; omega) (by have := HS8.out; omega) p pr) ?_
    rintro e w9 ⟨b1, m1, d1, b2, m2, d2, b3, m3, d3, v9, rfl, hb9, ht9, x9⟩
    have HMV : Hid (Mvd E w9 W1.heap.size (.slice b1 m1 d1) (.slice b2 m2 d2) (.slice b3 m3 d3) v9) := mvd_of hb9 ht9 (fun hg hk => by obtain ⟨k, q, rfl, hq, hs⟩ := okP_at hk.1; rw [setAt_of hq]; exact good_rank hg hq hk.2)
    clear hb9 ht9 u0 u1 u2 k1 k6
    have BGF := hide (RB.out.below RZ.out x9)
    have G1 := hide (bl_three BGF.out (.slice b1 m1 d1) (.slice b2 m2 d2) (.slice b3 m3 d3))
    have BF := hide (below3 (g := w.heap.size + 2) (.slice b1 m1 d1) (.slice b2 m2 d2) (.slice b3 m3 d3) (chain B1.out x9) (by omega))
    have HF := hide ((HMV.out.three (g := w.heap.size + 2) RZ.out (.slice b1 m1 d1) (.slice b2 m2 d2) (.slice b3 m3 d3)).weaken B1.out.size)
    have g0 := BGF.out.cell 0 _ rfl
    have g1 := BGF.out.cell 1 _ rfl
    have g2 := BGF.out.cell 2 _ rfl
    have f0 := BGF.out.free 0
    have f1 := BGF.out.free 1
    have f2 := BGF.out.free 2
    clear x9
    go_wp2
    generalize (((w9.setCell ⟨w.heap.size + 2, 0, none⟩ (.slice b1 m1 d1)).setCell ⟨w.heap.size + 2, 1, none⟩ (.slice b2 m2 d2)).setCell ⟨w.heap.size + 2, 2, none⟩ (.slice b3 m3 d3)) = W9 at *
    have e0 := G1.out.cell 0 _ rfl
    have e1 := G1.out.cell 1 _ rfl
    have e2 := G1.out.cell 2 _ rfl
    (try simp only [Exit.inBlock, Exit.then])
    refine bodyPost_ret (v := .tuple #[.agg #[.slice b1 m1 d1, .slice b2 m2 d2, .slice b3 m3 d3], v9]) (by simp [results, Tryd.results7, go_sem, e0, e1, e2]) rfl ?_
    exact ⟨_, _, _, _, _, _, _, _, _, _, rfl, HF.out, BF.out⟩
  have e5 : (kd == 5) = false := by simp [hk5]
  have u0 := UB.out.cell 0 _ rfl
  have u1 := UB.out.cell 1 _ rfl
  have u2 := UB.out.cell 2 _ rfl
  have k4 := MB.out.cell 4 _ rfl
  go_wp2_with fail
  refine Calls.mono (fire_any HE1.out a1 l.length n1 l HQ.out.1 a2 r.length n2 r HQ.out.2.1 a3 t.length n3 t HQ.out.2.2 (by have := HS8.out; omega) (by have := HS8.out; omega) (by have := HS8.out; omega) du) ?_
  rintro e w8 ⟨b1, m1, d1, b2, m2, d2, b3, m3, d3, xv, v9, rfl, hb9, ht9, hx9, x8⟩
  have X9 := new_below w8 (.cells #[.slice b1 m1 d1, .slice b2 m2 d2, .slice b3 m3 d3] 28)
  have x9 := chain x8 X9
  have HMV : Hid (Mvd E (w8.alloc (.cells #[.slice b1 m1 d1, .slice b2 m2 d2, .slice b3 m3 d3] 28)) W1.heap.size (.slice b1 m1 d1) (.slice b2 m2 d2) (.slice b3 m3 d3) v9) := by
    rw [show ownE (Good l r t) = 0 from if_pos HGD.out] at hb9
    rw [show ownT (Good l r t) (fireAll l r (firedI t du)).1 = (fireAll l r (firedI t du)).1 from if_pos HGD.out, show ownT (Good l r t) (fireAll l r (firedI t du)).2 = (fireAll l r (firedI t du)).2 from if_pos HGD.out, show ownT (Good l r t) (left t du) = left t du from if_pos HGD.out] at ht9
    exact .inr ⟨bare0 hb9, _, _, _, good_fire HGD.out, ht9.below X9⟩
  have NB := hide (bl_alloc w8 #[.slice b1 m1 d1, .slice b2 m2 d2, .slice b3 m3 d3] 28)
  clear hb9 ht9 hx9 x8 X9 u0 u1 u2 k4
  go_upto_region 16 with fail
  generalize w8.alloc (.cells #[.slice b1 m1 d1, .slice b2 m2 d2, .slice b3 m3 d3] 28) = w9 at *
  have n0 := NB.out.cell 0 _ rfl
  have n1' := NB.out.cell 1 _ rfl
  have n2' := NB.out.cell 2 _ rfl
  have BGF := hide (RB.out.below RZ.out x9)
  have G1 := hide (bl_three BGF.out (.slice b1 m1 d1) (.slice b2 m2 d2) (.slice b3 m3 d3))
  have BF := hide (below3 (g := w.heap.size + 2) (.slice b1 m1 d1) (.slice b2 m2 d2) (.slice b3 m3 d3) (chain B1.out x9) (by omega))
  have HF := hide ((HMV.out.three (g := w.heap.size + 2) RZ.out (.slice b1 m1 d1) (.slice b2 m2 d2) (.slice b3 m3 d3)).weaken B1.out.size)
  have g0 := BGF.out.cell 0 _ rfl
  have g1 := BGF.out.cell 1 _ rfl
  have g2 := BGF.out.cell 2 _ rfl
  have f0 := BGF.out.free 0
  have f1 := BGF.out.free 1
  have f2 := BGF.out.free 2
  clear x9
  go_wp2
  generalize (((w9.setCell ⟨w.heap.size + 2, 0, none⟩ (.slice b1 m1 d1)).setCell ⟨w.heap.size + 2, 1, none⟩ (.slice b2 m2 d2)).setCell ⟨w.heap.size + 2, 2, none⟩ (.slice b3 m3 d3)) = W9 at *
  have e0 := G1.out.cell 0 _ rfl
  have e1 := G1.out.cell 1 _ rfl
  have e2 := G1.out.cell 2 _ rfl
  (try simp only [Exit.inBlock, Exit.then])
  refine bodyPost_ret (v := .tuple #[.agg #[.slice b1 m1 d1, .slice b2 m2 d2, .slice b3 m3 d3], v9]) (by simp [results, Tryd.results7, go_sem, e0, e1, e2]) rfl ?_
  exact ⟨_, _, _, _, _, _, _, _, _, _, rfl, HF.out, BF.out⟩
end Go.Proofs.YtnjabidelpafgaaDoor
