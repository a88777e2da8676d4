/-
  Walk of the law ValidEquals.
-/
import Derived.Test.YtkjbcnlhallcdaaVsSome
import Derived.Deep.Cut
namespace Go.Proofs.Ytkjbcnlhallcdaa.validEquals
open Go.RowKit FerryCrc
set_option linter.unusedVariables false
set_option linter.unusedSimpArgs false

theorem same_sym (s t : Sk) : eqb Classical.propDecidable (t.same s) = eqb Classical.propDecidable (s.same t) := eqb_congr ⟨fun ⟨a, ⟨b1, b2, b3, b4, b5, b6, b7, b8⟩, c⟩ => ⟨a.symm, ⟨b1.symm, b2.symm, b3.symm, b4.symm, b5.symm, b6.symm, b7.symm, b8.symm⟩, c.symm⟩, fun ⟨a, ⟨b1, b2, b3, b4, b5, b6, b7, b8⟩, c⟩ => ⟨a.symm, ⟨b1.symm, b2.symm, b3.symm, b4.symm, b5.symm, b6.symm, b7.symm, b8.symm⟩, c.symm⟩⟩
theorem alike_sym (s t : Sk) : eqb Classical.propDecidable (t.alike s) = eqb Classical.propDecidable (s.alike t) := eqb_congr ⟨fun ⟨⟨b1, b2, b3, b4, b5, b6, b7, b8⟩, c⟩ => ⟨⟨b1.symm, b2.symm, b3.symm, b4.symm, b5.symm, b6.symm, b7.symm, b8.symm⟩, c.symm⟩, fun ⟨⟨b1, b2, b3, b4, b5, b6, b7, b8⟩, c⟩ => ⟨⟨b1.symm, b2.symm, b3.symm, b4.symm, b5.symm, b6.symm, b7.symm, b8.symm⟩, c.symm⟩⟩
theorem same_self (s : Sk) : s.same s := ⟨rfl, ⟨rfl, rfl, rfl, rfl, rfl, rfl, rfl, rfl⟩, rfl⟩
theorem alike_self (s : Sk) : s.alike s := ⟨⟨rfl, rfl, rfl, rfl, rfl, rfl, rfl, rfl⟩, rfl⟩
theorem same_alike {s t : Sk} (h : s.same t) : s.alike t := ⟨h.2.1, by rw [h.2.2]⟩
theorem same_left {s t : Sk} (h : s.same t) (u : Sk) : eqb Classical.propDecidable (t.same u) = eqb Classical.propDecidable (s.same u) := by
  obtain ⟨a, ⟨b1, b2, b3, b4, b5, b6, b7, b8⟩, c⟩ := h
  refine eqb_congr ?_
  unfold Sk.same Sk.but
  rw [a, b1, b2, b3, b4, b5, b6, b7, b8, c]
theorem alike_left {s t : Sk} (h : s.alike t) (u : Sk) : eqb Classical.propDecidable (t.alike u) = eqb Classical.propDecidable (s.alike u) := by
  obtain ⟨⟨b1, b2, b3, b4, b5, b6, b7, b8⟩, c⟩ := h
  refine eqb_congr ?_
  unfold Sk.alike Sk.but
  rw [b1, b2, b3, b4, b5, b6, b7, b8, c]
theorem Sr.epoch {w : World} {cs : List Value} {s : Sk} (h : Sr w cs s) (e : Int) : Sr w (cs.set 2 (.int .i64 e)) { s with epoch := e } := by
  obtain ⟨a3, n3, c3, r3, a4, n4, c4, r4, a5, n5, c5, r5, a6, n6, c6, r6, a7, n7, c7, r7, a8, n8, c8, r8, a9, n9, c9, r9, rfl, h⟩ := h
  exact ⟨a3, n3, c3, r3, a4, n4, c4, r4, a5, n5, c5, r5, a6, n6, c6, r6, a7, n7, c7, r7, a8, n8, c8, r8, a9, n9, c9, r9, rfl, h⟩
theorem Sr.frame {w : World} {cs : List Value} {s : Sk} (h : Sr w cs s) (e : Int) : Sr w (cs.set 1 (.int .i64 e)) { s with frame := e } := by
  obtain ⟨a3, n3, c3, r3, a4, n4, c4, r4, a5, n5, c5, r5, a6, n6, c6, r6, a7, n7, c7, r7, a8, n8, c8, r8, a9, n9, c9, r9, rfl, h⟩ := h
  exact ⟨a3, n3, c3, r3, a4, n4, c4, r4, a5, n5, c5, r5, a6, n6, c6, r6, a7, n7, c7, r7, a8, n8, c8, r8, a9, n9, c9, r9, rfl, h⟩
theorem bl_range {w : World} {g : Nat} {cs : List Value} (h : Bl w g cs) : w.rangeAt g 0 cs := fun j v hv => by rw [Nat.zero_add]; exact h.cell j v hv
theorem ten_of {l : List Value} (h : l.length = 10) : ∃ q0 q1 q2 q3 q4 q5 q6 q7 q8 q9, l = [q0, q1, q2, q3, q4, q5, q6, q7, q8, q9] := by
  match l, h with
  | [q0, q1, q2, q3, q4, q5, q6, q7, q8, q9], _ => exact ⟨q0, q1, q2, q3, q4, q5, q6, q7, q8, q9, rfl⟩
theorem sr_cell2 {w : World} {cs : List Value} {s : Sk} (h : Sr w cs s) : cs[2]? = some (.int .i64 s.epoch) := by
  obtain ⟨a3, n3, c3, r3, a4, n4, c4, r4, a5, n5, c5, r5, a6, n6, c6, r6, a7, n7, c7, r7, a8, n8, c8, r8, a9, n9, c9, r9, rfl, h⟩ := h
  rfl
theorem sr_cell1 {w : World} {cs : List Value} {s : Sk} (h : Sr w cs s) : cs[1]? = some (.int .i64 s.frame) := by
  obtain ⟨a3, n3, c3, r3, a4, n4, c4, r4, a5, n5, c5, r5, a6, n6, c6, r6, a7, n7, c7, r7, a8, n8, c8, r8, a9, n9, c9, r9, rfl, h⟩ := h
  rfl
theorem ne_next (e : Int) : wrap64 (e + 1) ≠ e := by
  intro h
  unfold wrap64 at h
  omega

set_option maxRecDepth 100000 in
set_option maxHeartbeats 4000000 in
theorem law (w : World) (ca cb cc : List Value) (sa sb sc : Sk) (ha : Sr w ca sa) (hb : Sr w cb sb) (hc : Sr w cc sc) :
    Calls Try.prog 4 #[.agg ca.toArray, .agg cb.toArray, .agg cc.toArray] w fun e w' => e = .returned (.bool true) ∧ Below w.heap.size w w' := by
  have HA := hide ha
  have HB := hide hb
  have HC := hide hc
  obtain ⟨x, hx⟩ : ∃ x, eqb Classical.propDecidable (sa.same sb) = x := ⟨_, rfl⟩
  obtain ⟨y, hy⟩ : ∃ y, eqb Classical.propDecidable (sa.alike sb) = y := ⟨_, rfl⟩
  have HX := hide hx
  have HY := hide hy
  have CSaa : Hid (∀ W, Below w.heap.size w W → Calls Try.prog 7 #[.agg ca.toArray, .agg ca.toArray] W fun e w' => e = .returned (.bool true) ∧ Below W.heap.size W w') := fun W hb => by
    have := same_any sa sa ca ca W (HA.out.below hb).sv (HA.out.below hb).sv
    rw [eqb_yes (same_self sa)] at this
    exact this
  have CAaa : Hid (∀ W, Below w.heap.size w W → Calls Try.prog 8 #[.agg ca.toArray, .agg ca.toArray] W fun e w' => e = .returned (.bool true) ∧ Below W.heap.size W w') := fun W hb => by
    have := alike_any sa sa ca ca W (HA.out.below hb).sv (HA.out.below hb).sv
    rw [eqb_yes (alike_self sa)] at this
    exact this
  have CSab : Hid (∀ W, Below w.heap.size w W → Calls Try.prog 7 #[.agg ca.toArray, .agg cb.toArray] W fun e w' => e = .returned (.bool x) ∧ Below W.heap.size W w') := fun W hb => by
    have := same_any sa sb ca cb W (HA.out.below hb).sv (HB.out.below hb).sv
    rw [HX.out] at this
    exact this
  have CSba : Hid (∀ W, Below w.heap.size w W → Calls Try.prog 7 #[.agg cb.toArray, .agg ca.toArray] W fun e w' => e = .returned (.bool x) ∧ Below W.heap.size W w') := fun W hb => by
    have := same_any sb sa cb ca W (HB.out.below hb).sv (HA.out.below hb).sv
    rw [same_sym sa sb, HX.out] at this
    exact this
  have CAab : Hid (∀ W, Below w.heap.size w W → Calls Try.prog 8 #[.agg ca.toArray, .agg cb.toArray] W fun e w' => e = .returned (.bool y) ∧ Below W.heap.size W w') := fun W hb => by
    have := alike_any sa sb ca cb W (HA.out.below hb).sv (HB.out.below hb).sv
    rw [HY.out] at this
    exact this
  have CAba : Hid (∀ W, Below w.heap.size w W → Calls Try.prog 8 #[.agg cb.toArray, .agg ca.toArray] W fun e w' => e = .returned (.bool y) ∧ Below W.heap.size W w') := fun W hb => by
    have := alike_any sb sa cb ca W (HB.out.below hb).sv (HA.out.below hb).sv
    rw [alike_sym sa sb, HY.out] at this
    exact this
  have HUS : Hid (Try.prog.underlying 29 = some _) := Try.underlying29
  have HIA : Hid ((Try.prog.info? 29).map (·.size) = some ca.length) := by unfold Hid; rw [state_cells ha]; exact infoState
  have HIB : Hid ((Try.prog.info? 29).map (·.size) = some cb.length) := by unfold Hid; rw [state_cells hb]; exact infoState
  have HIC : Hid ((Try.prog.info? 29).map (·.size) = some cc.length) := by unfold Hid; rw [state_cells hc]; exact infoState
  have n1 := rangeNew w ca 29
  have n2 := rangeNew (w.alloc (.cells ca.toArray 29)) cb 29
  have n3 := rangeNew ((w.alloc (.cells ca.toArray 29)).alloc (.cells cb.toArray 29)) cc 29
  have o1 := one_below w (.cells ca.toArray 29)
  have o2 := one_below (w.alloc (.cells ca.toArray 29)) (.cells cb.toArray 29)
  have o3 := one_below ((w.alloc (.cells ca.toArray 29)).alloc (.cells cb.toArray 29)) (.cells cc.toArray 29)
  have n1' := vrange_below (vrange_below n1 o2) o3
  have n2' := vrange_below n2 o3
  rw [show (w.alloc (.cells ca.toArray 29)).heap.size = w.heap.size + 1 by simp] at n2'
  rw [show ((w.alloc (.cells ca.toArray 29)).alloc (.cells cb.toArray 29)).heap.size = w.heap.size + 1 + 1 by simp] at n3
  have MA := hide n1'
  have MB := hide n2'
  have MC := hide n3
  have B0 := hide (chain (chain o1 o2) o3)
  clear hx hy ha hb hc n1 n2 n3 n1' n2' o1 o2 o3
  go_enter Try.func4, Try.ntmps4
  go_upto_region 1 with fail
  generalize ((w.alloc (.cells ca.toArray 29)).alloc (.cells cb.toArray 29)).alloc (.cells cc.toArray 29) = W0 at *
  refine wp_region_list ?_
  refine wpList_tail (pre := [{ dst := some 11, op := Go.Op.call { callee := Go.Callee.value (Go.Operand.func 5), args := #[], argTypes := #[] }, type := 35, pos := "law.go:143", after := #[], guard := none }, { dst := some 10, op := Go.Op.move (Go.Operand.tmp 11), type := 35, pos := "law.go:143", after := #[{ on := 0, ground := Go.Ground.data }], guard := none }, { dst := some 12, op := Go.Op.extract (Go.Operand.tmp 10) 0, type := 34, pos := "law.go:143", after := #[{ on := 1, ground := Go.Ground.data }], guard := none }, { dst := some 13, op := Go.Op.extract (Go.Operand.tmp 10) 1, type := 29, pos := "law.go:143", after := #[{ on := 1, ground := Go.Ground.data }, { on := 6, ground := Go.Ground.gcOnly Go.Departure.lateStores }], guard := none }, { dst := some 7, op := Go.Op.alloc 34, type := 0, pos := "law.go:143", after := #[], guard := none }, { dst := some 8, op := Go.Op.alloc 29, type := 0, pos := "law.go:143", after := #[], guard := none }]) _ ?_
  intro tl htl
  have HTL := hide htl
  clear htl
  simp only [List.cons_append, List.nil_append]
  go_wp2_with fail
  refine Calls.mono (some_any W0) ?_
  rintro e w1 ⟨x2, x3, x4, x6, cz, sz, rfl, hz, b1⟩
  have HZ := hide hz
  have HIZ : Hid ((Try.prog.info? 29).map (·.size) = some cz.length) := by unfold Hid; rw [state_cells hz]; exact infoState
  have B1a := hide (chain B0.out b1)
  have KA := hide (vrange_below MA.out b1)
  have KB := hide (vrange_below MB.out b1)
  have KC := hide (vrange_below MC.out b1)
  clear b1 hz MA MB MC B0
  obtain ⟨z3, m3, k3, _, z4, m4, k4, _, z5, m5, k5, _, z6, m6, k6, _, z7, m7, k7, _, z8, m8, k8, _, z9, m9, k9, _, hq, _⟩ := HZ.out
  subst hq
  have NP := bl_alloc w1 #[.int .i64 0, .bool false, .slice none 0 0, .slice none 0 0, .slice none 0 0, .int .i64 0, .slice none 0 0] 34
  have P1 := one_below w1 (.cells #[.int .i64 0, .bool false, .slice none 0 0, .slice none 0 0, .slice none 0 0, .int .i64 0, .slice none 0 0] 34)
  have P2 := one_below (w1.alloc (.cells #[.int .i64 0, .bool false, .slice none 0 0, .slice none 0 0, .slice none 0 0, .int .i64 0, .slice none 0 0] 34)) (.cells #[.int .i64 0, .int .i64 0, .int .i64 0, .slice none 0 0, .slice none 0 0, .slice none 0 0, .slice none 0 0, .slice none 0 0, .slice none 0 0, .slice none 0 0] 29)
  have NS := bl_alloc (w1.alloc (.cells #[.int .i64 0, .bool false, .slice none 0 0, .slice none 0 0, .slice none 0 0, .int .i64 0, .slice none 0 0] 34)) #[.int .i64 0, .int .i64 0, .int .i64 0, .slice none 0 0, .slice none 0 0, .slice none 0 0, .slice none 0 0, .slice none 0 0, .slice none 0 0, .slice none 0 0] 29
  rw [show (w1.alloc (.cells #[.int .i64 0, .bool false, .slice none 0 0, .slice none 0 0, .slice none 0 0, .int .i64 0, .slice none 0 0] 34)).heap.size = w1.heap.size + 1 by simp] at NS
  have NP2 := hide (NP.below (by simp) P2)
  have NS2 := hide NS
  have PB := hide (chain P1 P2)
  clear NP P1 P2 NS
  go_wp2_with fail
  have htl := HTL.out
  clear HTL
  subst htl
  generalize ((w1.alloc (.cells #[.int .i64 0, .bool false, .slice none 0 0, .slice none 0 0, .slice none 0 0, .int .i64 0, .slice none 0 0] 34)).alloc (.cells #[.int .i64 0, .int .i64 0, .int .i64 0, .slice none 0 0, .slice none 0 0, .slice none 0 0, .slice none 0 0, .slice none 0 0, .slice none 0 0, .slice none 0 0] 29)) = W2 at *
  have g0 := NP2.out.cell 0 _ rfl
  have f0 := NP2.out.free 0
  have g1 := NP2.out.cell 1 _ rfl
  have f1 := NP2.out.free 1
  have g2 := NP2.out.cell 2 _ rfl
  have f2 := NP2.out.free 2
  have g3 := NP2.out.cell 3 _ rfl
  have f3 := NP2.out.free 3
  have g4 := NP2.out.cell 4 _ rfl
  have f4 := NP2.out.free 4
  have g5 := NP2.out.cell 5 _ rfl
  have f5 := NP2.out.free 5
  have g6 := NP2.out.cell 6 _ rfl
  have f6 := NP2.out.free 6
  have e0 := NS2.out.cell 0 _ rfl
  have d0 := NS2.out.free 0
  have e1 := NS2.out.cell 1 _ rfl
  have d1 := NS2.out.free 1
  have e2 := NS2.out.cell 2 _ rfl
  have d2 := NS2.out.free 2
  have e3 := NS2.out.cell 3 _ rfl
  have d3 := NS2.out.free 3
  have e4 := NS2.out.cell 4 _ rfl
  have d4 := NS2.out.free 4
  have e5 := NS2.out.cell 5 _ rfl
  have d5 := NS2.out.free 5
  have e6 := NS2.out.cell 6 _ rfl
  have d6 := NS2.out.free 6
  have e7 := NS2.out.cell 7 _ rfl
  have d7 := NS2.out.free 7
  have e8 := NS2.out.cell 8 _ rfl
  have d8 := NS2.out.free 8
  have e9 := NS2.out.cell 9 _ rfl
  have d9 := NS2.out.free 9
  go_upto_region 2 with fail
  clear g0 f0 g1 f1 g2 f2 g3 f3 g4 f4 g5 f5 g6 f6 e0 d0 e1 d1 e2 d2 e3 d3 e4 d4 e5 d5 e6 d6 e7 d7 e8 d8 e9 d9
  obtain ⟨t1, t2, t3, t4⟩ := seven_sets (w0 := w1) (B := w1.heap.size) PB.out (Nat.le_refl _) NP2.out rfl (.int .i64 7) (.bool false) (.slice x2 1 1) (.slice x3 2 2) (.slice x4 1 1) (.int .i64 2) (.slice x6 1 1)
  obtain ⟨u1, u2, u3, u4⟩ := ten_sets (w0 := w1) (B := w1.heap.size) t1 (by omega) (bl_same NS2.out (t3 _ (by omega))) rfl (.int .i64 sz.id) (.int .i64 sz.frame) (.int .i64 sz.epoch) (.slice z3 m3 k3) (.slice z4 m4 k4) (.slice z5 m5 k5) (.slice z6 m6 k6) (.slice z7 m7 k7) (.slice z8 m8 k8) (.slice z9 m9 k9)
  have NA := hide (vrange_below KA.out u1)
  have NB := hide (vrange_below KB.out u1)
  have NC := hide (vrange_below KC.out u1)
  have B1 := hide (chain B1a.out u1)
  have SZ := hide (HZ.out.below u1)
  have NZ : Hid (World.rangeAt (((((((((((((((((W2.setCell ⟨w1.heap.size, 0, none⟩ (.int .i64 7)).setCell ⟨w1.heap.size, 1, none⟩ (.bool false)).setCell ⟨w1.heap.size, 2, none⟩ (.slice x2 1 1)).setCell ⟨w1.heap.size, 3, none⟩ (.slice x3 2 2)).setCell ⟨w1.heap.size, 4, none⟩ (.slice x4 1 1)).setCell ⟨w1.heap.size, 5, none⟩ (.int .i64 2)).setCell ⟨w1.heap.size, 6, none⟩ (.slice x6 1 1)).setCell ⟨w1.heap.size + 1, 0, none⟩ (.int .i64 sz.id)).setCell ⟨w1.heap.size + 1, 1, none⟩ (.int .i64 sz.frame)).setCell ⟨w1.heap.size + 1, 2, none⟩ (.int .i64 sz.epoch)).setCell ⟨w1.heap.size + 1, 3, none⟩ (.slice z3 m3 k3)).setCell ⟨w1.heap.size + 1, 4, none⟩ (.slice z4 m4 k4)).setCell ⟨w1.heap.size + 1, 5, none⟩ (.slice z5 m5 k5)).setCell ⟨w1.heap.size + 1, 6, none⟩ (.slice z6 m6 k6)).setCell ⟨w1.heap.size + 1, 7, none⟩ (.slice z7 m7 k7)).setCell ⟨w1.heap.size + 1, 8, none⟩ (.slice z8 m8 k8)).setCell ⟨w1.heap.size + 1, 9, none⟩ (.slice z9 m9 k9)) (w1.heap.size + 1) 0 [.int .i64 sz.id, .int .i64 sz.frame, .int .i64 sz.epoch, .slice z3 m3 k3, .slice z4 m4 k4, .slice z5 m5 k5, .slice z6 m6 k6, .slice z7 m7 k7, .slice z8 m8 k8, .slice z9 m9 k9]) := bl_range u2
  clear t1 t2 t3 t4 u1 u2 u3 u4 KA KB KC B1a NP2 NS2 PB HZ
  generalize (((((((((((((((((W2.setCell ⟨w1.heap.size, 0, none⟩ (.int .i64 7)).setCell ⟨w1.heap.size, 1, none⟩ (.bool false)).setCell ⟨w1.heap.size, 2, none⟩ (.slice x2 1 1)).setCell ⟨w1.heap.size, 3, none⟩ (.slice x3 2 2)).setCell ⟨w1.heap.size, 4, none⟩ (.slice x4 1 1)).setCell ⟨w1.heap.size, 5, none⟩ (.int .i64 2)).setCell ⟨w1.heap.size, 6, none⟩ (.slice x6 1 1)).setCell ⟨w1.heap.size + 1, 0, none⟩ (.int .i64 sz.id)).setCell ⟨w1.heap.size + 1, 1, none⟩ (.int .i64 sz.frame)).setCell ⟨w1.heap.size + 1, 2, none⟩ (.int .i64 sz.epoch)).setCell ⟨w1.heap.size + 1, 3, none⟩ (.slice z3 m3 k3)).setCell ⟨w1.heap.size + 1, 4, none⟩ (.slice z4 m4 k4)).setCell ⟨w1.heap.size + 1, 5, none⟩ (.slice z5 m5 k5)).setCell ⟨w1.heap.size + 1, 6, none⟩ (.slice z6 m6 k6)).setCell ⟨w1.heap.size + 1, 7, none⟩ (.slice z7 m7 k7)).setCell ⟨w1.heap.size + 1, 8, none⟩ (.slice z8 m8 k8)).setCell ⟨w1.heap.size + 1, 9, none⟩ (.slice z9 m9 k9)) = W1 at *
  generalize hcz : ([.int .i64 sz.id, .int .i64 sz.frame, .int .i64 sz.epoch, .slice z3 m3 k3, .slice z4 m4 k4, .slice z5 m5 k5, .slice z6 m6 k6, .slice z7 m7 k7, .slice z8 m8 k8, .slice z9 m9 k9] : List Value) = cz at *
  clear hcz
  have CZ : Hid (Calls Try.prog 7 #[.agg cz.toArray, .agg cz.toArray] W1 fun e w' => e = .returned (.bool true) ∧ Below W1.heap.size W1 w') := by
    have := same_any sz sz cz cz W1 SZ.out.sv SZ.out.sv
    rw [eqb_yes (same_self sz)] at this
    exact this
  refine wp_region_list ?_
  refine wpList_load_g (op := { dst := some 14, op := Go.Op.load 29 (Go.Operand.tmp 8), type := 29, pos := "law.go:144", after := #[], guard := none }) (by rfl) 29 (.tmp 8) rfl (w1.heap.size + 1) (0) rfl cz _ NZ.out HUS.out rfl HIZ.out ?_
  simp only [Act.put, List.setIfInBounds_toArray, List.set_cons_zero, List.set_cons_succ]
  refine wpList_load_g (op := { dst := some 15, op := Go.Op.load 29 (Go.Operand.tmp 8), type := 29, pos := "law.go:144", after := #[], guard := none }) (by rfl) 29 (.tmp 8) rfl (w1.heap.size + 1) (0) rfl cz _ NZ.out HUS.out rfl HIZ.out ?_
  simp only [Act.put, List.setIfInBounds_toArray, List.set_cons_zero, List.set_cons_succ]
  go_wp2_with fail
  refine Calls.mono CZ.out ?_
  rintro e w2 ⟨rfl, b2⟩
  have B2 := hide (chain B1.out b2)
  have GG0 : Hid ((fun wz => wz.rangeAt (w.heap.size) 0 ca ∧ wz.rangeAt (w.heap.size + 1) 0 cb ∧ wz.rangeAt (w.heap.size + 1 + 1) 0 cc) w2) := ⟨vrange_below NA.out b2, vrange_below NB.out b2, vrange_below NC.out b2⟩
  clear b2 CZ NZ SZ HIZ NA NB NC B1
  go_upto_region 4 with fail
  have HHe : (fun wz => wz.rangeAt (w.heap.size) 0 ca ∧ wz.rangeAt (w.heap.size + 1) 0 cb ∧ wz.rangeAt (w.heap.size + 1 + 1) 0 cc) w2.drew := ⟨vrange_below GG0.out.1 ((Below.refl _ _).drew), vrange_below GG0.out.2.1 ((Below.refl _ _).drew), vrange_below GG0.out.2.2 ((Below.refl _ _).drew)⟩
  refine wp_region_held_drew (S := fun wz => wz.rangeAt (w.heap.size) 0 ca ∧ wz.rangeAt (w.heap.size + 1) 0 cb ∧ wz.rangeAt (w.heap.size + 1 + 1) 0 cc) (by kernel_rfl) HHe (fun hHeld => ?_)
  clear HHe
  have PD := hide B2.out.drew
  refine wpAnyH_take (i := 0) (oi := { dst := some 18, op := Go.Op.load 29 (Go.Operand.tmp 3), type := 29, pos := "law.go:147", after := #[], guard := none }) rfl (by kernel_rfl) (by kernel_rfl) (by kernel_rfl) (fun _ _ _ h => h) (yieldsIf_load_mid (by rfl) _ _ rfl _ _ rfl _ _ (fun _ h => h.1) HUS.out rfl HIA.out) (by assumption) ?_
  try simp only [Act.put, List.setIfInBounds_toArray, List.set_cons_zero, List.set_cons_succ]
  refine wpAnyH_take (i := 1) (oi := { dst := some 19, op := Go.Op.load 29 (Go.Operand.tmp 3), type := 29, pos := "law.go:147", after := #[], guard := none }) rfl (by kernel_rfl) (by kernel_rfl) (by kernel_rfl) (fun _ _ _ h => h) (yieldsIf_load_mid (by rfl) _ _ rfl _ _ rfl _ _ (fun _ h => h.1) HUS.out rfl HIA.out) (by assumption) ?_
  try simp only [Act.put, List.setIfInBounds_toArray, List.set_cons_zero, List.set_cons_succ]
  refine wpAnyH_ready (rs := [2]) (by kernel_rfl) (by simp) ?_
  refine AllReadyH.cons (o := { dst := some 20, op := Go.Op.call { callee := Go.Callee.value (Go.Operand.func 7), args := #[Go.Operand.tmp 18, Go.Operand.tmp 19], argTypes := #[29, 29] }, type := 4, pos := "law.go:147", after := #[{ on := 0, ground := Go.Ground.data }, { on := 1, ground := Go.Ground.data }], guard := none }) rfl (fun K hK => ?_) AllReadyH.nil
  go_simp
  go_at_call 7
  refine (CSaa.out _ PD.out).mono ?_
  rintro e xw1 ⟨rfl, y1⟩
  have E1 := hide (chain PD.out y1)
  have CH1 := hide (undrewV y1)
  have G1 : Hid ((fun wz => wz.rangeAt (w.heap.size) 0 ca ∧ wz.rangeAt (w.heap.size + 1) 0 cb ∧ wz.rangeAt (w.heap.size + 1 + 1) 0 cc) xw1) := ⟨vrange_below hHeld.1 y1, vrange_below hHeld.2.1 y1, vrange_below hHeld.2.2 y1⟩
  clear y1
  try go_wp2_with fail
  refine hK.out _ _ G1.out ?_
  clear hK K hHeld
  intro hHeld
  try simp only [Act.put, List.setIfInBounds_toArray, List.set_cons_zero, List.set_cons_succ]
  refine wpAnyH_take (i := 3) (oi := { dst := some 21, op := Go.Op.unOp Go.UnOp.not 4 (Go.Operand.tmp 20), type := 4, pos := "law.go:147", after := #[{ on := 2, ground := Go.Ground.data }], guard := none }) (v := ?_) rfl (by kernel_rfl) (by kernel_rfl) (by kernel_rfl) (fun _ _ _ h => h) (Or.inl ⟨by rfl, ?_⟩) (by assumption) ?_
  rotate_left
  · intro w hSw
    try dsimp only at hSw
    go_simp
    try with_reducible rfl
  try simp only [Act.put, List.setIfInBounds_toArray, List.set_cons_zero, List.set_cons_succ]
  refine wpAnyH_take (i := 4) (oi := { dst := some 22, op := Go.Op.move (Go.Operand.tmp 21), type := 4, pos := "law.go:147", after := #[{ on := 3, ground := Go.Ground.data }, { on := 2, ground := Go.Ground.chain }], guard := none }) (v := ?_) rfl (by kernel_rfl) (by kernel_rfl) (by kernel_rfl) (fun _ _ _ h => h) (Or.inl ⟨by rfl, ?_⟩) (by assumption) ?_
  rotate_left
  · intro w hSw
    try dsimp only at hSw
    go_simp
    try with_reducible rfl
  try simp only [Act.put, List.setIfInBounds_toArray, List.set_cons_zero, List.set_cons_succ]
  refine wpAnyH_take (i := 5) (oi := { dst := some 23, op := Go.Op.load 29 (Go.Operand.tmp 3), type := 29, pos := "law.go:147", after := #[{ on := 4, ground := Go.Ground.guard }], guard := some (4, false) }) rfl (by kernel_rfl) (by kernel_rfl) (by kernel_rfl) (fun _ _ _ h => h) (yieldsIf_load_mid (by rfl) _ _ rfl _ _ rfl _ _ (fun _ h => h.1) HUS.out rfl HIA.out) (by assumption) ?_
  try simp only [Act.put, List.setIfInBounds_toArray, List.set_cons_zero, List.set_cons_succ]
  refine wpAnyH_take (i := 6) (oi := { dst := some 24, op := Go.Op.load 29 (Go.Operand.tmp 3), type := 29, pos := "law.go:147", after := #[{ on := 4, ground := Go.Ground.guard }], guard := some (4, false) }) rfl (by kernel_rfl) (by kernel_rfl) (by kernel_rfl) (fun _ _ _ h => h) (yieldsIf_load_mid (by rfl) _ _ rfl _ _ rfl _ _ (fun _ h => h.1) HUS.out rfl HIA.out) (by assumption) ?_
  try simp only [Act.put, List.setIfInBounds_toArray, List.set_cons_zero, List.set_cons_succ]
  refine wpAnyH_ready (rs := [7]) (by kernel_rfl) (by simp) ?_
  refine AllReadyH.cons (o := { dst := some 25, op := Go.Op.call { callee := Go.Callee.value (Go.Operand.func 8), args := #[Go.Operand.tmp 23, Go.Operand.tmp 24], argTypes := #[29, 29] }, type := 4, pos := "law.go:147", after := #[{ on := 5, ground := Go.Ground.data }, { on := 6, ground := Go.Ground.data }, { on := 4, ground := Go.Ground.chain }, { on := 4, ground := Go.Ground.guard }], guard := some (4, false) }) rfl (fun K hK => ?_) AllReadyH.nil
  go_simp
  go_at_call 8
  refine (CAaa.out _ E1.out).mono ?_
  rintro e xw2 ⟨rfl, y2⟩
  have E2 := hide (chain E1.out y2)
  have CH2 := hide (chain CH1.out y2)
  have G2 : Hid ((fun wz => wz.rangeAt (w.heap.size) 0 ca ∧ wz.rangeAt (w.heap.size + 1) 0 cb ∧ wz.rangeAt (w.heap.size + 1 + 1) 0 cc) xw2) := ⟨vrange_below hHeld.1 y2, vrange_below hHeld.2.1 y2, vrange_below hHeld.2.2 y2⟩
  clear y2
  try go_wp2_with fail
  refine hK.out _ _ G2.out ?_
  clear hK K hHeld
  intro hHeld
  try simp only [Act.put, List.setIfInBounds_toArray, List.set_cons_zero, List.set_cons_succ]
  refine wpAnyH_take (i := 8) (oi := { dst := some 26, op := Go.Op.unOp Go.UnOp.not 4 (Go.Operand.tmp 25), type := 4, pos := "law.go:147", after := #[{ on := 7, ground := Go.Ground.data }, { on := 4, ground := Go.Ground.guard }], guard := some (4, false) }) (v := ?_) rfl (by kernel_rfl) (by kernel_rfl) (by kernel_rfl) (fun _ _ _ h => h) (Or.inl ⟨by rfl, ?_⟩) (by assumption) ?_
  rotate_left
  · intro w hSw
    try dsimp only at hSw
    go_simp
    try with_reducible rfl
  try simp only [Act.put, List.setIfInBounds_toArray, List.set_cons_zero, List.set_cons_succ]
  refine wpAnyH_take (i := 9) (oi := { dst := some 27, op := Go.Op.pick (Go.Operand.tmp 22) (Go.Operand.const (Go.Value.bool true)) (Go.Operand.tmp 26), type := 4, pos := "law.go:147", after := #[{ on := 4, ground := Go.Ground.data }, { on := 8, ground := Go.Ground.data }], guard := none }) (v := ?_) rfl (by kernel_rfl) (by kernel_rfl) (by kernel_rfl) (fun _ _ _ h => h) (Or.inl ⟨by rfl, ?_⟩) (by assumption) ?_
  rotate_left
  · intro w hSw
    try dsimp only at hSw
    go_simp
    try with_reducible rfl
  try simp only [Act.put, List.setIfInBounds_toArray, List.set_cons_zero, List.set_cons_succ]
  refine wpAnyH_take (i := 10) (oi := { dst := some 28, op := Go.Op.move (Go.Operand.tmp 27), type := 4, pos := "law.go:147", after := #[{ on := 9, ground := Go.Ground.data }, { on := 7, ground := Go.Ground.chain }], guard := none }) (v := ?_) rfl (by kernel_rfl) (by kernel_rfl) (by kernel_rfl) (fun _ _ _ h => h) (Or.inl ⟨by rfl, ?_⟩) (by assumption) ?_
  rotate_left
  · intro w hSw
    try dsimp only at hSw
    go_simp
    try with_reducible rfl
  try simp only [Act.put, List.setIfInBounds_toArray, List.set_cons_zero, List.set_cons_succ]
  refine wpAnyH_take (i := 11) (oi := { dst := some 29, op := Go.Op.load 29 (Go.Operand.tmp 3), type := 29, pos := "law.go:147", after := #[{ on := 10, ground := Go.Ground.guard }], guard := some (10, false) }) rfl (by kernel_rfl) (by kernel_rfl) (by kernel_rfl) (fun _ _ _ h => h) (yieldsIf_load_mid (by rfl) _ _ rfl _ _ rfl _ _ (fun _ h => h.1) HUS.out rfl HIA.out) (by assumption) ?_
  try simp only [Act.put, List.setIfInBounds_toArray, List.set_cons_zero, List.set_cons_succ]
  refine wpAnyH_take (i := 12) (oi := { dst := some 30, op := Go.Op.load 29 (Go.Operand.tmp 4), type := 29, pos := "law.go:147", after := #[{ on := 10, ground := Go.Ground.guard }], guard := some (10, false) }) rfl (by kernel_rfl) (by kernel_rfl) (by kernel_rfl) (fun _ _ _ h => h) (yieldsIf_load_mid (by rfl) _ _ rfl _ _ rfl _ _ (fun _ h => h.2.1) HUS.out rfl HIB.out) (by assumption) ?_
  try simp only [Act.put, List.setIfInBounds_toArray, List.set_cons_zero, List.set_cons_succ]
  refine wpAnyH_take (i := 14) (oi := { dst := some 32, op := Go.Op.load 29 (Go.Operand.tmp 4), type := 29, pos := "law.go:147", after := #[{ on := 10, ground := Go.Ground.guard }], guard := some (10, false) }) rfl (by kernel_rfl) (by kernel_rfl) (by kernel_rfl) (fun _ _ _ h => h) (yieldsIf_load_mid (by rfl) _ _ rfl _ _ rfl _ _ (fun _ h => h.2.1) HUS.out rfl HIB.out) (by assumption) ?_
  try simp only [Act.put, List.setIfInBounds_toArray, List.set_cons_zero, List.set_cons_succ]
  refine wpAnyH_take (i := 15) (oi := { dst := some 33, op := Go.Op.load 29 (Go.Operand.tmp 3), type := 29, pos := "law.go:147", after := #[{ on := 10, ground := Go.Ground.guard }], guard := some (10, false) }) rfl (by kernel_rfl) (by kernel_rfl) (by kernel_rfl) (fun _ _ _ h => h) (yieldsIf_load_mid (by rfl) _ _ rfl _ _ rfl _ _ (fun _ h => h.1) HUS.out rfl HIA.out) (by assumption) ?_
  try simp only [Act.put, List.setIfInBounds_toArray, List.set_cons_zero, List.set_cons_succ]
  refine wpAnyH_ready (rs := [13]) (by kernel_rfl) (by simp) ?_
  refine AllReadyH.cons (o := { dst := some 31, op := Go.Op.call { callee := Go.Callee.value (Go.Operand.func 7), args := #[Go.Operand.tmp 29, Go.Operand.tmp 30], argTypes := #[29, 29] }, type := 4, pos := "law.go:147", after := #[{ on := 11, ground := Go.Ground.data }, { on := 12, ground := Go.Ground.data }, { on := 10, ground := Go.Ground.chain }, { on := 10, ground := Go.Ground.guard }], guard := some (10, false) }) rfl (fun K hK => ?_) AllReadyH.nil
  go_simp
  go_at_call 7
  refine (CSab.out _ E2.out).mono ?_
  rintro e xw3 ⟨rfl, y3⟩
  have E3 := hide (chain E2.out y3)
  have CH3 := hide (chain CH2.out y3)
  have G3 : Hid ((fun wz => wz.rangeAt (w.heap.size) 0 ca ∧ wz.rangeAt (w.heap.size + 1) 0 cb ∧ wz.rangeAt (w.heap.size + 1 + 1) 0 cc) xw3) := ⟨vrange_below hHeld.1 y3, vrange_below hHeld.2.1 y3, vrange_below hHeld.2.2 y3⟩
  clear y3
  try go_wp2_with fail
  refine hK.out _ _ G3.out ?_
  clear hK K hHeld
  intro hHeld
  try simp only [Act.put, List.setIfInBounds_toArray, List.set_cons_zero, List.set_cons_succ]
  refine wpAnyH_ready (rs := [16]) (by kernel_rfl) (by simp) ?_
  refine AllReadyH.cons (o := { dst := some 34, op := Go.Op.call { callee := Go.Callee.value (Go.Operand.func 7), args := #[Go.Operand.tmp 32, Go.Operand.tmp 33], argTypes := #[29, 29] }, type := 4, pos := "law.go:147", after := #[{ on := 14, ground := Go.Ground.data }, { on := 15, ground := Go.Ground.data }, { on := 13, ground := Go.Ground.chain }, { on := 10, ground := Go.Ground.guard }], guard := some (10, false) }) rfl (fun K hK => ?_) AllReadyH.nil
  go_simp
  go_at_call 7
  refine (CSba.out _ E3.out).mono ?_
  rintro e xw4 ⟨rfl, y4⟩
  have E4 := hide (chain E3.out y4)
  have CH4 := hide (chain CH3.out y4)
  have G4 : Hid ((fun wz => wz.rangeAt (w.heap.size) 0 ca ∧ wz.rangeAt (w.heap.size + 1) 0 cb ∧ wz.rangeAt (w.heap.size + 1 + 1) 0 cc) xw4) := ⟨vrange_below hHeld.1 y4, vrange_below hHeld.2.1 y4, vrange_below hHeld.2.2 y4⟩
  clear y4
  try go_wp2_with fail
  refine hK.out _ _ G4.out ?_
  clear hK K hHeld
  intro hHeld
  try simp only [Act.put, List.setIfInBounds_toArray, List.set_cons_zero, List.set_cons_succ]
  refine wpAnyH_take (i := 17) (oi := { dst := some 35, op := Go.Op.binOp Go.BinOp.neq 4 (Go.Operand.tmp 31) (Go.Operand.tmp 34) 4, type := 4, pos := "law.go:147", after := #[{ on := 13, ground := Go.Ground.data }, { on := 16, ground := Go.Ground.data }, { on := 10, ground := Go.Ground.guard }], guard := some (10, false) }) (v := .bool false) rfl (by kernel_rfl) (by kernel_rfl) (by kernel_rfl) (fun _ _ _ h => h) (Or.inl ⟨by rfl, ?_⟩) (by assumption) ?_
  · intro wq hSw
    cases x <;> go_simp
  try simp only [Act.put, List.setIfInBounds_toArray, List.set_cons_zero, List.set_cons_succ]
  refine wpAnyH_take (i := 18) (oi := { dst := some 36, op := Go.Op.pick (Go.Operand.tmp 28) (Go.Operand.const (Go.Value.bool true)) (Go.Operand.tmp 35), type := 4, pos := "law.go:147", after := #[{ on := 10, ground := Go.Ground.data }, { on := 17, ground := Go.Ground.data }], guard := none }) (v := ?_) rfl (by kernel_rfl) (by kernel_rfl) (by kernel_rfl) (fun _ _ _ h => h) (Or.inl ⟨by rfl, ?_⟩) (by assumption) ?_
  rotate_left
  · intro w hSw
    try dsimp only at hSw
    go_simp
    try with_reducible rfl
  try simp only [Act.put, List.setIfInBounds_toArray, List.set_cons_zero, List.set_cons_succ]
  refine wpAnyH_take (i := 19) (oi := { dst := some 37, op := Go.Op.move (Go.Operand.tmp 36), type := 4, pos := "law.go:147", after := #[{ on := 18, ground := Go.Ground.data }, { on := 16, ground := Go.Ground.chain }], guard := none }) (v := ?_) rfl (by kernel_rfl) (by kernel_rfl) (by kernel_rfl) (fun _ _ _ h => h) (Or.inl ⟨by rfl, ?_⟩) (by assumption) ?_
  rotate_left
  · intro w hSw
    try dsimp only at hSw
    go_simp
    try with_reducible rfl
  try simp only [Act.put, List.setIfInBounds_toArray, List.set_cons_zero, List.set_cons_succ]
  refine wpAnyH_take (i := 20) (oi := { dst := some 38, op := Go.Op.load 29 (Go.Operand.tmp 3), type := 29, pos := "law.go:147", after := #[{ on := 19, ground := Go.Ground.guard }], guard := some (19, false) }) rfl (by kernel_rfl) (by kernel_rfl) (by kernel_rfl) (fun _ _ _ h => h) (yieldsIf_load_mid (by rfl) _ _ rfl _ _ rfl _ _ (fun _ h => h.1) HUS.out rfl HIA.out) (by assumption) ?_
  try simp only [Act.put, List.setIfInBounds_toArray, List.set_cons_zero, List.set_cons_succ]
  refine wpAnyH_take (i := 21) (oi := { dst := some 39, op := Go.Op.load 29 (Go.Operand.tmp 4), type := 29, pos := "law.go:147", after := #[{ on := 19, ground := Go.Ground.guard }], guard := some (19, false) }) rfl (by kernel_rfl) (by kernel_rfl) (by kernel_rfl) (fun _ _ _ h => h) (yieldsIf_load_mid (by rfl) _ _ rfl _ _ rfl _ _ (fun _ h => h.2.1) HUS.out rfl HIB.out) (by assumption) ?_
  try simp only [Act.put, List.setIfInBounds_toArray, List.set_cons_zero, List.set_cons_succ]
  refine wpAnyH_take (i := 23) (oi := { dst := some 41, op := Go.Op.load 29 (Go.Operand.tmp 4), type := 29, pos := "law.go:147", after := #[{ on := 19, ground := Go.Ground.guard }], guard := some (19, false) }) rfl (by kernel_rfl) (by kernel_rfl) (by kernel_rfl) (fun _ _ _ h => h) (yieldsIf_load_mid (by rfl) _ _ rfl _ _ rfl _ _ (fun _ h => h.2.1) HUS.out rfl HIB.out) (by assumption) ?_
  try simp only [Act.put, List.setIfInBounds_toArray, List.set_cons_zero, List.set_cons_succ]
  refine wpAnyH_take (i := 24) (oi := { dst := some 42, op := Go.Op.load 29 (Go.Operand.tmp 3), type := 29, pos := "law.go:147", after := #[{ on := 19, ground := Go.Ground.guard }], guard := some (19, false) }) rfl (by kernel_rfl) (by kernel_rfl) (by kernel_rfl) (fun _ _ _ h => h) (yieldsIf_load_mid (by rfl) _ _ rfl _ _ rfl _ _ (fun _ h => h.1) HUS.out rfl HIA.out) (by assumption) ?_
  try simp only [Act.put, List.setIfInBounds_toArray, List.set_cons_zero, List.set_cons_succ]
  refine wpAnyH_ready (rs := [22]) (by kernel_rfl) (by simp) ?_
  refine AllReadyH.cons (o := { dst := some 40, op := Go.Op.call { callee := Go.Callee.value (Go.Operand.func 8), args := #[Go.Operand.tmp 38, Go.Operand.tmp 39], argTypes := #[29, 29] }, type := 4, pos := "law.go:147", after := #[{ on := 20, ground := Go.Ground.data }, { on := 21, ground := Go.Ground.data }, { on := 19, ground := Go.Ground.chain }, { on := 19, ground := Go.Ground.guard }], guard := some (19, false) }) rfl (fun K hK => ?_) AllReadyH.nil
  go_simp
  go_at_call 8
  refine (CAab.out _ E4.out).mono ?_
  rintro e xw5 ⟨rfl, y5⟩
  have E5 := hide (chain E4.out y5)
  have CH5 := hide (chain CH4.out y5)
  have G5 : Hid ((fun wz => wz.rangeAt (w.heap.size) 0 ca ∧ wz.rangeAt (w.heap.size + 1) 0 cb ∧ wz.rangeAt (w.heap.size + 1 + 1) 0 cc) xw5) := ⟨vrange_below hHeld.1 y5, vrange_below hHeld.2.1 y5, vrange_below hHeld.2.2 y5⟩
  clear y5
  try go_wp2_with fail
  refine hK.out _ _ G5.out ?_
  clear hK K hHeld
  intro hHeld
  try simp only [Act.put, List.setIfInBounds_toArray, List.set_cons_zero, List.set_cons_succ]
  refine wpAnyH_ready (rs := [25]) (by kernel_rfl) (by simp) ?_
  refine AllReadyH.cons (o := { dst := some 43, op := Go.Op.call { callee := Go.Callee.value (Go.Operand.func 8), args := #[Go.Operand.tmp 41, Go.Operand.tmp 42], argTypes := #[29, 29] }, type := 4, pos := "law.go:147", after := #[{ on := 23, ground := Go.Ground.data }, { on := 24, ground := Go.Ground.data }, { on := 22, ground := Go.Ground.chain }, { on := 19, ground := Go.Ground.guard }], guard := some (19, false) }) rfl (fun K hK => ?_) AllReadyH.nil
  go_simp
  go_at_call 8
  refine (CAba.out _ E5.out).mono ?_
  rintro e xw6 ⟨rfl, y6⟩
  have E6 := hide (chain E5.out y6)
  have CH6 := hide (chain CH5.out y6)
  have G6 : Hid ((fun wz => wz.rangeAt (w.heap.size) 0 ca ∧ wz.rangeAt (w.heap.size + 1) 0 cb ∧ wz.rangeAt (w.heap.size + 1 + 1) 0 cc) xw6) := ⟨vrange_below hHeld.1 y6, vrange_below hHeld.2.1 y6, vrange_below hHeld.2.2 y6⟩
  clear y6
  try go_wp2_with fail
  refine hK.out _ _ G6.out ?_
  clear hK K hHeld
  intro hHeld
  try simp only [Act.put, List.setIfInBounds_toArray, List.set_cons_zero, List.set_cons_succ]
  refine wpAnyH_take (i := 26) (oi := { dst := some 44, op := Go.Op.binOp Go.BinOp.neq 4 (Go.Operand.tmp 40) (Go.Operand.tmp 43) 4, type := 4, pos := "law.go:147", after := #[{ on := 22, ground := Go.Ground.data }, { on := 25, ground := Go.Ground.data }, { on := 19, ground := Go.Ground.guard }], guard := some (19, false) }) (v := .bool false) rfl (by kernel_rfl) (by kernel_rfl) (by kernel_rfl) (fun _ _ _ h => h) (Or.inl ⟨by rfl, ?_⟩) (by assumption) ?_
  · intro wq hSw
    cases y <;> go_simp
  try simp only [Act.put, List.setIfInBounds_toArray, List.set_cons_zero, List.set_cons_succ]
  refine wpAnyH_take (i := 27) (oi := { dst := some 45, op := Go.Op.pick (Go.Operand.tmp 37) (Go.Operand.const (Go.Value.bool true)) (Go.Operand.tmp 44), type := 4, pos := "law.go:147", after := #[{ on := 19, ground := Go.Ground.data }, { on := 26, ground := Go.Ground.data }], guard := none }) (v := ?_) rfl (by kernel_rfl) (by kernel_rfl) (by kernel_rfl) (fun _ _ _ h => h) (Or.inl ⟨by rfl, ?_⟩) (by assumption) ?_
  rotate_left
  · intro w hSw
    try dsimp only at hSw
    go_simp
    try with_reducible rfl
  try simp only [Act.put, List.setIfInBounds_toArray, List.set_cons_zero, List.set_cons_succ]
  refine wpAnyH_done (by kernel_rfl) ?_ _
  have B4 := hide E6.out
  have GG4 : Hid ((fun wz => wz.rangeAt (w.heap.size) 0 ca ∧ wz.rangeAt (w.heap.size + 1) 0 cb ∧ wz.rangeAt (w.heap.size + 1 + 1) 0 cc) xw6) := G6.out
  clear E1 CH1 G1 E2 CH2 G2 E3 CH3 G3 E4 CH4 G4 E5 CH5 G5 E6 CH6 G6 PD hHeld CSaa CAaa CSba CAba B2 GG0
  generalize xw6 = W4 at *
  go_upto_region 6 with fail
  go_cut [63] from 46 (fun v wx => v = .bool false ∧ Below W4.heap.size W4 wx)
  case first =>
    cases x
    · have HHe : (fun wz => wz.rangeAt (w.heap.size) 0 ca ∧ wz.rangeAt (w.heap.size + 1) 0 cb ∧ wz.rangeAt (w.heap.size + 1 + 1) 0 cc) W4.drew := ⟨vrange_below GG4.out.1 ((Below.refl _ _).drew), vrange_below GG4.out.2.1 ((Below.refl _ _).drew), vrange_below GG4.out.2.2 ((Below.refl _ _).drew)⟩
      refine wp_region_held_drew (S := fun wz => wz.rangeAt (w.heap.size) 0 ca ∧ wz.rangeAt (w.heap.size + 1) 0 cb ∧ wz.rangeAt (w.heap.size + 1 + 1) 0 cc) (by kernel_rfl) HHe (fun hHeld => ?_)
      clear HHe
      have PD := hide B4.out.drew
      refine wpAnyH_take (i := 0) (oi := { dst := some 46, op := Go.Op.load 29 (Go.Operand.tmp 3), type := 29, pos := "law.go:150", after := #[], guard := none }) rfl (by kernel_rfl) (by kernel_rfl) (by kernel_rfl) (fun _ _ _ h => h) (yieldsIf_load_mid (by rfl) _ _ rfl _ _ rfl _ _ (fun _ h => h.1) HUS.out rfl HIA.out) (by assumption) ?_
      try simp only [Act.put, List.setIfInBounds_toArray, List.set_cons_zero, List.set_cons_succ]
      refine wpAnyH_take (i := 1) (oi := { dst := some 47, op := Go.Op.load 29 (Go.Operand.tmp 4), type := 29, pos := "law.go:150", after := #[], guard := none }) rfl (by kernel_rfl) (by kernel_rfl) (by kernel_rfl) (fun _ _ _ h => h) (yieldsIf_load_mid (by rfl) _ _ rfl _ _ rfl _ _ (fun _ h => h.2.1) HUS.out rfl HIB.out) (by assumption) ?_
      try simp only [Act.put, List.setIfInBounds_toArray, List.set_cons_zero, List.set_cons_succ]
      refine wpAnyH_ready (rs := [2]) (by kernel_rfl) (by simp) ?_
      refine AllReadyH.cons (o := { dst := some 48, op := Go.Op.call { callee := Go.Callee.value (Go.Operand.func 7), args := #[Go.Operand.tmp 46, Go.Operand.tmp 47], argTypes := #[29, 29] }, type := 4, pos := "law.go:150", after := #[{ on := 0, ground := Go.Ground.data }, { on := 1, ground := Go.Ground.data }], guard := none }) rfl (fun K hK => ?_) AllReadyH.nil
      go_simp
      go_at_call 7
      refine (CSab.out _ PD.out).mono ?_
      rintro e xw7 ⟨rfl, y7⟩
      have E7 := hide (chain PD.out y7)
      have CH7 := hide (undrewV y7)
      have G7 : Hid ((fun wz => wz.rangeAt (w.heap.size) 0 ca ∧ wz.rangeAt (w.heap.size + 1) 0 cb ∧ wz.rangeAt (w.heap.size + 1 + 1) 0 cc) xw7) := ⟨vrange_below hHeld.1 y7, vrange_below hHeld.2.1 y7, vrange_below hHeld.2.2 y7⟩
      clear y7
      try go_wp2_with fail
      refine hK.out _ _ G7.out ?_
      clear hK K hHeld
      intro hHeld
      try simp only [Act.put, List.setIfInBounds_toArray, List.set_cons_zero, List.set_cons_succ]
      refine wpAnyH_take (i := 3) (oi := { dst := some 49, op := Go.Op.move (Go.Operand.tmp 48), type := 4, pos := "law.go:150", after := #[{ on := 2, ground := Go.Ground.data }, { on := 2, ground := Go.Ground.chain }], guard := none }) (v := ?_) rfl (by kernel_rfl) (by kernel_rfl) (by kernel_rfl) (fun _ _ _ h => h) (Or.inl ⟨by rfl, ?_⟩) (by assumption) ?_
      rotate_left
      · intro w hSw
        try dsimp only at hSw
        go_simp
        try with_reducible rfl
      try simp only [Act.put, List.setIfInBounds_toArray, List.set_cons_zero, List.set_cons_succ]
      refine wpAnyH_take (i := 4) (oi := { dst := some 50, op := Go.Op.load 29 (Go.Operand.tmp 3), type := 29, pos := "law.go:150", after := #[{ on := 3, ground := Go.Ground.guard }], guard := some (3, true) }) (v := undef) rfl (by kernel_rfl) (by kernel_rfl) (by kernel_rfl) (fun _ _ _ h => h) (Or.inr ⟨by rfl, rfl⟩) (by assumption) ?_
      try simp only [Act.put, List.setIfInBounds_toArray, List.set_cons_zero, List.set_cons_succ]
      refine wpAnyH_take (i := 5) (oi := { dst := some 51, op := Go.Op.load 29 (Go.Operand.tmp 4), type := 29, pos := "law.go:150", after := #[{ on := 3, ground := Go.Ground.guard }], guard := some (3, true) }) (v := undef) rfl (by kernel_rfl) (by kernel_rfl) (by kernel_rfl) (fun _ _ _ h => h) (Or.inr ⟨by rfl, rfl⟩) (by assumption) ?_
      try simp only [Act.put, List.setIfInBounds_toArray, List.set_cons_zero, List.set_cons_succ]
      refine wpAnyH_take (i := 6) (oi := { dst := some 52, op := Go.Op.call { callee := Go.Callee.value (Go.Operand.func 8), args := #[Go.Operand.tmp 50, Go.Operand.tmp 51], argTypes := #[29, 29] }, type := 4, pos := "law.go:150", after := #[{ on := 4, ground := Go.Ground.data }, { on := 5, ground := Go.Ground.data }, { on := 3, ground := Go.Ground.chain }, { on := 3, ground := Go.Ground.guard }], guard := some (3, true) }) (v := undef) rfl (by kernel_rfl) (by kernel_rfl) (by kernel_rfl) (fun _ _ _ h => h) (Or.inr ⟨by rfl, rfl⟩) (by assumption) ?_
      try simp only [Act.put, List.setIfInBounds_toArray, List.set_cons_zero, List.set_cons_succ]
      refine wpAnyH_take (i := 7) (oi := { dst := some 53, op := Go.Op.unOp Go.UnOp.not 4 (Go.Operand.tmp 52), type := 4, pos := "law.go:150", after := #[{ on := 6, ground := Go.Ground.data }, { on := 3, ground := Go.Ground.guard }], guard := some (3, true) }) (v := undef) rfl (by kernel_rfl) (by kernel_rfl) (by kernel_rfl) (fun _ _ _ h => h) (Or.inr ⟨by rfl, rfl⟩) (by assumption) ?_
      try simp only [Act.put, List.setIfInBounds_toArray, List.set_cons_zero, List.set_cons_succ]
      refine wpAnyH_take (i := 8) (oi := { dst := some 54, op := Go.Op.move (Go.Operand.tmp 53), type := 4, pos := "law.go:150", after := #[{ on := 7, ground := Go.Ground.data }, { on := 6, ground := Go.Ground.chain }, { on := 3, ground := Go.Ground.guard }], guard := some (3, true) }) (v := undef) rfl (by kernel_rfl) (by kernel_rfl) (by kernel_rfl) (fun _ _ _ h => h) (Or.inr ⟨by rfl, rfl⟩) (by assumption) ?_
      try simp only [Act.put, List.setIfInBounds_toArray, List.set_cons_zero, List.set_cons_succ]
      refine wpAnyH_take (i := 9) (oi := { dst := some 55, op := Go.Op.load 29 (Go.Operand.tmp 3), type := 29, pos := "law.go:150", after := #[{ on := 8, ground := Go.Ground.guard }], guard := some (8, false) }) (v := undef) rfl (by kernel_rfl) (by kernel_rfl) (by kernel_rfl) (fun _ _ _ h => h) (Or.inr ⟨by rfl, rfl⟩) (by assumption) ?_
      try simp only [Act.put, List.setIfInBounds_toArray, List.set_cons_zero, List.set_cons_succ]
      refine wpAnyH_take (i := 10) (oi := { dst := some 56, op := Go.Op.load 29 (Go.Operand.tmp 5), type := 29, pos := "law.go:150", after := #[{ on := 8, ground := Go.Ground.guard }], guard := some (8, false) }) (v := undef) rfl (by kernel_rfl) (by kernel_rfl) (by kernel_rfl) (fun _ _ _ h => h) (Or.inr ⟨by rfl, rfl⟩) (by assumption) ?_
      try simp only [Act.put, List.setIfInBounds_toArray, List.set_cons_zero, List.set_cons_succ]
      refine wpAnyH_take (i := 11) (oi := { dst := some 57, op := Go.Op.call { callee := Go.Callee.value (Go.Operand.func 7), args := #[Go.Operand.tmp 55, Go.Operand.tmp 56], argTypes := #[29, 29] }, type := 4, pos := "law.go:150", after := #[{ on := 9, ground := Go.Ground.data }, { on := 10, ground := Go.Ground.data }, { on := 8, ground := Go.Ground.chain }, { on := 8, ground := Go.Ground.guard }], guard := some (8, false) }) (v := undef) rfl (by kernel_rfl) (by kernel_rfl) (by kernel_rfl) (fun _ _ _ h => h) (Or.inr ⟨by rfl, rfl⟩) (by assumption) ?_
      try simp only [Act.put, List.setIfInBounds_toArray, List.set_cons_zero, List.set_cons_succ]
      refine wpAnyH_take (i := 12) (oi := { dst := some 58, op := Go.Op.load 29 (Go.Operand.tmp 4), type := 29, pos := "law.go:150", after := #[{ on := 8, ground := Go.Ground.guard }], guard := some (8, false) }) (v := undef) rfl (by kernel_rfl) (by kernel_rfl) (by kernel_rfl) (fun _ _ _ h => h) (Or.inr ⟨by rfl, rfl⟩) (by assumption) ?_
      try simp only [Act.put, List.setIfInBounds_toArray, List.set_cons_zero, List.set_cons_succ]
      refine wpAnyH_take (i := 13) (oi := { dst := some 59, op := Go.Op.load 29 (Go.Operand.tmp 5), type := 29, pos := "law.go:150", after := #[{ on := 8, ground := Go.Ground.guard }], guard := some (8, false) }) (v := undef) rfl (by kernel_rfl) (by kernel_rfl) (by kernel_rfl) (fun _ _ _ h => h) (Or.inr ⟨by rfl, rfl⟩) (by assumption) ?_
      try simp only [Act.put, List.setIfInBounds_toArray, List.set_cons_zero, List.set_cons_succ]
      refine wpAnyH_take (i := 14) (oi := { dst := some 60, op := Go.Op.call { callee := Go.Callee.value (Go.Operand.func 7), args := #[Go.Operand.tmp 58, Go.Operand.tmp 59], argTypes := #[29, 29] }, type := 4, pos := "law.go:150", after := #[{ on := 12, ground := Go.Ground.data }, { on := 13, ground := Go.Ground.data }, { on := 11, ground := Go.Ground.chain }, { on := 8, ground := Go.Ground.guard }], guard := some (8, false) }) (v := undef) rfl (by kernel_rfl) (by kernel_rfl) (by kernel_rfl) (fun _ _ _ h => h) (Or.inr ⟨by rfl, rfl⟩) (by assumption) ?_
      try simp only [Act.put, List.setIfInBounds_toArray, List.set_cons_zero, List.set_cons_succ]
      refine wpAnyH_take (i := 15) (oi := { dst := some 61, op := Go.Op.binOp Go.BinOp.neq 4 (Go.Operand.tmp 57) (Go.Operand.tmp 60) 4, type := 4, pos := "law.go:150", after := #[{ on := 11, ground := Go.Ground.data }, { on := 14, ground := Go.Ground.data }, { on := 8, ground := Go.Ground.guard }], guard := some (8, false) }) (v := undef) rfl (by kernel_rfl) (by kernel_rfl) (by kernel_rfl) (fun _ _ _ h => h) (Or.inr ⟨by rfl, rfl⟩) (by assumption) ?_
      try simp only [Act.put, List.setIfInBounds_toArray, List.set_cons_zero, List.set_cons_succ]
      refine wpAnyH_take (i := 16) (oi := { dst := some 62, op := Go.Op.pick (Go.Operand.tmp 54) (Go.Operand.const (Go.Value.bool true)) (Go.Operand.tmp 61), type := 4, pos := "law.go:150", after := #[{ on := 8, ground := Go.Ground.data }, { on := 15, ground := Go.Ground.data }, { on := 3, ground := Go.Ground.guard }], guard := some (3, true) }) (v := undef) rfl (by kernel_rfl) (by kernel_rfl) (by kernel_rfl) (fun _ _ _ h => h) (Or.inr ⟨by rfl, rfl⟩) (by assumption) ?_
      try simp only [Act.put, List.setIfInBounds_toArray, List.set_cons_zero, List.set_cons_succ]
      refine wpAnyH_take (i := 17) (oi := { dst := some 63, op := Go.Op.pick (Go.Operand.tmp 49) (Go.Operand.tmp 62) (Go.Operand.const (Go.Value.bool false)), type := 4, pos := "law.go:150", after := #[{ on := 3, ground := Go.Ground.data }, { on := 16, ground := Go.Ground.data }], guard := none }) (v := ?_) rfl (by kernel_rfl) (by kernel_rfl) (by kernel_rfl) (fun _ _ _ h => h) (Or.inl ⟨by rfl, ?_⟩) (by assumption) ?_
      rotate_left
      · intro w hSw
        try dsimp only at hSw
        go_simp
        try with_reducible rfl
      try simp only [Act.put, List.setIfInBounds_toArray, List.set_cons_zero, List.set_cons_succ]
      refine wpAnyH_done (by kernel_rfl) ?_ _
      go_wp2
      go_meet
      case rel => exact ⟨rfl, CH7.out⟩
    · have hsab := eqb_iff.1 HX.out
      have hyt : y = true := by rw [← HY.out]; exact eqb_yes (same_alike hsab)
      subst hyt
      obtain ⟨z, hz⟩ : ∃ z, eqb Classical.propDecidable (sa.same sc) = z := ⟨_, rfl⟩
      have CSac : Hid (∀ W, Below w.heap.size w W → Calls Try.prog 7 #[.agg ca.toArray, .agg cc.toArray] W fun e w' => e = .returned (.bool z) ∧ Below W.heap.size W w') := fun W hb => by
        have := same_any sa sc ca cc W (HA.out.below hb).sv (HC.out.below hb).sv
        rw [hz] at this
        exact this
      have CSbc : Hid (∀ W, Below w.heap.size w W → Calls Try.prog 7 #[.agg cb.toArray, .agg cc.toArray] W fun e w' => e = .returned (.bool z) ∧ Below W.heap.size W w') := fun W hb => by
        have := same_any sb sc cb cc W (HB.out.below hb).sv (HC.out.below hb).sv
        rw [same_left hsab sc, hz] at this
        exact this
      clear hsab hz
      have HHe : (fun wz => wz.rangeAt (w.heap.size) 0 ca ∧ wz.rangeAt (w.heap.size + 1) 0 cb ∧ wz.rangeAt (w.heap.size + 1 + 1) 0 cc) W4.drew := ⟨vrange_below GG4.out.1 ((Below.refl _ _).drew), vrange_below GG4.out.2.1 ((Below.refl _ _).drew), vrange_below GG4.out.2.2 ((Below.refl _ _).drew)⟩
      refine wp_region_held_drew (S := fun wz => wz.rangeAt (w.heap.size) 0 ca ∧ wz.rangeAt (w.heap.size + 1) 0 cb ∧ wz.rangeAt (w.heap.size + 1 + 1) 0 cc) (by kernel_rfl) HHe (fun hHeld => ?_)
      clear HHe
      have PD := hide B4.out.drew
      refine wpAnyH_take (i := 0) (oi := { dst := some 46, op := Go.Op.load 29 (Go.Operand.tmp 3), type := 29, pos := "law.go:150", after := #[], guard := none }) rfl (by kernel_rfl) (by kernel_rfl) (by kernel_rfl) (fun _ _ _ h => h) (yieldsIf_load_mid (by rfl) _ _ rfl _ _ rfl _ _ (fun _ h => h.1) HUS.out rfl HIA.out) (by assumption) ?_
      try simp only [Act.put, List.setIfInBounds_toArray, List.set_cons_zero, List.set_cons_succ]
      refine wpAnyH_take (i := 1) (oi := { dst := some 47, op := Go.Op.load 29 (Go.Operand.tmp 4), type := 29, pos := "law.go:150", after := #[], guard := none }) rfl (by kernel_rfl) (by kernel_rfl) (by kernel_rfl) (fun _ _ _ h => h) (yieldsIf_load_mid (by rfl) _ _ rfl _ _ rfl _ _ (fun _ h => h.2.1) HUS.out rfl HIB.out) (by assumption) ?_
      try simp only [Act.put, List.setIfInBounds_toArray, List.set_cons_zero, List.set_cons_succ]
      refine wpAnyH_ready (rs := [2]) (by kernel_rfl) (by simp) ?_
      refine AllReadyH.cons (o := { dst := some 48, op := Go.Op.call { callee := Go.Callee.value (Go.Operand.func 7), args := #[Go.Operand.tmp 46, Go.Operand.tmp 47], argTypes := #[29, 29] }, type := 4, pos := "law.go:150", after := #[{ on := 0, ground := Go.Ground.data }, { on := 1, ground := Go.Ground.data }], guard := none }) rfl (fun K hK => ?_) AllReadyH.nil
      go_simp
      go_at_call 7
      refine (CSab.out _ PD.out).mono ?_
      rintro e xw8 ⟨rfl, y8⟩
      have E8 := hide (chain PD.out y8)
      have CH8 := hide (undrewV y8)
      have G8 : Hid ((fun wz => wz.rangeAt (w.heap.size) 0 ca ∧ wz.rangeAt (w.heap.size + 1) 0 cb ∧ wz.rangeAt (w.heap.size + 1 + 1) 0 cc) xw8) := ⟨vrange_below hHeld.1 y8, vrange_below hHeld.2.1 y8, vrange_below hHeld.2.2 y8⟩
      clear y8
      try go_wp2_with fail
      refine hK.out _ _ G8.out ?_
      clear hK K hHeld
      intro hHeld
      try simp only [Act.put, List.setIfInBounds_toArray, List.set_cons_zero, List.set_cons_succ]
      refine wpAnyH_take (i := 3) (oi := { dst := some 49, op := Go.Op.move (Go.Operand.tmp 48), type := 4, pos := "law.go:150", after := #[{ on := 2, ground := Go.Ground.data }, { on := 2, ground := Go.Ground.chain }], guard := none }) (v := ?_) rfl (by kernel_rfl) (by kernel_rfl) (by kernel_rfl) (fun _ _ _ h => h) (Or.inl ⟨by rfl, ?_⟩) (by assumption) ?_
      rotate_left
      · intro w hSw
        try dsimp only at hSw
        go_simp
        try with_reducible rfl
      try simp only [Act.put, List.setIfInBounds_toArray, List.set_cons_zero, List.set_cons_succ]
      refine wpAnyH_take (i := 4) (oi := { dst := some 50, op := Go.Op.load 29 (Go.Operand.tmp 3), type := 29, pos := "law.go:150", after := #[{ on := 3, ground := Go.Ground.guard }], guard := some (3, true) }) rfl (by kernel_rfl) (by kernel_rfl) (by kernel_rfl) (fun _ _ _ h => h) (yieldsIf_load_mid (by rfl) _ _ rfl _ _ rfl _ _ (fun _ h => h.1) HUS.out rfl HIA.out) (by assumption) ?_
      try simp only [Act.put, List.setIfInBounds_toArray, List.set_cons_zero, List.set_cons_succ]
      refine wpAnyH_take (i := 5) (oi := { dst := some 51, op := Go.Op.load 29 (Go.Operand.tmp 4), type := 29, pos := "law.go:150", after := #[{ on := 3, ground := Go.Ground.guard }], guard := some (3, true) }) rfl (by kernel_rfl) (by kernel_rfl) (by kernel_rfl) (fun _ _ _ h => h) (yieldsIf_load_mid (by rfl) _ _ rfl _ _ rfl _ _ (fun _ h => h.2.1) HUS.out rfl HIB.out) (by assumption) ?_
      try simp only [Act.put, List.setIfInBounds_toArray, List.set_cons_zero, List.set_cons_succ]
      refine wpAnyH_ready (rs := [6]) (by kernel_rfl) (by simp) ?_
      refine AllReadyH.cons (o := { dst := some 52, op := Go.Op.call { callee := Go.Callee.value (Go.Operand.func 8), args := #[Go.Operand.tmp 50, Go.Operand.tmp 51], argTypes := #[29, 29] }, type := 4, pos := "law.go:150", after := #[{ on := 4, ground := Go.Ground.data }, { on := 5, ground := Go.Ground.data }, { on := 3, ground := Go.Ground.chain }, { on := 3, ground := Go.Ground.guard }], guard := some (3, true) }) rfl (fun K hK => ?_) AllReadyH.nil
      go_simp
      go_at_call 8
      refine (CAab.out _ E8.out).mono ?_
      rintro e xw9 ⟨rfl, y9⟩
      have E9 := hide (chain E8.out y9)
      have CH9 := hide (chain CH8.out y9)
      have G9 : Hid ((fun wz => wz.rangeAt (w.heap.size) 0 ca ∧ wz.rangeAt (w.heap.size + 1) 0 cb ∧ wz.rangeAt (w.heap.size + 1 + 1) 0 cc) xw9) := ⟨vrange_below hHeld.1 y9, vrange_below hHeld.2.1 y9, vrange_below hHeld.2.2 y9⟩
      clear y9
      try go_wp2_with fail
      refine hK.out _ _ G9.out ?_
      clear hK K hHeld
      intro hHeld
      try simp only [Act.put, List.setIfInBounds_toArray, List.set_cons_zero, List.set_cons_succ]
      refine wpAnyH_take (i := 7) (oi := { dst := some 53, op := Go.Op.unOp Go.UnOp.not 4 (Go.Operand.tmp 52), type := 4, pos := "law.go:150", after := #[{ on := 6, ground := Go.Ground.data }, { on := 3, ground := Go.Ground.guard }], guard := some (3, true) }) (v := ?_) rfl (by kernel_rfl) (by kernel_rfl) (by kernel_rfl) (fun _ _ _ h => h) (Or.inl ⟨by rfl, ?_⟩) (by assumption) ?_
      rotate_left
      · intro w hSw
        try dsimp only at hSw
        go_simp
        try with_reducible rfl
      try simp only [Act.put, List.setIfInBounds_toArray, List.set_cons_zero, List.set_cons_succ]
      refine wpAnyH_take (i := 8) (oi := { dst := some 54, op := Go.Op.move (Go.Operand.tmp 53), type := 4, pos := "law.go:150", after := #[{ on := 7, ground := Go.Ground.data }, { on := 6, ground := Go.Ground.chain }, { on := 3, ground := Go.Ground.guard }], guard := some (3, true) }) (v := ?_) rfl (by kernel_rfl) (by kernel_rfl) (by kernel_rfl) (fun _ _ _ h => h) (Or.inl ⟨by rfl, ?_⟩) (by assumption) ?_
      rotate_left
      · intro w hSw
        try dsimp only at hSw
        go_simp
        try with_reducible rfl
      try simp only [Act.put, List.setIfInBounds_toArray, List.set_cons_zero, List.set_cons_succ]
      refine wpAnyH_take (i := 9) (oi := { dst := some 55, op := Go.Op.load 29 (Go.Operand.tmp 3), type := 29, pos := "law.go:150", after := #[{ on := 8, ground := Go.Ground.guard }], guard := some (8, false) }) rfl (by kernel_rfl) (by kernel_rfl) (by kernel_rfl) (fun _ _ _ h => h) (yieldsIf_load_mid (by rfl) _ _ rfl _ _ rfl _ _ (fun _ h => h.1) HUS.out rfl HIA.out) (by assumption) ?_
      try simp only [Act.put, List.setIfInBounds_toArray, List.set_cons_zero, List.set_cons_succ]
      refine wpAnyH_take (i := 10) (oi := { dst := some 56, op := Go.Op.load 29 (Go.Operand.tmp 5), type := 29, pos := "law.go:150", after := #[{ on := 8, ground := Go.Ground.guard }], guard := some (8, false) }) rfl (by kernel_rfl) (by kernel_rfl) (by kernel_rfl) (fun _ _ _ h => h) (yieldsIf_load_mid (by rfl) _ _ rfl _ _ rfl _ _ (fun _ h => h.2.2) HUS.out rfl HIC.out) (by assumption) ?_
      try simp only [Act.put, List.setIfInBounds_toArray, List.set_cons_zero, List.set_cons_succ]
      refine wpAnyH_take (i := 12) (oi := { dst := some 58, op := Go.Op.load 29 (Go.Operand.tmp 4), type := 29, pos := "law.go:150", after := #[{ on := 8, ground := Go.Ground.guard }], guard := some (8, false) }) rfl (by kernel_rfl) (by kernel_rfl) (by kernel_rfl) (fun _ _ _ h => h) (yieldsIf_load_mid (by rfl) _ _ rfl _ _ rfl _ _ (fun _ h => h.2.1) HUS.out rfl HIB.out) (by assumption) ?_
      try simp only [Act.put, List.setIfInBounds_toArray, List.set_cons_zero, List.set_cons_succ]
      refine wpAnyH_take (i := 13) (oi := { dst := some 59, op := Go.Op.load 29 (Go.Operand.tmp 5), type := 29, pos := "law.go:150", after := #[{ on := 8, ground := Go.Ground.guard }], guard := some (8, false) }) rfl (by kernel_rfl) (by kernel_rfl) (by kernel_rfl) (fun _ _ _ h => h) (yieldsIf_load_mid (by rfl) _ _ rfl _ _ rfl _ _ (fun _ h => h.2.2) HUS.out rfl HIC.out) (by assumption) ?_
      try simp only [Act.put, List.setIfInBounds_toArray, List.set_cons_zero, List.set_cons_succ]
      refine wpAnyH_ready (rs := [11]) (by kernel_rfl) (by simp) ?_
      refine AllReadyH.cons (o := { dst := some 57, op := Go.Op.call { callee := Go.Callee.value (Go.Operand.func 7), args := #[Go.Operand.tmp 55, Go.Operand.tmp 56], argTypes := #[29, 29] }, type := 4, pos := "law.go:150", after := #[{ on := 9, ground := Go.Ground.data }, { on := 10, ground := Go.Ground.data }, { on := 8, ground := Go.Ground.chain }, { on := 8, ground := Go.Ground.guard }], guard := some (8, false) }) rfl (fun K hK => ?_) AllReadyH.nil
      go_simp
      go_at_call 7
      refine (CSac.out _ E9.out).mono ?_
      rintro e xw10 ⟨rfl, y10⟩
      have E10 := hide (chain E9.out y10)
      have CH10 := hide (chain CH9.out y10)
      have G10 : Hid ((fun wz => wz.rangeAt (w.heap.size) 0 ca ∧ wz.rangeAt (w.heap.size + 1) 0 cb ∧ wz.rangeAt (w.heap.size + 1 + 1) 0 cc) xw10) := ⟨vrange_below hHeld.1 y10, vrange_below hHeld.2.1 y10, vrange_below hHeld.2.2 y10⟩
      clear y10
      try go_wp2_with fail
      refine hK.out _ _ G10.out ?_
      clear hK K hHeld
      intro hHeld
      try simp only [Act.put, List.setIfInBounds_toArray, List.set_cons_zero, List.set_cons_succ]
      refine wpAnyH_ready (rs := [14]) (by kernel_rfl) (by simp) ?_
      refine AllReadyH.cons (o := { dst := some 60, op := Go.Op.call { callee := Go.Callee.value (Go.Operand.func 7), args := #[Go.Operand.tmp 58, Go.Operand.tmp 59], argTypes := #[29, 29] }, type := 4, pos := "law.go:150", after := #[{ on := 12, ground := Go.Ground.data }, { on := 13, ground := Go.Ground.data }, { on := 11, ground := Go.Ground.chain }, { on := 8, ground := Go.Ground.guard }], guard := some (8, false) }) rfl (fun K hK => ?_) AllReadyH.nil
      go_simp
      go_at_call 7
      refine (CSbc.out _ E10.out).mono ?_
      rintro e xw11 ⟨rfl, y11⟩
      have E11 := hide (chain E10.out y11)
      have CH11 := hide (chain CH10.out y11)
      have G11 : Hid ((fun wz => wz.rangeAt (w.heap.size) 0 ca ∧ wz.rangeAt (w.heap.size + 1) 0 cb ∧ wz.rangeAt (w.heap.size + 1 + 1) 0 cc) xw11) := ⟨vrange_below hHeld.1 y11, vrange_below hHeld.2.1 y11, vrange_below hHeld.2.2 y11⟩
      clear y11
      try go_wp2_with fail
      refine hK.out _ _ G11.out ?_
      clear hK K hHeld
      intro hHeld
      try simp only [Act.put, List.setIfInBounds_toArray, List.set_cons_zero, List.set_cons_succ]
      refine wpAnyH_take (i := 15) (oi := { dst := some 61, op := Go.Op.binOp Go.BinOp.neq 4 (Go.Operand.tmp 57) (Go.Operand.tmp 60) 4, type := 4, pos := "law.go:150", after := #[{ on := 11, ground := Go.Ground.data }, { on := 14, ground := Go.Ground.data }, { on := 8, ground := Go.Ground.guard }], guard := some (8, false) }) (v := .bool false) rfl (by kernel_rfl) (by kernel_rfl) (by kernel_rfl) (fun _ _ _ h => h) (Or.inl ⟨by rfl, ?_⟩) (by assumption) ?_
      · intro wq hSw
        cases z <;> go_simp
      try simp only [Act.put, List.setIfInBounds_toArray, List.set_cons_zero, List.set_cons_succ]
      refine wpAnyH_take (i := 16) (oi := { dst := some 62, op := Go.Op.pick (Go.Operand.tmp 54) (Go.Operand.const (Go.Value.bool true)) (Go.Operand.tmp 61), type := 4, pos := "law.go:150", after := #[{ on := 8, ground := Go.Ground.data }, { on := 15, ground := Go.Ground.data }, { on := 3, ground := Go.Ground.guard }], guard := some (3, true) }) (v := ?_) rfl (by kernel_rfl) (by kernel_rfl) (by kernel_rfl) (fun _ _ _ h => h) (Or.inl ⟨by rfl, ?_⟩) (by assumption) ?_
      rotate_left
      · intro w hSw
        try dsimp only at hSw
        go_simp
        try with_reducible rfl
      try simp only [Act.put, List.setIfInBounds_toArray, List.set_cons_zero, List.set_cons_succ]
      refine wpAnyH_take (i := 17) (oi := { dst := some 63, op := Go.Op.pick (Go.Operand.tmp 49) (Go.Operand.tmp 62) (Go.Operand.const (Go.Value.bool false)), type := 4, pos := "law.go:150", after := #[{ on := 3, ground := Go.Ground.data }, { on := 16, ground := Go.Ground.data }], guard := none }) (v := ?_) rfl (by kernel_rfl) (by kernel_rfl) (by kernel_rfl) (fun _ _ _ h => h) (Or.inl ⟨by rfl, ?_⟩) (by assumption) ?_
      rotate_left
      · intro w hSw
        try dsimp only at hSw
        go_simp
        try with_reducible rfl
      try simp only [Act.put, List.setIfInBounds_toArray, List.set_cons_zero, List.set_cons_succ]
      refine wpAnyH_done (by kernel_rfl) ?_ _
      go_wp2
      go_meet
      case rel => exact ⟨rfl, CH11.out⟩
  case rest =>
    obtain ⟨rfl, b5⟩ := hcut
    have B6 := hide (chain B4.out b5)
    have GG6 : Hid ((fun wz => wz.rangeAt (w.heap.size) 0 ca ∧ wz.rangeAt (w.heap.size + 1) 0 cb ∧ wz.rangeAt (w.heap.size + 1 + 1) 0 cc) wc) := ⟨vrange_below GG4.out.1 b5, vrange_below GG4.out.2.1 b5, vrange_below GG4.out.2.2 b5⟩
    clear b5 B4 GG4 CSab HX
    generalize wc = W6 at *
    go_upto_region 8 with fail
    go_cut [75] from 64 (fun v wx => v = .bool false ∧ Below W6.heap.size W6 wx)
    case first =>
      cases y
      · have HHe : (fun wz => wz.rangeAt (w.heap.size) 0 ca ∧ wz.rangeAt (w.heap.size + 1) 0 cb ∧ wz.rangeAt (w.heap.size + 1 + 1) 0 cc) W6.drew := ⟨vrange_below GG6.out.1 ((Below.refl _ _).drew), vrange_below GG6.out.2.1 ((Below.refl _ _).drew), vrange_below GG6.out.2.2 ((Below.refl _ _).drew)⟩
        refine wp_region_held_drew (S := fun wz => wz.rangeAt (w.heap.size) 0 ca ∧ wz.rangeAt (w.heap.size + 1) 0 cb ∧ wz.rangeAt (w.heap.size + 1 + 1) 0 cc) (by kernel_rfl) HHe (fun hHeld => ?_)
        clear HHe
        have PD := hide B6.out.drew
        refine wpAnyH_take (i := 0) (oi := { dst := some 64, op := Go.Op.load 29 (Go.Operand.tmp 3), type := 29, pos := "law.go:153", after := #[], guard := none }) rfl (by kernel_rfl) (by kernel_rfl) (by kernel_rfl) (fun _ _ _ h => h) (yieldsIf_load_mid (by rfl) _ _ rfl _ _ rfl _ _ (fun _ h => h.1) HUS.out rfl HIA.out) (by assumption) ?_
        try simp only [Act.put, List.setIfInBounds_toArray, List.set_cons_zero, List.set_cons_succ]
        refine wpAnyH_take (i := 1) (oi := { dst := some 65, op := Go.Op.load 29 (Go.Operand.tmp 4), type := 29, pos := "law.go:153", after := #[], guard := none }) rfl (by kernel_rfl) (by kernel_rfl) (by kernel_rfl) (fun _ _ _ h => h) (yieldsIf_load_mid (by rfl) _ _ rfl _ _ rfl _ _ (fun _ h => h.2.1) HUS.out rfl HIB.out) (by assumption) ?_
        try simp only [Act.put, List.setIfInBounds_toArray, List.set_cons_zero, List.set_cons_succ]
        refine wpAnyH_ready (rs := [2]) (by kernel_rfl) (by simp) ?_
        refine AllReadyH.cons (o := { dst := some 66, op := Go.Op.call { callee := Go.Callee.value (Go.Operand.func 8), args := #[Go.Operand.tmp 64, Go.Operand.tmp 65], argTypes := #[29, 29] }, type := 4, pos := "law.go:153", after := #[{ on := 0, ground := Go.Ground.data }, { on := 1, ground := Go.Ground.data }], guard := none }) rfl (fun K hK => ?_) AllReadyH.nil
        go_simp
        go_at_call 8
        refine (CAab.out _ PD.out).mono ?_
        rintro e xw12 ⟨rfl, y12⟩
        have E12 := hide (chain PD.out y12)
        have CH12 := hide (undrewV y12)
        have G12 : Hid ((fun wz => wz.rangeAt (w.heap.size) 0 ca ∧ wz.rangeAt (w.heap.size + 1) 0 cb ∧ wz.rangeAt (w.heap.size + 1 + 1) 0 cc) xw12) := ⟨vrange_below hHeld.1 y12, vrange_below hHeld.2.1 y12, vrange_below hHeld.2.2 y12⟩
        clear y12
        try go_wp2_with fail
        refine hK.out _ _ G12.out ?_
        clear hK K hHeld
        intro hHeld
        try simp only [Act.put, List.setIfInBounds_toArray, List.set_cons_zero, List.set_cons_succ]
        refine wpAnyH_take (i := 3) (oi := { dst := some 67, op := Go.Op.move (Go.Operand.tmp 66), type := 4, pos := "law.go:153", after := #[{ on := 2, ground := Go.Ground.data }, { on := 2, ground := Go.Ground.chain }], guard := none }) (v := ?_) rfl (by kernel_rfl) (by kernel_rfl) (by kernel_rfl) (fun _ _ _ h => h) (Or.inl ⟨by rfl, ?_⟩) (by assumption) ?_
        rotate_left
        · intro w hSw
          try dsimp only at hSw
          go_simp
          try with_reducible rfl
        try simp only [Act.put, List.setIfInBounds_toArray, List.set_cons_zero, List.set_cons_succ]
        refine wpAnyH_take (i := 4) (oi := { dst := some 68, op := Go.Op.load 29 (Go.Operand.tmp 3), type := 29, pos := "law.go:153", after := #[{ on := 3, ground := Go.Ground.guard }], guard := some (3, true) }) (v := undef) rfl (by kernel_rfl) (by kernel_rfl) (by kernel_rfl) (fun _ _ _ h => h) (Or.inr ⟨by rfl, rfl⟩) (by assumption) ?_
        try simp only [Act.put, List.setIfInBounds_toArray, List.set_cons_zero, List.set_cons_succ]
        refine wpAnyH_take (i := 5) (oi := { dst := some 69, op := Go.Op.load 29 (Go.Operand.tmp 5), type := 29, pos := "law.go:153", after := #[{ on := 3, ground := Go.Ground.guard }], guard := some (3, true) }) (v := undef) rfl (by kernel_rfl) (by kernel_rfl) (by kernel_rfl) (fun _ _ _ h => h) (Or.inr ⟨by rfl, rfl⟩) (by assumption) ?_
        try simp only [Act.put, List.setIfInBounds_toArray, List.set_cons_zero, List.set_cons_succ]
        refine wpAnyH_take (i := 6) (oi := { dst := some 70, op := Go.Op.call { callee := Go.Callee.value (Go.Operand.func 8), args := #[Go.Operand.tmp 68, Go.Operand.tmp 69], argTypes := #[29, 29] }, type := 4, pos := "law.go:153", after := #[{ on := 4, ground := Go.Ground.data }, { on := 5, ground := Go.Ground.data }, { on := 3, ground := Go.Ground.chain }, { on := 3, ground := Go.Ground.guard }], guard := some (3, true) }) (v := undef) rfl (by kernel_rfl) (by kernel_rfl) (by kernel_rfl) (fun _ _ _ h => h) (Or.inr ⟨by rfl, rfl⟩) (by assumption) ?_
        try simp only [Act.put, List.setIfInBounds_toArray, List.set_cons_zero, List.set_cons_succ]
        refine wpAnyH_take (i := 7) (oi := { dst := some 71, op := Go.Op.load 29 (Go.Operand.tmp 4), type := 29, pos := "law.go:153", after := #[{ on := 3, ground := Go.Ground.guard }], guard := some (3, true) }) (v := undef) rfl (by kernel_rfl) (by kernel_rfl) (by kernel_rfl) (fun _ _ _ h => h) (Or.inr ⟨by rfl, rfl⟩) (by assumption) ?_
        try simp only [Act.put, List.setIfInBounds_toArray, List.set_cons_zero, List.set_cons_succ]
        refine wpAnyH_take (i := 8) (oi := { dst := some 72, op := Go.Op.load 29 (Go.Operand.tmp 5), type := 29, pos := "law.go:153", after := #[{ on := 3, ground := Go.Ground.guard }], guard := some (3, true) }) (v := undef) rfl (by kernel_rfl) (by kernel_rfl) (by kernel_rfl) (fun _ _ _ h => h) (Or.inr ⟨by rfl, rfl⟩) (by assumption) ?_
        try simp only [Act.put, List.setIfInBounds_toArray, List.set_cons_zero, List.set_cons_succ]
        refine wpAnyH_take (i := 9) (oi := { dst := some 73, op := Go.Op.call { callee := Go.Callee.value (Go.Operand.func 8), args := #[Go.Operand.tmp 71, Go.Operand.tmp 72], argTypes := #[29, 29] }, type := 4, pos := "law.go:153", after := #[{ on := 7, ground := Go.Ground.data }, { on := 8, ground := Go.Ground.data }, { on := 6, ground := Go.Ground.chain }, { on := 3, ground := Go.Ground.guard }], guard := some (3, true) }) (v := undef) rfl (by kernel_rfl) (by kernel_rfl) (by kernel_rfl) (fun _ _ _ h => h) (Or.inr ⟨by rfl, rfl⟩) (by assumption) ?_
        try simp only [Act.put, List.setIfInBounds_toArray, List.set_cons_zero, List.set_cons_succ]
        refine wpAnyH_take (i := 10) (oi := { dst := some 74, op := Go.Op.binOp Go.BinOp.neq 4 (Go.Operand.tmp 70) (Go.Operand.tmp 73) 4, type := 4, pos := "law.go:153", after := #[{ on := 6, ground := Go.Ground.data }, { on := 9, ground := Go.Ground.data }, { on := 3, ground := Go.Ground.guard }], guard := some (3, true) }) (v := undef) rfl (by kernel_rfl) (by kernel_rfl) (by kernel_rfl) (fun _ _ _ h => h) (Or.inr ⟨by rfl, rfl⟩) (by assumption) ?_
        try simp only [Act.put, List.setIfInBounds_toArray, List.set_cons_zero, List.set_cons_succ]
        refine wpAnyH_take (i := 11) (oi := { dst := some 75, op := Go.Op.pick (Go.Operand.tmp 67) (Go.Operand.tmp 74) (Go.Operand.const (Go.Value.bool false)), type := 4, pos := "law.go:153", after := #[{ on := 3, ground := Go.Ground.data }, { on := 10, ground := Go.Ground.data }], guard := none }) (v := ?_) rfl (by kernel_rfl) (by kernel_rfl) (by kernel_rfl) (fun _ _ _ h => h) (Or.inl ⟨by rfl, ?_⟩) (by assumption) ?_
        rotate_left
        · intro w hSw
          try dsimp only at hSw
          go_simp
          try with_reducible rfl
        try simp only [Act.put, List.setIfInBounds_toArray, List.set_cons_zero, List.set_cons_succ]
        refine wpAnyH_done (by kernel_rfl) ?_ _
        go_wp2
        go_meet
        case rel => exact ⟨rfl, CH12.out⟩
      · have hsab := eqb_iff.1 HY.out
        obtain ⟨z, hz⟩ : ∃ z, eqb Classical.propDecidable (sa.alike sc) = z := ⟨_, rfl⟩
        have CAac : Hid (∀ W, Below w.heap.size w W → Calls Try.prog 8 #[.agg ca.toArray, .agg cc.toArray] W fun e w' => e = .returned (.bool z) ∧ Below W.heap.size W w') := fun W hb => by
          have := alike_any sa sc ca cc W (HA.out.below hb).sv (HC.out.below hb).sv
          rw [hz] at this
          exact this
        have CAbc : Hid (∀ W, Below w.heap.size w W → Calls Try.prog 8 #[.agg cb.toArray, .agg cc.toArray] W fun e w' => e = .returned (.bool z) ∧ Below W.heap.size W w') := fun W hb => by
          have := alike_any sb sc cb cc W (HB.out.below hb).sv (HC.out.below hb).sv
          rw [alike_left hsab sc, hz] at this
          exact this
        clear hsab hz
        have HHe : (fun wz => wz.rangeAt (w.heap.size) 0 ca ∧ wz.rangeAt (w.heap.size + 1) 0 cb ∧ wz.rangeAt (w.heap.size + 1 + 1) 0 cc) W6.drew := ⟨vrange_below GG6.out.1 ((Below.refl _ _).drew), vrange_below GG6.out.2.1 ((Below.refl _ _).drew), vrange_below GG6.out.2.2 ((Below.refl _ _).drew)⟩
        refine wp_region_held_drew (S := fun wz => wz.rangeAt (w.heap.size) 0 ca ∧ wz.rangeAt (w.heap.size + 1) 0 cb ∧ wz.rangeAt (w.heap.size + 1 + 1) 0 cc) (by kernel_rfl) HHe (fun hHeld => ?_)
        clear HHe
        have PD := hide B6.out.drew
        refine wpAnyH_take (i := 0) (oi := { dst := some 64, op := Go.Op.load 29 (Go.Operand.tmp 3), type := 29, pos := "law.go:153", after := #[], guard := none }) rfl (by kernel_rfl) (by kernel_rfl) (by kernel_rfl) (fun _ _ _ h => h) (yieldsIf_load_mid (by rfl) _ _ rfl _ _ rfl _ _ (fun _ h => h.1) HUS.out rfl HIA.out) (by assumption) ?_
        try simp only [Act.put, List.setIfInBounds_toArray, List.set_cons_zero, List.set_cons_succ]
        refine wpAnyH_take (i := 1) (oi := { dst := some 65, op := Go.Op.load 29 (Go.Operand.tmp 4), type := 29, pos := "law.go:153", after := #[], guard := none }) rfl (by kernel_rfl) (by kernel_rfl) (by kernel_rfl) (fun _ _ _ h => h) (yieldsIf_load_mid (by rfl) _ _ rfl _ _ rfl _ _ (fun _ h => h.2.1) HUS.out rfl HIB.out) (by assumption) ?_
        try simp only [Act.put, List.setIfInBounds_toArray, List.set_cons_zero, List.set_cons_succ]
        refine wpAnyH_ready (rs := [2]) (by kernel_rfl) (by simp) ?_
        refine AllReadyH.cons (o := { dst := some 66, op := Go.Op.call { callee := Go.Callee.value (Go.Operand.func 8), args := #[Go.Operand.tmp 64, Go.Operand.tmp 65], argTypes := #[29, 29] }, type := 4, pos := "law.go:153", after := #[{ on := 0, ground := Go.Ground.data }, { on := 1, ground := Go.Ground.data }], guard := none }) rfl (fun K hK => ?_) AllReadyH.nil
        go_simp
        go_at_call 8
        refine (CAab.out _ PD.out).mono ?_
        rintro e xw13 ⟨rfl, y13⟩
        have E13 := hide (chain PD.out y13)
        have CH13 := hide (undrewV y13)
        have G13 : Hid ((fun wz => wz.rangeAt (w.heap.size) 0 ca ∧ wz.rangeAt (w.heap.size + 1) 0 cb ∧ wz.rangeAt (w.heap.size + 1 + 1) 0 cc) xw13) := ⟨vrange_below hHeld.1 y13, vrange_below hHeld.2.1 y13, vrange_below hHeld.2.2 y13⟩
        clear y13
        try go_wp2_with fail
        refine hK.out _ _ G13.out ?_
        clear hK K hHeld
        intro hHeld
        try simp only [Act.put, List.setIfInBounds_toArray, List.set_cons_zero, List.set_cons_succ]
        refine wpAnyH_take (i := 3) (oi := { dst := some 67, op := Go.Op.move (Go.Operand.tmp 66), type := 4, pos := "law.go:153", after := #[{ on := 2, ground := Go.Ground.data }, { on := 2, ground := Go.Ground.chain }], guard := none }) (v := ?_) rfl (by kernel_rfl) (by kernel_rfl) (by kernel_rfl) (fun _ _ _ h => h) (Or.inl ⟨by rfl, ?_⟩) (by assumption) ?_
        rotate_left
        · intro w hSw
          try dsimp only at hSw
          go_simp
          try with_reducible rfl
        try simp only [Act.put, List.setIfInBounds_toArray, List.set_cons_zero, List.set_cons_succ]
        refine wpAnyH_take (i := 4) (oi := { dst := some 68, op := Go.Op.load 29 (Go.Operand.tmp 3), type := 29, pos := "law.go:153", after := #[{ on := 3, ground := Go.Ground.guard }], guard := some (3, true) }) rfl (by kernel_rfl) (by kernel_rfl) (by kernel_rfl) (fun _ _ _ h => h) (yieldsIf_load_mid (by rfl) _ _ rfl _ _ rfl _ _ (fun _ h => h.1) HUS.out rfl HIA.out) (by assumption) ?_
        try simp only [Act.put, List.setIfInBounds_toArray, List.set_cons_zero, List.set_cons_succ]
        refine wpAnyH_take (i := 5) (oi := { dst := some 69, op := Go.Op.load 29 (Go.Operand.tmp 5), type := 29, pos := "law.go:153", after := #[{ on := 3, ground := Go.Ground.guard }], guard := some (3, true) }) rfl (by kernel_rfl) (by kernel_rfl) (by kernel_rfl) (fun _ _ _ h => h) (yieldsIf_load_mid (by rfl) _ _ rfl _ _ rfl _ _ (fun _ h => h.2.2) HUS.out rfl HIC.out) (by assumption) ?_
        try simp only [Act.put, List.setIfInBounds_toArray, List.set_cons_zero, List.set_cons_succ]
        refine wpAnyH_take (i := 7) (oi := { dst := some 71, op := Go.Op.load 29 (Go.Operand.tmp 4), type := 29, pos := "law.go:153", after := #[{ on := 3, ground := Go.Ground.guard }], guard := some (3, true) }) rfl (by kernel_rfl) (by kernel_rfl) (by kernel_rfl) (fun _ _ _ h => h) (yieldsIf_load_mid (by rfl) _ _ rfl _ _ rfl _ _ (fun _ h => h.2.1) HUS.out rfl HIB.out) (by assumption) ?_
        try simp only [Act.put, List.setIfInBounds_toArray, List.set_cons_zero, List.set_cons_succ]
        refine wpAnyH_take (i := 8) (oi := { dst := some 72, op := Go.Op.load 29 (Go.Operand.tmp 5), type := 29, pos := "law.go:153", after := #[{ on := 3, ground := Go.Ground.guard }], guard := some (3, true) }) rfl (by kernel_rfl) (by kernel_rfl) (by kernel_rfl) (fun _ _ _ h => h) (yieldsIf_load_mid (by rfl) _ _ rfl _ _ rfl _ _ (fun _ h => h.2.2) HUS.out rfl HIC.out) (by assumption) ?_
        try simp only [Act.put, List.setIfInBounds_toArray, List.set_cons_zero, List.set_cons_succ]
        refine wpAnyH_ready (rs := [6]) (by kernel_rfl) (by simp) ?_
        refine AllReadyH.cons (o := { dst := some 70, op := Go.Op.call { callee := Go.Callee.value (Go.Operand.func 8), args := #[Go.Operand.tmp 68, Go.Operand.tmp 69], argTypes := #[29, 29] }, type := 4, pos := "law.go:153", after := #[{ on := 4, ground := Go.Ground.data }, { on := 5, ground := Go.Ground.data }, { on := 3, ground := Go.Ground.chain }, { on := 3, ground := Go.Ground.guard }], guard := some (3, true) }) rfl (fun K hK => ?_) AllReadyH.nil
        go_simp
        go_at_call 8
        refine (CAac.out _ E13.out).mono ?_
        rintro e xw14 ⟨rfl, y14⟩
        have E14 := hide (chain E13.out y14)
        have CH14 := hide (chain CH13.out y14)
        have G14 : Hid ((fun wz => wz.rangeAt (w.heap.size) 0 ca ∧ wz.rangeAt (w.heap.size + 1) 0 cb ∧ wz.rangeAt (w.heap.size + 1 + 1) 0 cc) xw14) := ⟨vrange_below hHeld.1 y14, vrange_below hHeld.2.1 y14, vrange_below hHeld.2.2 y14⟩
        clear y14
        try go_wp2_with fail
        refine hK.out _ _ G14.out ?_
        clear hK K hHeld
        intro hHeld
        try simp only [Act.put, List.setIfInBounds_toArray, List.set_cons_zero, List.set_cons_succ]
        refine wpAnyH_ready (rs := [9]) (by kernel_rfl) (by simp) ?_
        refine AllReadyH.cons (o := { dst := some 73, op := Go.Op.call { callee := Go.Callee.value (Go.Operand.func 8), args := #[Go.Operand.tmp 71, Go.Operand.tmp 72], argTypes := #[29, 29] }, type := 4, pos := "law.go:153", after := #[{ on := 7, ground := Go.Ground.data }, { on := 8, ground := Go.Ground.data }, { on := 6, ground := Go.Ground.chain }, { on := 3, ground := Go.Ground.guard }], guard := some (3, true) }) rfl (fun K hK => ?_) AllReadyH.nil
        go_simp
        go_at_call 8
        refine (CAbc.out _ E14.out).mono ?_
        rintro e xw15 ⟨rfl, y15⟩
        have E15 := hide (chain E14.out y15)
        have CH15 := hide (chain CH14.out y15)
        have G15 : Hid ((fun wz => wz.rangeAt (w.heap.size) 0 ca ∧ wz.rangeAt (w.heap.size + 1) 0 cb ∧ wz.rangeAt (w.heap.size + 1 + 1) 0 cc) xw15) := ⟨vrange_below hHeld.1 y15, vrange_below hHeld.2.1 y15, vrange_below hHeld.2.2 y15⟩
        clear y15
        try go_wp2_with fail
        refine hK.out _ _ G15.out ?_
        clear hK K hHeld
        intro hHeld
        try simp only [Act.put, List.setIfInBounds_toArray, List.set_cons_zero, List.set_cons_succ]
        refine wpAnyH_take (i := 10) (oi := { dst := some 74, op := Go.Op.binOp Go.BinOp.neq 4 (Go.Operand.tmp 70) (Go.Operand.tmp 73) 4, type := 4, pos := "law.go:153", after := #[{ on := 6, ground := Go.Ground.data }, { on := 9, ground := Go.Ground.data }, { on := 3, ground := Go.Ground.guard }], guard := some (3, true) }) (v := .bool false) rfl (by kernel_rfl) (by kernel_rfl) (by kernel_rfl) (fun _ _ _ h => h) (Or.inl ⟨by rfl, ?_⟩) (by assumption) ?_
        · intro wq hSw
          cases z <;> go_simp
        try simp only [Act.put, List.setIfInBounds_toArray, List.set_cons_zero, List.set_cons_succ]
        refine wpAnyH_take (i := 11) (oi := { dst := some 75, op := Go.Op.pick (Go.Operand.tmp 67) (Go.Operand.tmp 74) (Go.Operand.const (Go.Value.bool false)), type := 4, pos := "law.go:153", after := #[{ on := 3, ground := Go.Ground.data }, { on := 10, ground := Go.Ground.data }], guard := none }) (v := ?_) rfl (by kernel_rfl) (by kernel_rfl) (by kernel_rfl) (fun _ _ _ h => h) (Or.inl ⟨by rfl, ?_⟩) (by assumption) ?_
        rotate_left
        · intro w hSw
          try dsimp only at hSw
          go_simp
          try with_reducible rfl
        try simp only [Act.put, List.setIfInBounds_toArray, List.set_cons_zero, List.set_cons_succ]
        refine wpAnyH_done (by kernel_rfl) ?_ _
        go_wp2
        go_meet
        case rel => exact ⟨rfl, CH15.out⟩
    case rest =>
      obtain ⟨rfl, b7⟩ := hcut
      have B8 := hide (chain B6.out b7)
      have A8 := hide (vrange_below GG6.out.1 b7)
      clear b7 B6 GG6 CAab HY
      generalize wc = W8 at *
      go_upto_region 10 with fail
      refine wp_region_list ?_
      refine wpList_load_g (op := { dst := some 76, op := Go.Op.load 29 (Go.Operand.tmp 3), type := 29, pos := "law.go:156", after := #[], guard := none }) (by rfl) 29 (.tmp 3) rfl w.heap.size (0) rfl ca _ A8.out HUS.out rfl HIA.out ?_
      try simp only [Act.put, List.setIfInBounds_toArray, List.set_cons_zero, List.set_cons_succ]
      refine wpList_tail (pre := [{ dst := some 77, op := Go.Op.call { callee := Go.Callee.value (Go.Operand.func 11), args := #[Go.Operand.tmp 76], argTypes := #[29] }, type := 29, pos := "law.go:156", after := #[{ on := 0, ground := Go.Ground.data }], guard := none }, { dst := some 9, op := Go.Op.alloc 29, type := 0, pos := "law.go:156", after := #[], guard := none }]) _ ?_
      intro tl htl
      have HTL := hide htl
      clear htl
      simp only [List.cons_append, List.nil_append]
      go_wp2_with fail
      refine Calls.mono (copy_any W8 sa ca (HA.out.below B8.out)) ?_
      rintro e w7 ⟨cd, rfl, hd, b7⟩
      have HD := hide hd
      have B7 := hide (chain B8.out b7)
      have A7 := hide (vrange_below A8.out b7)
      have HID : Hid ((Try.prog.info? 29).map (·.size) = some cd.length) := by unfold Hid; rw [state_cells hd]; exact infoState
      clear b7 hd B8 A8
      have HCD := hide (state_cells HD.out)
      obtain ⟨z3, m3, k3, _, z4, m4, k4, _, z5, m5, k5, _, z6, m6, k6, _, z7, m7, k7, _, z8, m8, k8, _, z9, m9, k9, _, hq, _⟩ := HD.out
      subst hq
      have NS := hide (bl_alloc w7 #[.int .i64 0, .int .i64 0, .int .i64 0, .slice none 0 0, .slice none 0 0, .slice none 0 0, .slice none 0 0, .slice none 0 0, .slice none 0 0, .slice none 0 0] 29)
      have P1 := hide (one_below w7 (.cells #[.int .i64 0, .int .i64 0, .int .i64 0, .slice none 0 0, .slice none 0 0, .slice none 0 0, .slice none 0 0, .slice none 0 0, .slice none 0 0, .slice none 0 0] 29))
      go_wp2_with fail
      have htl := HTL.out
      clear HTL
      subst htl
      generalize w7.alloc (.cells #[.int .i64 0, .int .i64 0, .int .i64 0, .slice none 0 0, .slice none 0 0, .slice none 0 0, .slice none 0 0, .slice none 0 0, .slice none 0 0, .slice none 0 0] 29) = W9 at *
      have e0 := NS.out.cell 0 _ rfl
      have d0 := NS.out.free 0
      have e1 := NS.out.cell 1 _ rfl
      have d1 := NS.out.free 1
      have e2 := NS.out.cell 2 _ rfl
      have d2 := NS.out.free 2
      have e3 := NS.out.cell 3 _ rfl
      have d3 := NS.out.free 3
      have e4 := NS.out.cell 4 _ rfl
      have d4 := NS.out.free 4
      have e5 := NS.out.cell 5 _ rfl
      have d5 := NS.out.free 5
      have e6 := NS.out.cell 6 _ rfl
      have d6 := NS.out.free 6
      have e7 := NS.out.cell 7 _ rfl
      have d7 := NS.out.free 7
      have e8 := NS.out.cell 8 _ rfl
      have d8 := NS.out.free 8
      have e9 := NS.out.cell 9 _ rfl
      have d9 := NS.out.free 9
      go_upto_region 11 with fail
      clear e0 d0 e1 d1 e2 d2 e3 d3 e4 d4 e5 d5 e6 d6 e7 d7 e8 d8 e9 d9
      obtain ⟨u1, u2, u3, u4⟩ := ten_sets (w0 := w7) (B := w7.heap.size) P1.out (Nat.le_refl _) NS.out rfl (.int .i64 sa.id) (.int .i64 sa.frame) (.int .i64 sa.epoch) (.slice z3 m3 k3) (.slice z4 m4 k4) (.slice z5 m5 k5) (.slice z6 m6 k6) (.slice z7 m7 k7) (.slice z8 m8 k8) (.slice z9 m9 k9)
      have D9 := hide u1
      have BD := hide u2
      clear u1 u2 u3 u4 NS P1
      generalize ((((((((((W9.setCell ⟨w7.heap.size, 0, none⟩ (.int .i64 sa.id)).setCell ⟨w7.heap.size, 1, none⟩ (.int .i64 sa.frame)).setCell ⟨w7.heap.size, 2, none⟩ (.int .i64 sa.epoch)).setCell ⟨w7.heap.size, 3, none⟩ (.slice z3 m3 k3)).setCell ⟨w7.heap.size, 4, none⟩ (.slice z4 m4 k4)).setCell ⟨w7.heap.size, 5, none⟩ (.slice z5 m5 k5)).setCell ⟨w7.heap.size, 6, none⟩ (.slice z6 m6 k6)).setCell ⟨w7.heap.size, 7, none⟩ (.slice z7 m7 k7)).setCell ⟨w7.heap.size, 8, none⟩ (.slice z8 m8 k8)).setCell ⟨w7.heap.size, 9, none⟩ (.slice z9 m9 k9)) = W10 at *
      generalize hcd : ([.int .i64 sa.id, .int .i64 sa.frame, .int .i64 sa.epoch, .slice z3 m3 k3, .slice z4 m4 k4, .slice z5 m5 k5, .slice z6 m6 k6, .slice z7 m7 k7, .slice z8 m8 k8, .slice z9 m9 k9] : List Value) = cd at *
      clear hcd
      have LA := hide (vrange_below A7.out D9.out)
      have LD := hide (bl_range BD.out)
      have C11 : Hid (Calls Try.prog 7 #[.agg ca.toArray, .agg cd.toArray] W10 fun e w' => e = .returned (.bool true) ∧ Below W10.heap.size W10 w') := by
        have := same_any sa sa ca cd W10 (HA.out.below (chain B7.out D9.out)).sv (HD.out.below D9.out).sv
        rw [eqb_yes (same_self sa)] at this
        exact this
      refine wp_region_list ?_
      refine wpList_load_g (op := { dst := some 78, op := Go.Op.load 29 (Go.Operand.tmp 3), type := 29, pos := "law.go:157", after := #[], guard := none }) (by rfl) 29 (.tmp 3) rfl w.heap.size (0) rfl ca _ LA.out HUS.out rfl HIA.out ?_
      try simp only [Act.put, List.setIfInBounds_toArray, List.set_cons_zero, List.set_cons_succ]
      refine wpList_load_g (op := { dst := some 79, op := Go.Op.load 29 (Go.Operand.tmp 9), type := 29, pos := "law.go:157", after := #[], guard := none }) (by rfl) 29 (.tmp 9) rfl w7.heap.size (0) rfl cd _ LD.out HUS.out rfl HID.out ?_
      try simp only [Act.put, List.setIfInBounds_toArray, List.set_cons_zero, List.set_cons_succ]
      go_wp2_with fail
      refine Calls.mono C11.out ?_
      rintro e w11 ⟨rfl, b11⟩
      have D11 := hide (chain D9.out b11)
      have hl7 : w7.heap.size < W10.heap.size := block_lt_of_cell (BD.out.cell 2 _ (sr_cell2 HD.out))
      have BD11 := hide (BD.out.below hl7 b11)
      clear b11 hl7 C11 LA LD BD D9
      have a2 := vrange_below A7.out D11.out 2 _ (sr_cell2 HA.out)
      rw [Nat.zero_add] at a2
      have s2 := BD11.out.cell 2 _ (sr_cell2 HD.out)
      have f2 := BD11.out.free 2
      go_upto_region 14 with fail
      clear a2 s2 f2
      obtain ⟨e1, he1⟩ : ∃ e1, wrap64 (sa.epoch + 1) = e1 := ⟨_, rfl⟩
      rw [he1]
      have NE1 : Hid (sa.epoch ≠ e1) := fun h => ne_next sa.epoch (he1.trans h.symm)
      clear he1
      have D12 := hide (D11.out.setCell (p := ⟨w7.heap.size, 2, none⟩) (Nat.le_refl _) (.int .i64 e1))
      have BD12 := hide (BD11.out.set (k := 2) (by rw [HCD.out]; decide) (.int .i64 e1))
      have HD12 := hide (Sr.epoch HD.out e1)
      clear BD11 D11
      generalize w11.setCell ⟨w7.heap.size, 2, none⟩ (.int .i64 e1) = W12 at *
      have LA := hide (vrange_below A7.out D12.out)
      have LD := hide (bl_range BD12.out)
      have HID2 : Hid ((Try.prog.info? 29).map (·.size) = some (cd.set 2 (.int .i64 e1)).length) := by unfold Hid; rw [state_cells HD12.out]; exact infoState
      have HCD2 := hide (state_cells HD12.out)
      generalize hce : cd.set 2 (.int .i64 e1) = ce at *
      clear hce
      have C14s : Hid (∀ W, Below w7.heap.size w7 W → Calls Try.prog 7 #[.agg ca.toArray, .agg ce.toArray] W fun e w' => e = .returned (.bool false) ∧ Below W.heap.size W w') := fun W hb => by
        have := same_any sa _ ca ce W (HA.out.below (chain B7.out hb)).sv (HD12.out.below hb).sv
        rw [eqb_no (fun h => NE1.out h.1)] at this
        exact this
      have C14a : Hid (∀ W, Below w7.heap.size w7 W → Calls Try.prog 8 #[.agg ca.toArray, .agg ce.toArray] W fun e w' => e = .returned (.bool true) ∧ Below W.heap.size W w') := fun W hb => by
        have := alike_any sa _ ca ce W (HA.out.below (chain B7.out hb)).sv (HD12.out.below hb).sv
        rw [eqb_yes ⟨⟨rfl, rfl, rfl, rfl, rfl, rfl, rfl, rfl⟩, rfl⟩] at this
        exact this
      refine wp_region_list ?_
      refine wpList_load_g (op := { dst := some 86, op := Go.Op.load 29 (Go.Operand.tmp 3), type := 29, pos := "law.go:161", after := #[], guard := none }) (by rfl) 29 (.tmp 3) rfl w.heap.size (0) rfl ca _ LA.out HUS.out rfl HIA.out ?_
      try simp only [Act.put, List.setIfInBounds_toArray, List.set_cons_zero, List.set_cons_succ]
      refine wpList_load_g (op := { dst := some 87, op := Go.Op.load 29 (Go.Operand.tmp 9), type := 29, pos := "law.go:161", after := #[], guard := none }) (by rfl) 29 (.tmp 9) rfl w7.heap.size (0) rfl ce _ LD.out HUS.out rfl HID2.out ?_
      try simp only [Act.put, List.setIfInBounds_toArray, List.set_cons_zero, List.set_cons_succ]
      refine wpList_tail (pre := [{ dst := some 88, op := Go.Op.call { callee := Go.Callee.value (Go.Operand.func 7), args := #[Go.Operand.tmp 86, Go.Operand.tmp 87], argTypes := #[29, 29] }, type := 4, pos := "law.go:161", after := #[{ on := 0, ground := Go.Ground.data }, { on := 1, ground := Go.Ground.data }], guard := none }, { dst := some 89, op := Go.Op.move (Go.Operand.tmp 88), type := 4, pos := "law.go:161", after := #[{ on := 2, ground := Go.Ground.data }, { on := 2, ground := Go.Ground.chain }], guard := none }]) _ ?_
      intro tl htl
      have HTL := hide htl
      clear htl
      simp only [List.cons_append, List.nil_append]
      go_wp2_with fail
      refine Calls.mono (C14s.out _ D12.out) ?_
      rintro e w13 ⟨rfl, b13⟩
      have D13 := hide (chain D12.out b13)
      have hl7 : w7.heap.size < W12.heap.size := block_lt_of_cell (BD12.out.cell 2 _ (sr_cell2 HD12.out))
      have BD13 := hide (BD12.out.below hl7 b13)
      clear b13 hl7 BD12 D12 LA LD
      have LA := hide (vrange_below A7.out D13.out)
      have LD := hide (bl_range BD13.out)
      go_wp2_with fail
      have htl := HTL.out
      clear HTL
      subst htl
      refine wpList_load_g (op := { dst := some 90, op := Go.Op.load 29 (Go.Operand.tmp 3), type := 29, pos := "law.go:161", after := #[{ on := 3, ground := Go.Ground.guard }], guard := some (3, false) }) (by rfl) 29 (.tmp 3) rfl w.heap.size (0) rfl ca _ LA.out HUS.out rfl HIA.out ?_
      try simp only [Act.put, List.setIfInBounds_toArray, List.set_cons_zero, List.set_cons_succ]
      refine wpList_load_g (op := { dst := some 91, op := Go.Op.load 29 (Go.Operand.tmp 9), type := 29, pos := "law.go:161", after := #[{ on := 3, ground := Go.Ground.guard }], guard := some (3, false) }) (by rfl) 29 (.tmp 9) rfl w7.heap.size (0) rfl ce _ LD.out HUS.out rfl HID2.out ?_
      try simp only [Act.put, List.setIfInBounds_toArray, List.set_cons_zero, List.set_cons_succ]
      go_wp2_with fail
      refine Calls.mono (C14a.out _ D13.out) ?_
      rintro e w14 ⟨rfl, b14⟩
      have D14 := hide (chain D13.out b14)
      have hl7 : w7.heap.size < w13.heap.size := block_lt_of_cell (BD13.out.cell 2 _ (sr_cell2 HD12.out))
      have BD14 := hide (BD13.out.below hl7 b14)
      clear b14 hl7 BD13 D13 LA LD C14s C14a
      have a2 := vrange_below A7.out D14.out 1 _ (sr_cell1 HA.out)
      rw [Nat.zero_add] at a2
      have s2 := BD14.out.cell 1 _ (sr_cell1 HD12.out)
      have f2 := BD14.out.free 1
      go_upto_region 17 with fail
      clear a2 s2 f2
      obtain ⟨e2, he2⟩ : ∃ e2, wrap64 (sa.frame + 1) = e2 := ⟨_, rfl⟩
      rw [he2]
      have NE2 : Hid (sa.frame ≠ e2) := fun h => ne_next sa.frame (he2.trans h.symm)
      clear he2
      have D15 := hide (D14.out.setCell (p := ⟨w7.heap.size, 1, none⟩) (Nat.le_refl _) (.int .i64 e2))
      have BD15 := hide (BD14.out.set (k := 1) (by rw [HCD2.out]; decide) (.int .i64 e2))
      have HD15 := hide (Sr.frame HD12.out e2)
      clear BD14 D14
      generalize w14.setCell ⟨w7.heap.size, 1, none⟩ (.int .i64 e2) = W15 at *
      have LA := hide (vrange_below A7.out D15.out)
      have LD := hide (bl_range BD15.out)
      have HID3 : Hid ((Try.prog.info? 29).map (·.size) = some (ce.set 1 (.int .i64 e2)).length) := by unfold Hid; rw [state_cells HD15.out]; exact infoState
      generalize hcf : ce.set 1 (.int .i64 e2) = cf at *
      clear hcf
      have C17 : Hid (Calls Try.prog 8 #[.agg ca.toArray, .agg cf.toArray] W15 fun e w' => e = .returned (.bool false) ∧ Below W15.heap.size W15 w') := by
        have := alike_any sa _ ca cf W15 (HA.out.below (chain B7.out D15.out)).sv (HD15.out.below D15.out).sv
        rw [eqb_no (fun h => NE2.out h.1.2.1)] at this
        exact this
      refine wp_region_list ?_
      refine wpList_load_g (op := { dst := some 99, op := Go.Op.load 29 (Go.Operand.tmp 3), type := 29, pos := "law.go:165", after := #[], guard := none }) (by rfl) 29 (.tmp 3) rfl w.heap.size (0) rfl ca _ LA.out HUS.out rfl HIA.out ?_
      try simp only [Act.put, List.setIfInBounds_toArray, List.set_cons_zero, List.set_cons_succ]
      refine wpList_load_g (op := { dst := some 100, op := Go.Op.load 29 (Go.Operand.tmp 9), type := 29, pos := "law.go:165", after := #[], guard := none }) (by rfl) 29 (.tmp 9) rfl w7.heap.size (0) rfl cf _ LD.out HUS.out rfl HID3.out ?_
      try simp only [Act.put, List.setIfInBounds_toArray, List.set_cons_zero, List.set_cons_succ]
      go_wp2_with fail
      refine Calls.mono C17.out ?_
      rintro e w18 ⟨rfl, b18⟩
      have FB := hide (chain (chain B7.out D15.out) b18)
      clear b18
      go_wp2
      go_ret
      exact ⟨rfl, FB.out⟩
end Go.Proofs.Ytkjbcnlhallcdaa.validEquals
