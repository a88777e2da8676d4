/-
  Walk of the law ValidSames.
-/
import Derived.Test.YtkjbcnlhallcdaaVdDirt
import Derived.Test.YtkjbcnlhallcdaaVdSame
import Derived.Test.YtkjbcnlhallcdaaVdAlike
import Derived.Deep.Cut
namespace Go.Proofs.Ytkjbcnlhallcdaa.validSames
open Go.RowKit FerryCrc
set_option linter.unusedVariables false
set_option linter.unusedSimpArgs false

theorem same_self (s : Sk) : s.same s := ⟨rfl, ⟨rfl, rfl, rfl, rfl, rfl, rfl, rfl, rfl⟩, rfl⟩
theorem bl_range {w : World} {g : Nat} {cs : List Value} (h : Bl w g cs) : w.rangeAt g 0 cs := fun j v hv => by rw [Nat.zero_add]; exact h.cell j v hv

set_option maxRecDepth 100000 in
set_option maxHeartbeats 3000000 in
theorem law (w : World) (ca cb : List Value) (sa sb : Sk) (ha : Sr w ca sa) (hb : Sr w cb sb) :
    Calls Try.prog 3 #[.agg ca.toArray, .agg cb.toArray] w fun e w' => e = .returned (.bool true) ∧ Below w.heap.size w w' := by
  have HA := hide ha
  have HB := hide hb
  obtain ⟨x, hx⟩ : ∃ x, eqb Classical.propDecidable (sa.same sb) = x := ⟨_, rfl⟩
  obtain ⟨y, hy⟩ : ∃ y, eqb Classical.propDecidable (sa.alike sb) = y := ⟨_, rfl⟩
  have HX := hide hx
  have HY := hide hy
  have CSab : Hid (∀ W, Below w.heap.size w W → Calls Try.prog 7 #[.agg ca.toArray, .agg cb.toArray] W fun e w' => e = .returned (.bool x) ∧ Below W.heap.size W w') := fun W hb => by
    have := same_any sa sb ca cb W (HA.out.below hb).sv (HB.out.below hb).sv
    rw [HX.out] at this
    exact this
  have CAab : Hid (∀ W, Below w.heap.size w W → Calls Try.prog 8 #[.agg ca.toArray, .agg cb.toArray] W fun e w' => e = .returned (.bool y) ∧ Below W.heap.size W w') := fun W hb => by
    have := alike_any sa sb ca cb W (HA.out.below hb).sv (HB.out.below hb).sv
    rw [HY.out] at this
    exact this
  have RSab : Hid (∀ W, Below w.heap.size w W → Calls Try.prog 9 #[.agg ca.toArray, .agg cb.toArray] W fun e w' => e = .returned (.bool x) ∧ Below W.heap.size W w') := fun W hb => by
    have := rsame_any sa sb ca cb W (HA.out.below hb).sv (HB.out.below hb).sv
    rw [HX.out] at this
    exact this
  have RAab : Hid (∀ W, Below w.heap.size w W → Calls Try.prog 10 #[.agg ca.toArray, .agg cb.toArray] W fun e w' => e = .returned (.bool y) ∧ Below W.heap.size W w') := fun W hb => by
    have := ralike_any sa sb ca cb W (HA.out.below hb).sv (HB.out.below hb).sv
    rw [HY.out] at this
    exact this
  have HUS : Hid (Try.prog.underlying 29 = some _) := Try.underlying29
  have HIA : Hid ((Try.prog.info? 29).map (·.size) = some ca.length) := by unfold Hid; rw [state_cells ha]; exact infoState
  have HIB : Hid ((Try.prog.info? 29).map (·.size) = some cb.length) := by unfold Hid; rw [state_cells hb]; exact infoState
  have n1 := rangeNew w ca 29
  have n2 := rangeNew (w.alloc (.cells ca.toArray 29)) cb 29
  have o1 := one_below w (.cells ca.toArray 29)
  have o2 := one_below (w.alloc (.cells ca.toArray 29)) (.cells cb.toArray 29)
  have n1' := vrange_below n1 o2
  rw [show (w.alloc (.cells ca.toArray 29)).heap.size = w.heap.size + 1 by simp] at n2
  have MA := hide n1'
  have MB := hide n2
  have B0 := hide (chain o1 o2)
  clear hx hy ha hb n1 n2 n1' o1 o2
  go_enter Try.func3, Try.ntmps3
  go_upto_region 1 with fail
  generalize (w.alloc (.cells ca.toArray 29)).alloc (.cells cb.toArray 29) = W0 at *
  refine wp_region_list ?_
  refine wpList_tail (pre := [{ dst := some 13, op := Go.Op.call { callee := Go.Callee.value (Go.Operand.func 5), args := #[], argTypes := #[] }, type := 35, pos := "law.go:64", after := #[], guard := none }, { dst := some 12, op := Go.Op.move (Go.Operand.tmp 13), type := 35, pos := "law.go:64", after := #[{ on := 0, ground := Go.Ground.data }], guard := none }, { dst := some 14, op := Go.Op.extract (Go.Operand.tmp 12) 0, type := 34, pos := "law.go:64", after := #[{ on := 1, ground := Go.Ground.data }], guard := none }, { dst := some 15, op := Go.Op.extract (Go.Operand.tmp 12) 1, type := 29, pos := "law.go:64", after := #[{ on := 1, ground := Go.Ground.data }, { on := 6, ground := Go.Ground.gcOnly Go.Departure.lateStores }], guard := none }, { dst := some 5, op := Go.Op.alloc 34, type := 0, pos := "law.go:64", after := #[], guard := none }, { dst := some 6, op := Go.Op.alloc 29, type := 0, pos := "law.go:64", after := #[], guard := none }]) _ ?_
  intro tl htl
  have HTL := hide htl
  clear htl
  simp only [List.cons_append, List.nil_append]
  go_wp2_with fail
  refine Calls.mono (some_marked W0) ?_
  rintro e w1 ⟨x2, x3, x4, x6, cz, sz, rfl, hz, b1, hone, hcl⟩
  have HONE := hide hone
  have HCL := hide hcl
  clear hone hcl
  have HZ := hide hz
  have HIZ : Hid ((Try.prog.info? 29).map (·.size) = some cz.length) := by unfold Hid; rw [state_cells hz]; exact infoState
  have B1a := hide (chain B0.out b1)
  have KA := hide (vrange_below MA.out b1)
  have KB := hide (vrange_below MB.out b1)
  clear b1 hz MA MB B0
  obtain ⟨z3, m3, k3, _, z4, m4, k4, _, z5, m5, k5, _, z6, m6, k6, _, z7, m7, k7, _, z8, m8, k8, _, z9, m9, k9, _, hq, hjunk⟩ := HZ.out
  clear hjunk
  subst hq
  have NP := bl_alloc w1 #[.int .i64 0, .bool false, .slice none 0 0, .slice none 0 0, .slice none 0 0, .int .i64 0, .slice none 0 0] 34
  have P1 := one_below w1 (.cells #[.int .i64 0, .bool false, .slice none 0 0, .slice none 0 0, .slice none 0 0, .int .i64 0, .slice none 0 0] 34)
  have P2 := one_below (w1.alloc (.cells #[.int .i64 0, .bool false, .slice none 0 0, .slice none 0 0, .slice none 0 0, .int .i64 0, .slice none 0 0] 34)) (.cells #[.int .i64 0, .int .i64 0, .int .i64 0, .slice none 0 0, .slice none 0 0, .slice none 0 0, .slice none 0 0, .slice none 0 0, .slice none 0 0, .slice none 0 0] 29)
  have NS := bl_alloc (w1.alloc (.cells #[.int .i64 0, .bool false, .slice none 0 0, .slice none 0 0, .slice none 0 0, .int .i64 0, .slice none 0 0] 34)) #[.int .i64 0, .int .i64 0, .int .i64 0, .slice none 0 0, .slice none 0 0, .slice none 0 0, .slice none 0 0, .slice none 0 0, .slice none 0 0, .slice none 0 0] 29
  rw [show (w1.alloc (.cells #[.int .i64 0, .bool false, .slice none 0 0, .slice none 0 0, .slice none 0 0, .int .i64 0, .slice none 0 0] 34)).heap.size = w1.heap.size + 1 by simp] at NS
  have NP2 := hide (NP.below (by simp) P2)
  have NS2 := hide NS
  have PB := hide (chain P1 P2)
  clear NP P1 P2 NS
  go_wp2_with fail
  have htl := HTL.out
  clear HTL
  subst htl
  generalize (w1.alloc (.cells #[.int .i64 0, .bool false, .slice none 0 0, .slice none 0 0, .slice none 0 0, .int .i64 0, .slice none 0 0] 34)).alloc (.cells #[.int .i64 0, .int .i64 0, .int .i64 0, .slice none 0 0, .slice none 0 0, .slice none 0 0, .slice none 0 0, .slice none 0 0, .slice none 0 0, .slice none 0 0] 29) = W2 at *
  have g0 := NP2.out.cell 0 _ rfl
  have f0 := NP2.out.free 0
  have g1 := NP2.out.cell 1 _ rfl
  have f1 := NP2.out.free 1
  have g2 := NP2.out.cell 2 _ rfl
  have f2 := NP2.out.free 2
  have g3 := NP2.out.cell 3 _ rfl
  have f3 := NP2.out.free 3
  have g4 := NP2.out.cell 4 _ rfl
  have f4 := NP2.out.free 4
  have g5 := NP2.out.cell 5 _ rfl
  have f5 := NP2.out.free 5
  have g6 := NP2.out.cell 6 _ rfl
  have f6 := NP2.out.free 6
  have e0 := NS2.out.cell 0 _ rfl
  have d0 := NS2.out.free 0
  have e1 := NS2.out.cell 1 _ rfl
  have d1 := NS2.out.free 1
  have e2 := NS2.out.cell 2 _ rfl
  have d2 := NS2.out.free 2
  have e3 := NS2.out.cell 3 _ rfl
  have d3 := NS2.out.free 3
  have e4 := NS2.out.cell 4 _ rfl
  have d4 := NS2.out.free 4
  have e5 := NS2.out.cell 5 _ rfl
  have d5 := NS2.out.free 5
  have e6 := NS2.out.cell 6 _ rfl
  have d6 := NS2.out.free 6
  have e7 := NS2.out.cell 7 _ rfl
  have d7 := NS2.out.free 7
  have e8 := NS2.out.cell 8 _ rfl
  have d8 := NS2.out.free 8
  have e9 := NS2.out.cell 9 _ rfl
  have d9 := NS2.out.free 9
  go_upto_region 2 with fail
  clear g0 f0 g1 f1 g2 f2 g3 f3 g4 f4 g5 f5 g6 f6 e0 d0 e1 d1 e2 d2 e3 d3 e4 d4 e5 d5 e6 d6 e7 d7 e8 d8 e9 d9
  obtain ⟨t1, t2, t3, t4⟩ := seven_sets (w0 := w1) (B := w1.heap.size) PB.out (Nat.le_refl _) NP2.out rfl (.int .i64 7) (.bool false) (.slice x2 1 1) (.slice x3 2 2) (.slice x4 1 1) (.int .i64 2) (.slice x6 1 1)
  obtain ⟨u1, u2, u3, u4⟩ := ten_sets (w0 := w1) (B := w1.heap.size) t1 (by omega) (bl_same NS2.out (t3 _ (by omega))) rfl (.int .i64 sz.id) (.int .i64 sz.frame) (.int .i64 sz.epoch) (.slice z3 m3 k3) (.slice z4 m4 k4) (.slice z5 m5 k5) (.slice z6 m6 k6) (.slice z7 m7 k7) (.slice z8 m8 k8) (.slice z9 m9 k9)
  have NA := hide (vrange_below KA.out u1)
  have NB := hide (vrange_below KB.out u1)
  have B1 := hide (chain B1a.out u1)
  have SZ := hide (HZ.out.below u1)
  have NZ : Hid (World.rangeAt (((((((((((((((((W2.setCell ⟨w1.heap.size, 0, none⟩ (.int .i64 7)).setCell ⟨w1.heap.size, 1, none⟩ (.bool false)).setCell ⟨w1.heap.size, 2, none⟩ (.slice x2 1 1)).setCell ⟨w1.heap.size, 3, none⟩ (.slice x3 2 2)).setCell ⟨w1.heap.size, 4, none⟩ (.slice x4 1 1)).setCell ⟨w1.heap.size, 5, none⟩ (.int .i64 2)).setCell ⟨w1.heap.size, 6, none⟩ (.slice x6 1 1)).setCell ⟨w1.heap.size + 1, 0, none⟩ (.int .i64 sz.id)).setCell ⟨w1.heap.size + 1, 1, none⟩ (.int .i64 sz.frame)).setCell ⟨w1.heap.size + 1, 2, none⟩ (.int .i64 sz.epoch)).setCell ⟨w1.heap.size + 1, 3, none⟩ (.slice z3 m3 k3)).setCell ⟨w1.heap.size + 1, 4, none⟩ (.slice z4 m4 k4)).setCell ⟨w1.heap.size + 1, 5, none⟩ (.slice z5 m5 k5)).setCell ⟨w1.heap.size + 1, 6, none⟩ (.slice z6 m6 k6)).setCell ⟨w1.heap.size + 1, 7, none⟩ (.slice z7 m7 k7)).setCell ⟨w1.heap.size + 1, 8, none⟩ (.slice z8 m8 k8)).setCell ⟨w1.heap.size + 1, 9, none⟩ (.slice z9 m9 k9)) (w1.heap.size + 1) 0 [.int .i64 sz.id, .int .i64 sz.frame, .int .i64 sz.epoch, .slice z3 m3 k3, .slice z4 m4 k4, .slice z5 m5 k5, .slice z6 m6 k6, .slice z7 m7 k7, .slice z8 m8 k8, .slice z9 m9 k9]) := bl_range u2
  clear t1 t2 t3 t4 u1 u2 u3 u4 KA KB B1a NP2 NS2 PB HZ
  generalize (((((((((((((((((W2.setCell ⟨w1.heap.size, 0, none⟩ (.int .i64 7)).setCell ⟨w1.heap.size, 1, none⟩ (.bool false)).setCell ⟨w1.heap.size, 2, none⟩ (.slice x2 1 1)).setCell ⟨w1.heap.size, 3, none⟩ (.slice x3 2 2)).setCell ⟨w1.heap.size, 4, none⟩ (.slice x4 1 1)).setCell ⟨w1.heap.size, 5, none⟩ (.int .i64 2)).setCell ⟨w1.heap.size, 6, none⟩ (.slice x6 1 1)).setCell ⟨w1.heap.size + 1, 0, none⟩ (.int .i64 sz.id)).setCell ⟨w1.heap.size + 1, 1, none⟩ (.int .i64 sz.frame)).setCell ⟨w1.heap.size + 1, 2, none⟩ (.int .i64 sz.epoch)).setCell ⟨w1.heap.size + 1, 3, none⟩ (.slice z3 m3 k3)).setCell ⟨w1.heap.size + 1, 4, none⟩ (.slice z4 m4 k4)).setCell ⟨w1.heap.size + 1, 5, none⟩ (.slice z5 m5 k5)).setCell ⟨w1.heap.size + 1, 6, none⟩ (.slice z6 m6 k6)).setCell ⟨w1.heap.size + 1, 7, none⟩ (.slice z7 m7 k7)).setCell ⟨w1.heap.size + 1, 8, none⟩ (.slice z8 m8 k8)).setCell ⟨w1.heap.size + 1, 9, none⟩ (.slice z9 m9 k9)) = W1 at *
  generalize hcz : ([.int .i64 sz.id, .int .i64 sz.frame, .int .i64 sz.epoch, .slice z3 m3 k3, .slice z4 m4 k4, .slice z5 m5 k5, .slice z6 m6 k6, .slice z7 m7 k7, .slice z8 m8 k8, .slice z9 m9 k9] : List Value) = cz at *
  clear hcz
  refine wp_region_list ?_
  refine wpList_load_g (op := { dst := some 16, op := Go.Op.load 29 (Go.Operand.tmp 6), type := 29, pos := "law.go:65", after := #[], guard := none }) (by rfl) 29 (.tmp 6) rfl (w1.heap.size + 1) (0) rfl cz _ NZ.out HUS.out rfl HIZ.out ?_
  try simp only [Act.put, List.setIfInBounds_toArray, List.set_cons_zero, List.set_cons_succ]
  refine wpList_tail (pre := [{ dst := some 17, op := Go.Op.call { callee := Go.Callee.value (Go.Operand.func 6), args := #[Go.Operand.tmp 16], argTypes := #[29] }, type := 29, pos := "law.go:65", after := #[{ on := 0, ground := Go.Ground.data }], guard := none }, { dst := some 7, op := Go.Op.alloc 29, type := 0, pos := "law.go:65", after := #[], guard := none }]) _ ?_
  intro tl htl
  have HTL := hide htl
  clear htl
  simp only [List.cons_append, List.nil_append]
  go_wp2_with fail
  refine Calls.mono (rcopy_any W1 sz cz SZ.out) ?_
  rintro e w2 ⟨ct, a9, n9, c9, r9, rfl, hc9, own9, kr9, fr9, b2⟩
  have st0 : Sr w2 ct sz := fr9 w2 sz.pages r9 (fun _ _ _ => rfl) kr9
  have hn9 : 0 < n9 := by have := kr9.size; rw [HONE.out] at this; omega
  obtain ⟨g9, cap9, e9, hg9, hg9'⟩ := own9.form hn9
  simp only [Value.slice.injEq, true_and] at e9
  obtain ⟨rfl, rfl⟩ := e9
  obtain ⟨hn1, pc1, pf1, s', sr', ns', as'⟩ := poke_state HONE.out HCL.out own9 kr9 fr9
  subst hn1
  have HNS := hide ns'
  have HAS := hide as'
  have SR' := hide sr'
  have PC := hide pc1
  have PF := hide pf1
  have HG := hide hg9
  have HG' := hide hg9'
  have BC := hide b2
  have HIT : Hid ((Try.prog.info? 29).map (·.size) = some ct.length) := by unfold Hid; rw [state_cells st0]; exact infoState
  obtain ⟨z3, m3, k3, _, z4, m4, k4, _, z5, m5, k5, _, z6, m6, k6, _, z7, m7, k7, _, z8, m8, k8, _, z9, m9, k9, _, hq, hjunk⟩ := st0
  clear hjunk
  subst hq
  obtain ⟨rfl, rfl, rfl⟩ : z9 = some ⟨g9, 0, none⟩ ∧ m9 = 1 ∧ c9 = k9 := by
    have h := Option.some.inj hc9
    injection h with h1 h2 h3
    exact ⟨h1, h2, h3.symm⟩
  clear hc9 own9 kr9 fr9 b2 hn9 ns' as' sr' pc1 pf1 hg9 hg9'
  have NS2 := hide (bl_alloc w2 #[.int .i64 0, .int .i64 0, .int .i64 0, .slice none 0 0, .slice none 0 0, .slice none 0 0, .slice none 0 0, .slice none 0 0, .slice none 0 0, .slice none 0 0] 29)
  have P2 := hide (one_below w2 (.cells #[.int .i64 0, .int .i64 0, .int .i64 0, .slice none 0 0, .slice none 0 0, .slice none 0 0, .slice none 0 0, .slice none 0 0, .slice none 0 0, .slice none 0 0] 29))
  go_wp2_with fail
  have htl := HTL.out
  clear HTL
  subst htl
  generalize w2.alloc (.cells #[.int .i64 0, .int .i64 0, .int .i64 0, .slice none 0 0, .slice none 0 0, .slice none 0 0, .slice none 0 0, .slice none 0 0, .slice none 0 0, .slice none 0 0] 29) = U2 at *
  have e0 := NS2.out.cell 0 _ rfl
  have d0 := NS2.out.free 0
  have e1 := NS2.out.cell 1 _ rfl
  have d1 := NS2.out.free 1
  have e2 := NS2.out.cell 2 _ rfl
  have d2 := NS2.out.free 2
  have e3 := NS2.out.cell 3 _ rfl
  have d3 := NS2.out.free 3
  have e4 := NS2.out.cell 4 _ rfl
  have d4 := NS2.out.free 4
  have e5 := NS2.out.cell 5 _ rfl
  have d5 := NS2.out.free 5
  have e6 := NS2.out.cell 6 _ rfl
  have d6 := NS2.out.free 6
  have e7 := NS2.out.cell 7 _ rfl
  have d7 := NS2.out.free 7
  have e8 := NS2.out.cell 8 _ rfl
  have d8 := NS2.out.free 8
  have e9 := NS2.out.cell 9 _ rfl
  have d9 := NS2.out.free 9
  go_upto_region 3 with fail
  clear e0 d0 e1 d1 e2 d2 e3 d3 e4 d4 e5 d5 e6 d6 e7 d7 e8 d8 e9 d9
  obtain ⟨u1, u2, u3, u4⟩ := ten_sets (w0 := w2) (B := w2.heap.size) P2.out (Nat.le_refl _) NS2.out rfl (.int .i64 sz.id) (.int .i64 sz.frame) (.int .i64 sz.epoch) (.slice z3 m3 k3) (.slice z4 m4 k4) (.slice z5 m5 k5) (.slice z6 m6 k6) (.slice z7 m7 k7) (.slice z8 m8 k8) (.slice (some ⟨g9, 0, none⟩) 1 c9)
  have D2 := hide u1
  have BX2 := hide u2
  clear u1 u2 u3 u4 NS2 P2
  generalize ((((((((((U2.setCell ⟨w2.heap.size, 0, none⟩ (.int .i64 sz.id)).setCell ⟨w2.heap.size, 1, none⟩ (.int .i64 sz.frame)).setCell ⟨w2.heap.size, 2, none⟩ (.int .i64 sz.epoch)).setCell ⟨w2.heap.size, 3, none⟩ (.slice z3 m3 k3)).setCell ⟨w2.heap.size, 4, none⟩ (.slice z4 m4 k4)).setCell ⟨w2.heap.size, 5, none⟩ (.slice z5 m5 k5)).setCell ⟨w2.heap.size, 6, none⟩ (.slice z6 m6 k6)).setCell ⟨w2.heap.size, 7, none⟩ (.slice z7 m7 k7)).setCell ⟨w2.heap.size, 8, none⟩ (.slice z8 m8 k8)).setCell ⟨w2.heap.size, 9, none⟩ (.slice (some ⟨g9, 0, none⟩) 1 c9)) = V2 at *
  have T9 := BX2.out.cell 9 _ rfl
  generalize hct : ([.int .i64 sz.id, .int .i64 sz.frame, .int .i64 sz.epoch, .slice z3 m3 k3, .slice z4 m4 k4, .slice z5 m5 k5, .slice z6 m6 k6, .slice z7 m7 k7, .slice z8 m8 k8, .slice (some ⟨g9, 0, none⟩) 1 c9] : List Value) = ct at *
  clear hct
  have pc3 := cellB PC.out D2.out
  have pf3 := (D2.out.frozen (p := ⟨g9, 1, none⟩) HG'.out).trans PF.out
  go_upto_region 4 with fail
  clear pc3 pf3 T9
  have p4 : Below W1.heap.size W1 (V2.setCell ⟨g9, 1, none⟩ (.bool true)) := (chain BC.out D2.out).setCell (p := ⟨g9, 1, none⟩) HG.out _
  have NA4 := hide (vrange_below NA.out p4)
  have NB4 := hide (vrange_below NB.out p4)
  have NZ4 := hide (vrange_below NZ.out p4)
  have SZ4 := hide (SZ.out.below p4)
  have B4 := hide (chain B1.out p4)
  have NT4 := hide (bl_range (BX2.out.far (g' := g9) (k := 1) (u := .bool true) (by have := HG'.out; omega)))
  have ST4 := hide (SR'.out.below (poke_below ⟨g9, 1, none⟩ (.bool true) D2.out))
  clear p4 NA NB NZ SZ B1 BX2 SR' D2 BC HG HG' PC PF
  generalize V2.setCell ⟨g9, 1, none⟩ (.bool true) = W4 at *
  clear HONE HCL
  have Css : Hid (∀ W, Below W4.heap.size W4 W → Calls Try.prog 7 #[.agg cz.toArray, .agg cz.toArray] W fun e w' => e = .returned (.bool true) ∧ Below W.heap.size W w') := fun W hb => by
    have := same_any sz sz cz cz W (SZ4.out.below hb).sv (SZ4.out.below hb).sv
    rw [eqb_yes (same_self sz)] at this
    exact this
  have Cst : Hid (∀ W, Below W4.heap.size W4 W → Calls Try.prog 7 #[.agg cz.toArray, .agg ct.toArray] W fun e w' => e = .returned (.bool false) ∧ Below W.heap.size W w') := fun W hb => by
    have := same_any sz s' cz ct W (SZ4.out.below hb).sv (ST4.out.below hb).sv
    rw [eqb_no HNS.out] at this
    exact this
  have Ast : Hid (∀ W, Below W4.heap.size W4 W → Calls Try.prog 8 #[.agg cz.toArray, .agg ct.toArray] W fun e w' => e = .returned (.bool true) ∧ Below W.heap.size W w') := fun W hb => by
    have := alike_any sz s' cz ct W (SZ4.out.below hb).sv (ST4.out.below hb).sv
    rw [eqb_yes HAS.out] at this
    exact this
  refine wp_region_list ?_
  refine wpList_load_g (op := { dst := some 22, op := Go.Op.load 29 (Go.Operand.tmp 6), type := 29, pos := "law.go:67", after := #[], guard := none }) (by rfl) 29 (.tmp 6) rfl (w1.heap.size + 1) (0) rfl cz _ NZ4.out HUS.out rfl HIZ.out ?_
  try simp only [Act.put, List.setIfInBounds_toArray, List.set_cons_zero, List.set_cons_succ]
  refine wpList_load_g (op := { dst := some 23, op := Go.Op.load 29 (Go.Operand.tmp 6), type := 29, pos := "law.go:67", after := #[], guard := none }) (by rfl) 29 (.tmp 6) rfl (w1.heap.size + 1) (0) rfl cz _ NZ4.out HUS.out rfl HIZ.out ?_
  try simp only [Act.put, List.setIfInBounds_toArray, List.set_cons_zero, List.set_cons_succ]
  refine wpList_tail (pre := [{ dst := some 24, op := Go.Op.call { callee := Go.Callee.value (Go.Operand.func 7), args := #[Go.Operand.tmp 22, Go.Operand.tmp 23], argTypes := #[29, 29] }, type := 4, pos := "law.go:67", after := #[{ on := 0, ground := Go.Ground.data }, { on := 1, ground := Go.Ground.data }], guard := none }, { dst := some 25, op := Go.Op.unOp Go.UnOp.not 4 (Go.Operand.tmp 24), type := 4, pos := "law.go:67", after := #[{ on := 2, ground := Go.Ground.data }], guard := none }, { dst := some 26, op := Go.Op.move (Go.Operand.tmp 25), type := 4, pos := "law.go:67", after := #[{ on := 3, ground := Go.Ground.data }, { on := 2, ground := Go.Ground.chain }], guard := none }]) _ ?_
  intro tl htl
  have HTL := hide htl
  clear htl
  simp only [List.cons_append, List.nil_append]
  go_wp2_with fail
  refine Calls.mono (Css.out _ (Below.refl _ _)) ?_
  rintro e y41 ⟨rfl, b41⟩
  have F41 := hide (chain (Below.refl _ _) b41)
  clear b41
  go_wp2_with fail
  have htl := HTL.out
  clear HTL
  subst htl
  have RZ1 := hide (vrange_below NZ4.out F41.out)
  have RT1 := hide (vrange_below NT4.out F41.out)
  refine wpList_load_g (op := { dst := some 27, op := Go.Op.load 29 (Go.Operand.tmp 6), type := 29, pos := "law.go:67", after := #[{ on := 4, ground := Go.Ground.guard }], guard := some (4, false) }) (by rfl) 29 (.tmp 6) rfl (w1.heap.size + 1) (0) rfl cz _ RZ1.out HUS.out rfl HIZ.out ?_
  try simp only [Act.put, List.setIfInBounds_toArray, List.set_cons_zero, List.set_cons_succ]
  refine wpList_load_g (op := { dst := some 28, op := Go.Op.load 29 (Go.Operand.tmp 7), type := 29, pos := "law.go:67", after := #[{ on := 4, ground := Go.Ground.guard }], guard := some (4, false) }) (by rfl) 29 (.tmp 7) rfl w2.heap.size (0) rfl ct _ RT1.out HUS.out rfl HIT.out ?_
  try simp only [Act.put, List.setIfInBounds_toArray, List.set_cons_zero, List.set_cons_succ]
  refine wpList_tail (pre := [{ dst := some 29, op := Go.Op.call { callee := Go.Callee.value (Go.Operand.func 7), args := #[Go.Operand.tmp 27, Go.Operand.tmp 28], argTypes := #[29, 29] }, type := 4, pos := "law.go:67", after := #[{ on := 5, ground := Go.Ground.data }, { on := 6, ground := Go.Ground.data }, { on := 4, ground := Go.Ground.chain }, { on := 4, ground := Go.Ground.guard }], guard := some (4, false) }, { dst := some 30, op := Go.Op.pick (Go.Operand.tmp 26) (Go.Operand.const (Go.Value.bool true)) (Go.Operand.tmp 29), type := 4, pos := "law.go:67", after := #[{ on := 4, ground := Go.Ground.data }, { on := 7, ground := Go.Ground.data }], guard := none }, { dst := some 31, op := Go.Op.move (Go.Operand.tmp 30), type := 4, pos := "law.go:67", after := #[{ on := 8, ground := Go.Ground.data }, { on := 7, ground := Go.Ground.chain }], guard := none }]) _ ?_
  intro tl htl
  have HTL := hide htl
  clear htl
  simp only [List.cons_append, List.nil_append]
  go_wp2_with fail
  refine Calls.mono (Cst.out _ F41.out) ?_
  rintro e y42 ⟨rfl, b42⟩
  have F42 := hide (chain F41.out b42)
  clear b42
  go_wp2_with fail
  have htl := HTL.out
  clear HTL
  subst htl
  have RZ2 := hide (vrange_below NZ4.out F42.out)
  have RT2 := hide (vrange_below NT4.out F42.out)
  refine wpList_load_g (op := { dst := some 32, op := Go.Op.load 29 (Go.Operand.tmp 6), type := 29, pos := "law.go:67", after := #[{ on := 9, ground := Go.Ground.guard }], guard := some (9, false) }) (by rfl) 29 (.tmp 6) rfl (w1.heap.size + 1) (0) rfl cz _ RZ2.out HUS.out rfl HIZ.out ?_
  try simp only [Act.put, List.setIfInBounds_toArray, List.set_cons_zero, List.set_cons_succ]
  refine wpList_load_g (op := { dst := some 33, op := Go.Op.load 29 (Go.Operand.tmp 7), type := 29, pos := "law.go:67", after := #[{ on := 9, ground := Go.Ground.guard }], guard := some (9, false) }) (by rfl) 29 (.tmp 7) rfl w2.heap.size (0) rfl ct _ RT2.out HUS.out rfl HIT.out ?_
  try simp only [Act.put, List.setIfInBounds_toArray, List.set_cons_zero, List.set_cons_succ]
  go_wp2_with fail
  refine Calls.mono (Ast.out _ F42.out) ?_
  rintro e y43 ⟨rfl, b43⟩
  have F43 := hide (chain F42.out b43)
  clear b43
  have B5 := hide (chain B4.out F43.out)
  have NA5 := hide (vrange_below NA4.out F43.out)
  have NB5 := hide (vrange_below NB4.out F43.out)
  clear Css Cst Ast RZ1 RZ2 RT1 RT2 F41 F42 F43 NZ4 NT4 SZ4 ST4 NA4 NB4 B4 HNS HAS
  go_upto_region 6 with fail
  refine wp_region_list ?_
  refine wpList_load_g (op := { dst := some 37, op := Go.Op.load 29 (Go.Operand.tmp 2), type := 29, pos := "law.go:70", after := #[], guard := none }) (by rfl) 29 (.tmp 2) rfl w.heap.size (0) rfl ca _ NA5.out HUS.out rfl HIA.out ?_
  try simp only [Act.put, List.setIfInBounds_toArray, List.set_cons_zero, List.set_cons_succ]
  refine wpList_load_g (op := { dst := some 38, op := Go.Op.load 29 (Go.Operand.tmp 3), type := 29, pos := "law.go:70", after := #[], guard := none }) (by rfl) 29 (.tmp 3) rfl (w.heap.size + 1) (0) rfl cb _ NB5.out HUS.out rfl HIB.out ?_
  try simp only [Act.put, List.setIfInBounds_toArray, List.set_cons_zero, List.set_cons_succ]
  go_wp2_with fail
  refine Calls.mono (RSab.out _ B5.out) ?_
  rintro e w6 ⟨rfl, b6⟩
  have B6 := hide (chain B5.out b6)
  have NA6 := hide (vrange_below NA5.out b6)
  have NB6 := hide (vrange_below NB5.out b6)
  clear b6 NA5 NB5 B5
  go_upto_region 7 with fail
  refine wp_region_list ?_
  refine wpList_load_g (op := { dst := some 40, op := Go.Op.load 29 (Go.Operand.tmp 2), type := 29, pos := "law.go:71", after := #[], guard := none }) (by rfl) 29 (.tmp 2) rfl w.heap.size (0) rfl ca _ NA6.out HUS.out rfl HIA.out ?_
  try simp only [Act.put, List.setIfInBounds_toArray, List.set_cons_zero, List.set_cons_succ]
  refine wpList_load_g (op := { dst := some 41, op := Go.Op.load 29 (Go.Operand.tmp 3), type := 29, pos := "law.go:71", after := #[], guard := none }) (by rfl) 29 (.tmp 3) rfl (w.heap.size + 1) (0) rfl cb _ NB6.out HUS.out rfl HIB.out ?_
  try simp only [Act.put, List.setIfInBounds_toArray, List.set_cons_zero, List.set_cons_succ]
  go_wp2_with fail
  refine Calls.mono (RAab.out _ B6.out) ?_
  rintro e w7 ⟨rfl, b7⟩
  have B7 := hide (chain B6.out b7)
  have NA7 := hide (vrange_below NA6.out b7)
  have NB7 := hide (vrange_below NB6.out b7)
  clear b7 NA6 NB6 B6
  go_upto_region 8 with fail
  refine wp_region_list ?_
  refine wpList_load_g (op := { dst := some 43, op := Go.Op.load 29 (Go.Operand.tmp 2), type := 29, pos := "law.go:72", after := #[], guard := none }) (by rfl) 29 (.tmp 2) rfl w.heap.size (0) rfl ca _ NA7.out HUS.out rfl HIA.out ?_
  try simp only [Act.put, List.setIfInBounds_toArray, List.set_cons_zero, List.set_cons_succ]
  refine wpList_tail (pre := [{ dst := some 44, op := Go.Op.call { callee := Go.Callee.value (Go.Operand.func 6), args := #[Go.Operand.tmp 43], argTypes := #[29] }, type := 29, pos := "law.go:72", after := #[{ on := 0, ground := Go.Ground.data }], guard := none }, { dst := some 10, op := Go.Op.alloc 29, type := 0, pos := "law.go:72", after := #[], guard := none }]) _ ?_
  intro tl htl
  have HTL := hide htl
  clear htl
  simp only [List.cons_append, List.nil_append]
  go_wp2_with fail
  refine Calls.mono (rcopy_any w7 sa ca (HA.out.below B7.out)) ?_
  rintro e w8 ⟨cw, a9', n9', c9', r9', rfl, hc9', own9', kr9', fr9', b8⟩
  have sw0 : Sr w8 cw sa := fr9' w8 sa.pages r9' (fun _ _ _ => rfl) kr9'
  have SW8 := hide sw0
  have B8 := hide (chain B7.out b8)
  have NA8 := hide (vrange_below NA7.out b8)
  have NB8 := hide (vrange_below NB7.out b8)
  have HIW : Hid ((Try.prog.info? 29).map (·.size) = some cw.length) := by unfold Hid; rw [state_cells sw0]; exact infoState
  clear hc9' own9' kr9' fr9' b8 NA7 NB7 B7
  obtain ⟨z3, m3, k3, _, z4, m4, k4, _, z5, m5, k5, _, z6, m6, k6, _, z7, m7, k7, _, z8, m8, k8, _, z9, m9, k9, _, hq, hjunk⟩ := sw0
  clear hjunk
  subst hq
  have NS8 := hide (bl_alloc w8 #[.int .i64 0, .int .i64 0, .int .i64 0, .slice none 0 0, .slice none 0 0, .slice none 0 0, .slice none 0 0, .slice none 0 0, .slice none 0 0, .slice none 0 0] 29)
  have P8 := hide (one_below w8 (.cells #[.int .i64 0, .int .i64 0, .int .i64 0, .slice none 0 0, .slice none 0 0, .slice none 0 0, .slice none 0 0, .slice none 0 0, .slice none 0 0, .slice none 0 0] 29))
  go_wp2_with fail
  have htl := HTL.out
  clear HTL
  subst htl
  generalize w8.alloc (.cells #[.int .i64 0, .int .i64 0, .int .i64 0, .slice none 0 0, .slice none 0 0, .slice none 0 0, .slice none 0 0, .slice none 0 0, .slice none 0 0, .slice none 0 0] 29) = U8 at *
  have e0 := NS8.out.cell 0 _ rfl
  have d0 := NS8.out.free 0
  have e1 := NS8.out.cell 1 _ rfl
  have d1 := NS8.out.free 1
  have e2 := NS8.out.cell 2 _ rfl
  have d2 := NS8.out.free 2
  have e3 := NS8.out.cell 3 _ rfl
  have d3 := NS8.out.free 3
  have e4 := NS8.out.cell 4 _ rfl
  have d4 := NS8.out.free 4
  have e5 := NS8.out.cell 5 _ rfl
  have d5 := NS8.out.free 5
  have e6 := NS8.out.cell 6 _ rfl
  have d6 := NS8.out.free 6
  have e7 := NS8.out.cell 7 _ rfl
  have d7 := NS8.out.free 7
  have e8 := NS8.out.cell 8 _ rfl
  have d8 := NS8.out.free 8
  have e9 := NS8.out.cell 9 _ rfl
  have d9 := NS8.out.free 9
  go_upto_region 9 with fail
  clear e0 d0 e1 d1 e2 d2 e3 d3 e4 d4 e5 d5 e6 d6 e7 d7 e8 d8 e9 d9
  obtain ⟨u1, u2, u3, u4⟩ := ten_sets (w0 := w8) (B := w8.heap.size) P8.out (Nat.le_refl _) NS8.out rfl (.int .i64 sa.id) (.int .i64 sa.frame) (.int .i64 sa.epoch) (.slice z3 m3 k3) (.slice z4 m4 k4) (.slice z5 m5 k5) (.slice z6 m6 k6) (.slice z7 m7 k7) (.slice z8 m8 k8) (.slice z9 m9 k9)
  have D8 := hide u1
  have BX8 := hide u2
  clear u1 u2 u3 u4 NS8 P8
  generalize ((((((((((U8.setCell ⟨w8.heap.size, 0, none⟩ (.int .i64 sa.id)).setCell ⟨w8.heap.size, 1, none⟩ (.int .i64 sa.frame)).setCell ⟨w8.heap.size, 2, none⟩ (.int .i64 sa.epoch)).setCell ⟨w8.heap.size, 3, none⟩ (.slice z3 m3 k3)).setCell ⟨w8.heap.size, 4, none⟩ (.slice z4 m4 k4)).setCell ⟨w8.heap.size, 5, none⟩ (.slice z5 m5 k5)).setCell ⟨w8.heap.size, 6, none⟩ (.slice z6 m6 k6)).setCell ⟨w8.heap.size, 7, none⟩ (.slice z7 m7 k7)).setCell ⟨w8.heap.size, 8, none⟩ (.slice z8 m8 k8)).setCell ⟨w8.heap.size, 9, none⟩ (.slice z9 m9 k9)) = V8 at *
  generalize hcw : ([.int .i64 sa.id, .int .i64 sa.frame, .int .i64 sa.epoch, .slice z3 m3 k3, .slice z4 m4 k4, .slice z5 m5 k5, .slice z6 m6 k6, .slice z7 m7 k7, .slice z8 m8 k8, .slice z9 m9 k9] : List Value) = cw at *
  clear hcw
  have B9 := hide (chain B8.out D8.out)
  have NA9 := hide (vrange_below NA8.out D8.out)
  have NB9 := hide (vrange_below NB8.out D8.out)
  have SW9 := hide (SW8.out.below D8.out)
  have NW9 := hide (bl_range BX8.out)
  clear NA8 NB8 SW8 BX8 D8 B8
  refine wp_region_list ?_
  refine wpList_load_g (op := { dst := some 45, op := Go.Op.load 29 (Go.Operand.tmp 2), type := 29, pos := "law.go:73", after := #[], guard := none }) (by rfl) 29 (.tmp 2) rfl w.heap.size (0) rfl ca _ NA9.out HUS.out rfl HIA.out ?_
  try simp only [Act.put, List.setIfInBounds_toArray, List.set_cons_zero, List.set_cons_succ]
  refine wpList_load_g (op := { dst := some 46, op := Go.Op.load 29 (Go.Operand.tmp 3), type := 29, pos := "law.go:73", after := #[], guard := none }) (by rfl) 29 (.tmp 3) rfl (w.heap.size + 1) (0) rfl cb _ NB9.out HUS.out rfl HIB.out ?_
  try simp only [Act.put, List.setIfInBounds_toArray, List.set_cons_zero, List.set_cons_succ]
  refine wpList_tail (pre := [{ dst := some 47, op := Go.Op.call { callee := Go.Callee.value (Go.Operand.func 7), args := #[Go.Operand.tmp 45, Go.Operand.tmp 46], argTypes := #[29, 29] }, type := 4, pos := "law.go:73", after := #[{ on := 0, ground := Go.Ground.data }, { on := 1, ground := Go.Ground.data }], guard := none }, { dst := some 48, op := Go.Op.move (Go.Operand.tmp 8), type := 4, pos := "law.go:73", after := #[], guard := none }, { dst := some 49, op := Go.Op.binOp Go.BinOp.neq 4 (Go.Operand.tmp 47) (Go.Operand.tmp 48) 4, type := 4, pos := "law.go:73", after := #[{ on := 2, ground := Go.Ground.data }, { on := 3, ground := Go.Ground.data }], guard := none }, { dst := some 50, op := Go.Op.move (Go.Operand.tmp 49), type := 4, pos := "law.go:73", after := #[{ on := 4, ground := Go.Ground.data }, { on := 2, ground := Go.Ground.chain }], guard := none }]) _ ?_
  intro tl htl
  have HTL := hide htl
  clear htl
  simp only [List.cons_append, List.nil_append]
  go_wp2_with fail
  refine Calls.mono (CSab.out _ B9.out) ?_
  rintro e w9 ⟨rfl, b9⟩
  have F9 := hide b9
  have NA9' := hide (vrange_below NA9.out b9)
  have NB9' := hide (vrange_below NB9.out b9)
  have hxx : (x != x) = false := by cases x <;> rfl
  have hyy : (y != y) = false := by cases y <;> rfl
  clear b9
  go_wp2_with fail
  have htl := HTL.out
  clear HTL
  subst htl
  refine wpList_load_g (op := { dst := some 51, op := Go.Op.load 29 (Go.Operand.tmp 2), type := 29, pos := "law.go:73", after := #[{ on := 5, ground := Go.Ground.guard }], guard := some (5, false) }) (by rfl) 29 (.tmp 2) rfl w.heap.size (0) rfl ca _ NA9'.out HUS.out rfl HIA.out ?_
  try simp only [Act.put, List.setIfInBounds_toArray, List.set_cons_zero, List.set_cons_succ]
  refine wpList_load_g (op := { dst := some 52, op := Go.Op.load 29 (Go.Operand.tmp 3), type := 29, pos := "law.go:73", after := #[{ on := 5, ground := Go.Ground.guard }], guard := some (5, false) }) (by rfl) 29 (.tmp 3) rfl (w.heap.size + 1) (0) rfl cb _ NB9'.out HUS.out rfl HIB.out ?_
  try simp only [Act.put, List.setIfInBounds_toArray, List.set_cons_zero, List.set_cons_succ]
  go_wp2_with fail
  refine Calls.mono (CAab.out _ (chain B9.out F9.out)) ?_
  rintro e w10 ⟨rfl, b10⟩
  have F10 := hide (chain F9.out b10)
  have B10 := hide (chain B9.out F10.out)
  have NA10 := hide (vrange_below NA9.out F10.out)
  have NW10 := hide (vrange_below NW9.out F10.out)
  have SW10 := hide (SW9.out.below F10.out)
  clear b10 F9 F10 NA9 NA9' NB9 NB9' NW9 SW9 B9
  go_upto_region 11 with fail
  clear hxx hyy
  refine wp_region_list ?_
  refine wpList_load_g (op := { dst := some 57, op := Go.Op.load 29 (Go.Operand.tmp 2), type := 29, pos := "law.go:76", after := #[], guard := none }) (by rfl) 29 (.tmp 2) rfl w.heap.size (0) rfl ca _ NA10.out HUS.out rfl HIA.out ?_
  try simp only [Act.put, List.setIfInBounds_toArray, List.set_cons_zero, List.set_cons_succ]
  refine wpList_tail (pre := [{ dst := some 58, op := Go.Op.call { callee := Go.Callee.value (Go.Operand.func 11), args := #[Go.Operand.tmp 57], argTypes := #[29] }, type := 29, pos := "law.go:76", after := #[{ on := 0, ground := Go.Ground.data }], guard := none }, { dst := some 11, op := Go.Op.alloc 29, type := 0, pos := "law.go:76", after := #[], guard := none }]) _ ?_
  intro tl htl
  have HTL := hide htl
  clear htl
  simp only [List.cons_append, List.nil_append]
  go_wp2_with fail
  refine Calls.mono (copy_any w10 sa ca (HA.out.below B10.out)) ?_
  rintro e w11 ⟨cc, rfl, sc0, b11⟩
  have SC11 := hide sc0
  have B11 := hide (chain B10.out b11)
  have NA11 := hide (vrange_below NA10.out b11)
  have NW11 := hide (vrange_below NW10.out b11)
  have SW11 := hide (SW10.out.below b11)
  have HIC : Hid ((Try.prog.info? 29).map (·.size) = some cc.length) := by unfold Hid; rw [state_cells sc0]; exact infoState
  clear b11 NA10 NW10 SW10 B10
  obtain ⟨z3, m3, k3, _, z4, m4, k4, _, z5, m5, k5, _, z6, m6, k6, _, z7, m7, k7, _, z8, m8, k8, _, z9, m9, k9, _, hq, hjunk⟩ := sc0
  clear hjunk
  subst hq
  have NS11 := hide (bl_alloc w11 #[.int .i64 0, .int .i64 0, .int .i64 0, .slice none 0 0, .slice none 0 0, .slice none 0 0, .slice none 0 0, .slice none 0 0, .slice none 0 0, .slice none 0 0] 29)
  have P11 := hide (one_below w11 (.cells #[.int .i64 0, .int .i64 0, .int .i64 0, .slice none 0 0, .slice none 0 0, .slice none 0 0, .slice none 0 0, .slice none 0 0, .slice none 0 0, .slice none 0 0] 29))
  go_wp2_with fail
  have htl := HTL.out
  clear HTL
  subst htl
  generalize w11.alloc (.cells #[.int .i64 0, .int .i64 0, .int .i64 0, .slice none 0 0, .slice none 0 0, .slice none 0 0, .slice none 0 0, .slice none 0 0, .slice none 0 0, .slice none 0 0] 29) = U11 at *
  have e0 := NS11.out.cell 0 _ rfl
  have d0 := NS11.out.free 0
  have e1 := NS11.out.cell 1 _ rfl
  have d1 := NS11.out.free 1
  have e2 := NS11.out.cell 2 _ rfl
  have d2 := NS11.out.free 2
  have e3 := NS11.out.cell 3 _ rfl
  have d3 := NS11.out.free 3
  have e4 := NS11.out.cell 4 _ rfl
  have d4 := NS11.out.free 4
  have e5 := NS11.out.cell 5 _ rfl
  have d5 := NS11.out.free 5
  have e6 := NS11.out.cell 6 _ rfl
  have d6 := NS11.out.free 6
  have e7 := NS11.out.cell 7 _ rfl
  have d7 := NS11.out.free 7
  have e8 := NS11.out.cell 8 _ rfl
  have d8 := NS11.out.free 8
  have e9 := NS11.out.cell 9 _ rfl
  have d9 := NS11.out.free 9
  go_upto_region 12 with fail
  clear e0 d0 e1 d1 e2 d2 e3 d3 e4 d4 e5 d5 e6 d6 e7 d7 e8 d8 e9 d9
  obtain ⟨u1, u2, u3, u4⟩ := ten_sets (w0 := w11) (B := w11.heap.size) P11.out (Nat.le_refl _) NS11.out rfl (.int .i64 sa.id) (.int .i64 sa.frame) (.int .i64 sa.epoch) (.slice z3 m3 k3) (.slice z4 m4 k4) (.slice z5 m5 k5) (.slice z6 m6 k6) (.slice z7 m7 k7) (.slice z8 m8 k8) (.slice z9 m9 k9)
  have D11 := hide u1
  have BX11 := hide u2
  clear u1 u2 u3 u4 NS11 P11
  generalize ((((((((((U11.setCell ⟨w11.heap.size, 0, none⟩ (.int .i64 sa.id)).setCell ⟨w11.heap.size, 1, none⟩ (.int .i64 sa.frame)).setCell ⟨w11.heap.size, 2, none⟩ (.int .i64 sa.epoch)).setCell ⟨w11.heap.size, 3, none⟩ (.slice z3 m3 k3)).setCell ⟨w11.heap.size, 4, none⟩ (.slice z4 m4 k4)).setCell ⟨w11.heap.size, 5, none⟩ (.slice z5 m5 k5)).setCell ⟨w11.heap.size, 6, none⟩ (.slice z6 m6 k6)).setCell ⟨w11.heap.size, 7, none⟩ (.slice z7 m7 k7)).setCell ⟨w11.heap.size, 8, none⟩ (.slice z8 m8 k8)).setCell ⟨w11.heap.size, 9, none⟩ (.slice z9 m9 k9)) = V11 at *
  generalize hcc : ([.int .i64 sa.id, .int .i64 sa.frame, .int .i64 sa.epoch, .slice z3 m3 k3, .slice z4 m4 k4, .slice z5 m5 k5, .slice z6 m6 k6, .slice z7 m7 k7, .slice z8 m8 k8, .slice z9 m9 k9] : List Value) = cc at *
  clear hcc
  have B12 := hide (chain B11.out D11.out)
  have NA12 := hide (vrange_below NA11.out D11.out)
  have NW12 := hide (vrange_below NW11.out D11.out)
  have SW12 := hide (SW11.out.below D11.out)
  have SC12 := hide (SC11.out.below D11.out)
  have NC12 := hide (bl_range BX11.out)
  clear NA11 NW11 SW11 SC11 BX11 D11 B11
  have SA12 := hide (HA.out.below B12.out)
  have Ccw : Hid (∀ W, Below V11.heap.size V11 W → Calls Try.prog 9 #[.agg cc.toArray, .agg cw.toArray] W fun e w' => e = .returned (.bool true) ∧ Below W.heap.size W w') := fun W hb => by
    have := rsame_any sa sa cc cw W (SC12.out.below hb).sv (SW12.out.below hb).sv
    rw [eqb_yes (same_self sa)] at this
    exact this
  have Caw : Hid (∀ W, Below V11.heap.size V11 W → Calls Try.prog 9 #[.agg ca.toArray, .agg cw.toArray] W fun e w' => e = .returned (.bool true) ∧ Below W.heap.size W w') := fun W hb => by
    have := rsame_any sa sa ca cw W (SA12.out.below hb).sv (SW12.out.below hb).sv
    rw [eqb_yes (same_self sa)] at this
    exact this
  refine wp_region_list ?_
  refine wpList_load_g (op := { dst := some 59, op := Go.Op.load 29 (Go.Operand.tmp 11), type := 29, pos := "law.go:77", after := #[], guard := none }) (by rfl) 29 (.tmp 11) rfl w11.heap.size (0) rfl cc _ NC12.out HUS.out rfl HIC.out ?_
  try simp only [Act.put, List.setIfInBounds_toArray, List.set_cons_zero, List.set_cons_succ]
  refine wpList_load_g (op := { dst := some 60, op := Go.Op.load 29 (Go.Operand.tmp 10), type := 29, pos := "law.go:77", after := #[], guard := none }) (by rfl) 29 (.tmp 10) rfl w8.heap.size (0) rfl cw _ NW12.out HUS.out rfl HIW.out ?_
  try simp only [Act.put, List.setIfInBounds_toArray, List.set_cons_zero, List.set_cons_succ]
  refine wpList_tail (pre := [{ dst := some 61, op := Go.Op.call { callee := Go.Callee.value (Go.Operand.func 9), args := #[Go.Operand.tmp 59, Go.Operand.tmp 60], argTypes := #[29, 29] }, type := 4, pos := "law.go:77", after := #[{ on := 0, ground := Go.Ground.data }, { on := 1, ground := Go.Ground.data }], guard := none }, { dst := some 62, op := Go.Op.move (Go.Operand.tmp 61), type := 4, pos := "law.go:77", after := #[{ on := 2, ground := Go.Ground.data }, { on := 2, ground := Go.Ground.chain }], guard := none }]) _ ?_
  intro tl htl
  have HTL := hide htl
  clear htl
  simp only [List.cons_append, List.nil_append]
  go_wp2_with fail
  refine Calls.mono (Ccw.out _ (Below.refl _ _)) ?_
  rintro e w13 ⟨rfl, b13⟩
  have F13 := hide b13
  have NA13 := hide (vrange_below NA12.out b13)
  have NW13 := hide (vrange_below NW12.out b13)
  clear b13
  go_wp2_with fail
  have htl := HTL.out
  clear HTL
  subst htl
  refine wpList_load_g (op := { dst := some 63, op := Go.Op.load 29 (Go.Operand.tmp 2), type := 29, pos := "law.go:77", after := #[{ on := 3, ground := Go.Ground.guard }], guard := some (3, true) }) (by rfl) 29 (.tmp 2) rfl w.heap.size (0) rfl ca _ NA13.out HUS.out rfl HIA.out ?_
  try simp only [Act.put, List.setIfInBounds_toArray, List.set_cons_zero, List.set_cons_succ]
  refine wpList_load_g (op := { dst := some 64, op := Go.Op.load 29 (Go.Operand.tmp 10), type := 29, pos := "law.go:77", after := #[{ on := 3, ground := Go.Ground.guard }], guard := some (3, true) }) (by rfl) 29 (.tmp 10) rfl w8.heap.size (0) rfl cw _ NW13.out HUS.out rfl HIW.out ?_
  try simp only [Act.put, List.setIfInBounds_toArray, List.set_cons_zero, List.set_cons_succ]
  go_wp2_with fail
  refine Calls.mono (Caw.out _ F13.out) ?_
  rintro e w14 ⟨rfl, b14⟩
  have FB := hide (chain (chain B12.out F13.out) b14)
  clear b14
  go_wp2
  go_ret
  exact ⟨rfl, FB.out⟩
end Go.Proofs.Ytkjbcnlhallcdaa.validSames
