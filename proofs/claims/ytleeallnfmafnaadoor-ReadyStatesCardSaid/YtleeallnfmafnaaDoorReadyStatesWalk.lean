/-
  Walk of the law ReadyStates.
-/
import Derived.Test.YtleeallnfmafnaaDoorStBase
import Derived.Deep.Cut
namespace Go.Proofs.YtleeallnfmafnaaDoor.Vv.readyStates
open Go.RowKit FerryCrc
set_option linter.unusedVariables false
set_option linter.unusedSimpArgs false

theorem Srg.mono {lo lo' g : Nat} {w : World} {cs : List Value} {s : Sk} (h : Srg lo g w cs s) (hl : lo' ≤ lo) : Srg lo' g w cs s := fun W h1 h2 => h W h1 fun b hb => h2 b (Nat.le_trans hl hb)
theorem Srg.box {lo g : Nat} {w w' : World} {cs : List Value} {s : Sk} (h : Srg lo g w cs s) (hb : ∀ b, b ≠ g → w'.heap[b]? = w.heap[b]?) (hs : w'.heap.size = w.heap.size) : Srg lo g w' cs s := fun W h1 h2 => h W (by omega) fun b hb1 hb2 hb3 => (h2 b hb1 (by omega) hb3).trans (hb b hb3)
theorem sr_lit {w : World} {s : Sk} {i0 i1 i2 : Value} {a3 a4 a5 a6 a7 a8 a9 : Option Addr} {n3 c3 n4 c4 n5 c5 n6 c6 n7 c7 n8 c8 n9 c9 : Nat} (h : Sr w [i0, i1, i2, .slice a3 n3 c3, .slice a4 n4 c4, .slice a5 n5 c5, .slice a6 n6 c6, .slice a7 n7 c7, .slice a8 n8 c8, .slice a9 n9 c9] s) :
    (Kv w 64 21 a3 n3 s.procs ∧ Kv w 3 1 a4 n4 s.ready ∧ Kv w 66 2 a5 n5 s.timers) ∧ Kv w 4 1 a6 n6 s.up ∧ Kv w 3 1 a7 n7 s.sems ∧ Pv w a8 n8 s.ports ∧ Kv w 43 66 a9 n9 s.pages := by
  obtain ⟨b3, m3, d3, r3, b4, m4, d4, r4, b5, m5, d5, r5, b6, m6, d6, r6, b7, m7, d7, r7, b8, m8, d8, r8, b9, m9, d9, r9, e, h3, h4, h5, h6, h7, h8, h9⟩ := h
  simp only [List.cons.injEq, Value.slice.injEq, and_true] at e
  obtain ⟨_, _, _, ⟨rfl, rfl, rfl⟩, ⟨rfl, rfl, rfl⟩, ⟨rfl, rfl, rfl⟩, ⟨rfl, rfl, rfl⟩, ⟨rfl, rfl, rfl⟩, ⟨rfl, rfl, rfl⟩, ⟨rfl, rfl, rfl⟩⟩ := e
  exact ⟨⟨h3.kv (by decide) (by decide), h4.kv (by decide) (by decide), h5.kv (by decide) (by decide)⟩, h6.kv (by decide) (by decide), h7.kv (by decide) (by decide), h8.pv, h9.kv (by decide) (by decide)⟩
theorem cellB' {w w' : World} {p : Addr} {v : Value} (h : w.cell? p = some v) (hb : Below w.heap.size w w') : w'.cell? p = some v := (hb.cell (block_lt_of_cell h)).trans h

set_option maxRecDepth 100000 in
set_option maxHeartbeats 3000000 in
theorem law {E : Nat → Addr} (cs : List Value) (s : Sk) (pa : Option Addr) (pn pc : Nat) (P : List Value) (KP : List (List Lit)) (ra : Option Addr) (rn rc : Nat) (R : List Value) (KR : List (List Lit)) (ta : Option Addr) (tn tc : Nat) (T : List Value) (KT : List (List Lit)) (w : World) (he : Er9 w E) (hs : Sr w cs s) (hp : Kr w 64 21 104 pa pn pc P KP) (hr : Kr w 3 1 8 ra rn rc R KR) (ht : Kr w 66 2 16 ta tn tc T KT) :
    Calls Tryd.prog 3 #[.agg cs.toArray, .agg #[.slice pa pn pc, .slice ra rn rc, .slice ta tn tc]] w fun e w' => e = .returned (.bool true) ∧ Below w.heap.size w w' := by
  have HE := hide he
  have HS := hide hs
  have HP := hide hp
  have HR := hide hr
  have HT := hide ht
  have HUS : Hid (Tryd.prog.underlying 29 = some _) := Tryd.underlying29
  have HIS : Hid ((Tryd.prog.info? 29).map (·.size) = some cs.length) := by unfold Hid; rw [state_cells hs]; exact infoState
  have o1 := one_below w (.cells cs.toArray 29)
  have o2 := one_below (w.alloc (.cells cs.toArray 29)) (.cells #[.slice pa pn pc, .slice ra rn rc, .slice ta tn tc] 31)
  have n1 := bl_alloc w cs.toArray 29
  have n2 := bl_alloc (w.alloc (.cells cs.toArray 29)) #[.slice pa pn pc, .slice ra rn rc, .slice ta tn tc] 31
  rw [show (w.alloc (.cells cs.toArray 29)).heap.size = w.heap.size + 1 by simp] at n2
  have NS0 : Hid (Bl ((w.alloc (.cells cs.toArray 29)).alloc (.cells #[.slice pa pn pc, .slice ra rn rc, .slice ta tn tc] 31)) w.heap.size cs) := by unfold Hid; have := n1.below (by simp) o2; simpa using this
  have NT0 := hide n2
  have B0 := hide (chain o1 o2)
  have hz0 : ((w.alloc (.cells cs.toArray 29)).alloc (.cells #[.slice pa pn pc, .slice ra rn rc, .slice ta tn tc] 31)).heap.size = w.heap.size + 1 + 1 := by simp
  have Z0 := hide hz0
  clear he hs hp hr ht o1 o2 n1 n2 hz0
  go_enter Tryd.func3, Tryd.ntmps3
  go_upto_region 1 with fail
  generalize (w.alloc (.cells cs.toArray 29)).alloc (.cells #[.slice pa pn pc, .slice ra rn rc, .slice ta tn tc] 31) = W0 at *
  go_wp2_with fail
  refine Calls.mono (awake_any (HE.out.below B0.out)) ?_
  rintro e w1 ⟨rfl, b1⟩
  have hs0 : w.heap.size + 1 < W0.heap.size := by rw [Z0.out]; omega
  have NS1 := hide (NS0.out.below (by omega) b1)
  have NT1 := hide (NT0.out.below hs0 b1)
  have B1 := hide (chain B0.out b1)
  have Z1 : Hid (w.heap.size + 1 + 1 ≤ w1.heap.size) := by have := b1.size; rw [Z0.out] at this; exact this
  clear b1 hs0 NS0 NT0 B0 Z0 HE
  have X1 := one_below w1 (.cells #[.slice none 0 0, .slice none 0 0, .slice none 0 0] 31)
  have X2 := one_below (w1.alloc (.cells #[.slice none 0 0, .slice none 0 0, .slice none 0 0] 31)) (.cells #[.slice none 0 0, .slice none 0 0, .slice none 0 0] 31)
  have m1 := bl_alloc w1 #[.slice none 0 0, .slice none 0 0, .slice none 0 0] 31
  have m2 := bl_alloc (w1.alloc (.cells #[.slice none 0 0, .slice none 0 0, .slice none 0 0] 31)) #[.slice none 0 0, .slice none 0 0, .slice none 0 0] 31
  rw [show (w1.alloc (.cells #[.slice none 0 0, .slice none 0 0, .slice none 0 0] 31)).heap.size = w1.heap.size + 1 by simp] at m2
  have MX := hide (m1.below (by simp) X2)
  have MY := hide m2
  have D3 := hide (chain X1 X2)
  have hz3 : ((w1.alloc (.cells #[.slice none 0 0, .slice none 0 0, .slice none 0 0] 31)).alloc (.cells #[.slice none 0 0, .slice none 0 0, .slice none 0 0] 31)).heap.size = w1.heap.size + 1 + 1 := by simp
  have Z3 := hide hz3
  clear X1 X2 m1 m2 hz3
  go_upto_region 4 with fail
  generalize (w1.alloc (.cells #[.slice none 0 0, .slice none 0 0, .slice none 0 0] 31)).alloc (.cells #[.slice none 0 0, .slice none 0 0, .slice none 0 0] 31) = W3 at *
  have NS3 := hide (NS1.out.below (by have := Z1.out; omega) D3.out)
  have NT3 := hide (NT1.out.below (by have := Z1.out; omega) D3.out)
  have B3 := hide (chain B1.out D3.out)
  have RS3 := hide (bl_range NS3.out)
  clear NS1 NT1 B1 D3
  refine wp_region_list ?_
  refine wpList_load_g (op := { dst := some 16, op := Go.Op.load 29 (Go.Operand.tmp 2), type := 29, pos := "outright.go:219", after := #[], guard := none }) (by rfl) 29 (.tmp 2) rfl w.heap.size (0) rfl cs _ RS3.out HUS.out rfl HIS.out ?_
  try simp only [Act.put, List.setIfInBounds_toArray, List.set_cons_zero, List.set_cons_succ]
  refine wpList_tail (pre := [{ dst := some 17, op := Go.Op.call { callee := Go.Callee.value (Go.Operand.func 5), args := #[Go.Operand.tmp 16], argTypes := #[29] }, type := 31, pos := "outright.go:219", after := #[{ on := 0, ground := Go.Ground.data }], guard := none }]) _ ?_
  intro tl htl
  have HTL := hide htl
  clear htl
  simp only [List.cons_append, List.nil_append]
  go_wp2_with fail
  refine Calls.mono (rOf_sr w W3 s cs HS.out) ?_
  rintro e w4 ⟨a3, n3, c3, r3, a4, n4, c4, r4, a5, n5, c5, r5, rfl, hc3, hc4, hc5, k3, k4, k5, b4⟩
  go_wp2_with fail
  have htl := HTL.out
  clear HTL
  subst htl
  have MX4 := MX.out.below (by have := Z3.out; omega) b4
  have MY4 := MY.out.below (by have := Z3.out; omega) b4
  have g0 := MX4.cell 0 _ rfl
  have f0 := MX4.free 0
  have g1 := MX4.cell 1 _ rfl
  have f1 := MX4.free 1
  have g2 := MX4.cell 2 _ rfl
  have f2 := MX4.free 2
  have p4 : Below W3.heap.size W3 w4 := b4
  have KX3 := hide k3
  have KX4 := hide k4
  have KX5 := hide k5
  clear hc3 hc4 hc5 k3 k4 k5
  go_upto_region 5 with fail
  clear g0 g1 g2 f0 f1 f2
  have h1 := Z1.out
  have h3 := Z3.out
  have h4 := b4.size
  have BX := hide (bl_three MX4 (.slice a3 n3 c3) (.slice a4 n4 c4) (.slice a5 n5 c5))
  have BY : Hid (Bl (((w4.setCell ⟨w1.heap.size, 0, none⟩ (.slice a3 n3 c3)).setCell ⟨w1.heap.size, 1, none⟩ (.slice a4 n4 c4)).setCell ⟨w1.heap.size, 2, none⟩ (.slice a5 n5 c5)) (w1.heap.size + 1) [.slice none 0 0, .slice none 0 0, .slice none 0 0]) := ((MY4.far (by omega)).far (by omega)).far (by omega)
  have NS5 : Hid (Bl (((w4.setCell ⟨w1.heap.size, 0, none⟩ (.slice a3 n3 c3)).setCell ⟨w1.heap.size, 1, none⟩ (.slice a4 n4 c4)).setCell ⟨w1.heap.size, 2, none⟩ (.slice a5 n5 c5)) w.heap.size cs) := (((NS3.out.below (by omega) b4).far (by omega)).far (by omega)).far (by omega)
  have NT5 : Hid (Bl (((w4.setCell ⟨w1.heap.size, 0, none⟩ (.slice a3 n3 c3)).setCell ⟨w1.heap.size, 1, none⟩ (.slice a4 n4 c4)).setCell ⟨w1.heap.size, 2, none⟩ (.slice a5 n5 c5)) (w.heap.size + 1) [.slice pa pn pc, .slice ra rn rc, .slice ta tn tc]) := (((NT3.out.below (by omega) b4).far (by omega)).far (by omega)).far (by omega)
  have B5 : Hid (Below w.heap.size w (((w4.setCell ⟨w1.heap.size, 0, none⟩ (.slice a3 n3 c3)).setCell ⟨w1.heap.size, 1, none⟩ (.slice a4 n4 c4)).setCell ⟨w1.heap.size, 2, none⟩ (.slice a5 n5 c5))) := below3 (.slice a3 n3 c3) (.slice a4 n4 c4) (.slice a5 n5 c5) (chain B3.out b4) (by omega)
  have Z5 : Hid (w1.heap.size + 1 + 1 ≤ (((w4.setCell ⟨w1.heap.size, 0, none⟩ (.slice a3 n3 c3)).setCell ⟨w1.heap.size, 1, none⟩ (.slice a4 n4 c4)).setCell ⟨w1.heap.size, 2, none⟩ (.slice a5 n5 c5)).heap.size) := by unfold Hid; simp [World.setCell]; omega
  clear h1 h3 h4 b4 p4 MX4 MY4 NS3 NT3 B3 MX MY Z3 RS3
  generalize (((w4.setCell ⟨w1.heap.size, 0, none⟩ (.slice a3 n3 c3)).setCell ⟨w1.heap.size, 1, none⟩ (.slice a4 n4 c4)).setCell ⟨w1.heap.size, 2, none⟩ (.slice a5 n5 c5)) = W5 at *
  have RS5 := hide (bl_range NS5.out)
  refine wp_region_list ?_
  refine wpList_load_g (op := { dst := some 18, op := Go.Op.load 29 (Go.Operand.tmp 2), type := 29, pos := "outright.go:220", after := #[], guard := none }) (by rfl) 29 (.tmp 2) rfl w.heap.size (0) rfl cs _ RS5.out HUS.out rfl HIS.out ?_
  try simp only [Act.put, List.setIfInBounds_toArray, List.set_cons_zero, List.set_cons_succ]
  refine wpList_tail (pre := [{ dst := some 19, op := Go.Op.call { callee := Go.Callee.value (Go.Operand.func 6), args := #[Go.Operand.tmp 18], argTypes := #[29] }, type := 34, pos := "outright.go:220", after := #[{ on := 0, ground := Go.Ground.data }], guard := none }, { dst := some 7, op := Go.Op.alloc 34, type := 0, pos := "outright.go:220", after := #[], guard := none }]) _ ?_
  intro tl htl
  have HTL := hide htl
  clear htl
  simp only [List.cons_append, List.nil_append]
  go_wp2_with fail
  refine Calls.mono (of_sr W5 s cs (HS.out.below B5.out)) ?_
  rintro e w6 ⟨o3, i3, j3, p3, o4, i4, j4, p4, o5, i5, j5, p5, rfl, q3, q4, q5, k3, k4, k5, b6⟩
  have NO := bl_alloc w6 #[.slice none 0 0, .slice none 0 0, .slice none 0 0] 34
  have PO := one_below w6 (.cells #[.slice none 0 0, .slice none 0 0, .slice none 0 0] 34)
  have hzo : (w6.alloc (.cells #[.slice none 0 0, .slice none 0 0, .slice none 0 0] 34)).heap.size = w6.heap.size + 1 := by simp
  have NO1 := hide NO
  have PO1 := hide PO
  have ZO1 := hide hzo
  clear NO PO hzo
  go_wp2_with fail
  have htl := HTL.out
  clear HTL
  subst htl
  generalize w6.alloc (.cells #[.slice none 0 0, .slice none 0 0, .slice none 0 0] 34) = W7 at *
  have g0 := NO1.out.cell 0 _ rfl
  have f0 := NO1.out.free 0
  have g1 := NO1.out.cell 1 _ rfl
  have f1 := NO1.out.free 1
  have g2 := NO1.out.cell 2 _ rfl
  have f2 := NO1.out.free 2
  have h5 := Z5.out
  have h6 := b6.size
  have h7 := ZO1.out
  have z1 := Z1.out
  have c7 : Below W5.heap.size W5 W7 := chain b6 PO1.out
  have BO := hide (bl_three NO1.out (.slice o3 i3 j3) (.slice o4 i4 j4) (.slice o5 i5 j5))
  have BX8 : Hid (Bl (((W7.setCell ⟨w6.heap.size, 0, none⟩ (.slice o3 i3 j3)).setCell ⟨w6.heap.size, 1, none⟩ (.slice o4 i4 j4)).setCell ⟨w6.heap.size, 2, none⟩ (.slice o5 i5 j5)) w1.heap.size [.slice a3 n3 c3, .slice a4 n4 c4, .slice a5 n5 c5]) := (((BX.out.below (by omega) c7).far (by omega)).far (by omega)).far (by omega)
  have BY8 : Hid (Bl (((W7.setCell ⟨w6.heap.size, 0, none⟩ (.slice o3 i3 j3)).setCell ⟨w6.heap.size, 1, none⟩ (.slice o4 i4 j4)).setCell ⟨w6.heap.size, 2, none⟩ (.slice o5 i5 j5)) (w1.heap.size + 1) [.slice none 0 0, .slice none 0 0, .slice none 0 0]) := (((BY.out.below (by omega) c7).far (by omega)).far (by omega)).far (by omega)
  have NS8 : Hid (Bl (((W7.setCell ⟨w6.heap.size, 0, none⟩ (.slice o3 i3 j3)).setCell ⟨w6.heap.size, 1, none⟩ (.slice o4 i4 j4)).setCell ⟨w6.heap.size, 2, none⟩ (.slice o5 i5 j5)) w.heap.size cs) := (((NS5.out.below (by omega) c7).far (by omega)).far (by omega)).far (by omega)
  have NT8 : Hid (Bl (((W7.setCell ⟨w6.heap.size, 0, none⟩ (.slice o3 i3 j3)).setCell ⟨w6.heap.size, 1, none⟩ (.slice o4 i4 j4)).setCell ⟨w6.heap.size, 2, none⟩ (.slice o5 i5 j5)) (w.heap.size + 1) [.slice pa pn pc, .slice ra rn rc, .slice ta tn tc]) := (((NT5.out.below (by omega) c7).far (by omega)).far (by omega)).far (by omega)
  have D8 : Hid (Below w6.heap.size w6 (((W7.setCell ⟨w6.heap.size, 0, none⟩ (.slice o3 i3 j3)).setCell ⟨w6.heap.size, 1, none⟩ (.slice o4 i4 j4)).setCell ⟨w6.heap.size, 2, none⟩ (.slice o5 i5 j5))) := below3 (.slice o3 i3 j3) (.slice o4 i4 j4) (.slice o5 i5 j5) PO1.out (Nat.le_refl _)
  have B8 : Hid (Below w.heap.size w (((W7.setCell ⟨w6.heap.size, 0, none⟩ (.slice o3 i3 j3)).setCell ⟨w6.heap.size, 1, none⟩ (.slice o4 i4 j4)).setCell ⟨w6.heap.size, 2, none⟩ (.slice o5 i5 j5))) := below3 (.slice o3 i3 j3) (.slice o4 i4 j4) (.slice o5 i5 j5) (chain B5.out c7) (by have := B5.out.size; omega)
  have Z8 : Hid (w1.heap.size + 1 + 1 ≤ W5.heap.size ∧ W5.heap.size ≤ w6.heap.size ∧ w6.heap.size < (((W7.setCell ⟨w6.heap.size, 0, none⟩ (.slice o3 i3 j3)).setCell ⟨w6.heap.size, 1, none⟩ (.slice o4 i4 j4)).setCell ⟨w6.heap.size, 2, none⟩ (.slice o5 i5 j5)).heap.size) := by unfold Hid; simp [World.setCell]; omega
  have Q3 := hide (ownsRow_below q3 D8.out)
  have Q4 := hide (ownsRow_below q4 D8.out)
  have Q5 := hide (ownsRow_below q5 D8.out)
  have KO3 := hide k3
  have KO4 := hide k4
  have KO5 := hide k5
  clear q3 q4 q5 k3 k4 k5 h5 h6 h7 z1 c7 b6
  go_upto_region 6 with fail
  clear g0 g1 g2 f0 f1 f2 BX BY NS5 NT5 RS5 B5 Z5 NO1 PO1 ZO1
  generalize (((W7.setCell ⟨w6.heap.size, 0, none⟩ (.slice o3 i3 j3)).setCell ⟨w6.heap.size, 1, none⟩ (.slice o4 i4 j4)).setCell ⟨w6.heap.size, 2, none⟩ (.slice o5 i5 j5)) = W8 at *
  go_cut [8] from 20 (fun v wx => ∃ gu cu, v = .pointer (some ⟨gu, 0, none⟩) ∧ Bl wx gu cu ∧ Srg W8.heap.size gu wx cu { s with procs := KP, ready := KR, timers := KT } ∧ Below W8.heap.size W8 wx ∧ W8.heap.size ≤ gu ∧ gu < wx.heap.size)
  case first =>
    have C0 : Hid (Below W8.heap.size W8 W8.drew) := (Below.refl _ _).drew
    have H6 : Hid (∀ wz, Below W8.heap.size W8 wz → (fun wz => wz.rangeAt w.heap.size 0 cs ∧ wz.cell? ⟨w.heap.size + 1, 0, none⟩ = some (.slice pa pn pc) ∧ wz.cell? ⟨w.heap.size + 1, 1, none⟩ = some (.slice ra rn rc) ∧ wz.cell? ⟨w.heap.size + 1, 2, none⟩ = some (.slice ta tn tc)) wz) := fun wz hz => by
      have h1 := NS8.out.below (by have := Z8.out; have := Z1.out; omega) hz
      have h2 := NT8.out.below (by have := Z8.out; have := Z1.out; omega) hz
      exact ⟨bl_range h1, h2.cell 0 _ rfl, h2.cell 1 _ rfl, h2.cell 2 _ rfl⟩
    refine wp_region_held_drew (S := fun wz => wz.rangeAt w.heap.size 0 cs ∧ wz.cell? ⟨w.heap.size + 1, 0, none⟩ = some (.slice pa pn pc) ∧ wz.cell? ⟨w.heap.size + 1, 1, none⟩ = some (.slice ra rn rc) ∧ wz.cell? ⟨w.heap.size + 1, 2, none⟩ = some (.slice ta tn tc)) (by kernel_rfl) (H6.out _ C0.out) (fun hHeld => ?_)
    generalize W8.drew = Y0 at *
    refine wpAnyH_take (i := 0) (oi := { dst := some 20, op := Go.Op.load 29 (Go.Operand.tmp 2), type := 29, pos := "outright.go:221", after := #[], guard := none }) rfl (by kernel_rfl) (by kernel_rfl) (by kernel_rfl) (fun _ _ _ h => h) (yieldsIf_load_mid (by rfl) _ _ rfl _ _ rfl _ _ (fun _ h => h.1) HUS.out rfl HIS.out) (by assumption) ?_
    try simp only [Act.put, List.setIfInBounds_toArray, List.set_cons_zero, List.set_cons_succ]
    refine wpAnyH_take (i := 1) (oi := { dst := some 21, op := Go.Op.load 31 (Go.Operand.tmp 3), type := 31, pos := "outright.go:221", after := #[], guard := none }) (v := ?_) rfl (by kernel_rfl) (by kernel_rfl) (by kernel_rfl) (fun _ _ _ h => h) (Or.inl ⟨by rfl, ?_⟩) (by assumption) ?_
    rotate_left
    · intro wq hSw
      try dsimp only at hSw
      go_simp
      try with_reducible rfl
    try simp only [Act.put, List.setIfInBounds_toArray, List.set_cons_zero, List.set_cons_succ]
    refine wpAnyH_ready (rs := [2, 4]) (by kernel_rfl) (by simp) ?_
    refine AllReadyH.cons (o := { dst := some 22, op := Go.Op.call { callee := Go.Callee.value (Go.Operand.func 8), args := #[Go.Operand.tmp 21], argTypes := #[31] }, type := 34, pos := "outright.go:221", after := #[{ on := 1, ground := Go.Ground.data }], guard := none }) rfl (fun K hK => ?_) (AllReadyH.cons (o := { dst := some 8, op := Go.Op.alloc 29, type := 0, pos := "outright.go:221", after := #[], guard := none }) rfl (fun K hK => ?_) AllReadyH.nil)
    · go_simp
      go_at_call 8
      refine (to_slices Y0 pa ra ta pn pc rn rc tn tc).mono ?_
      rintro e y1 ⟨rfl, bt⟩
      have C1 := hide (chain C0.out bt)
      clear bt
      try go_wp2_with fail
      refine hK.out _ _ (H6.out _ C1.out) (fun hHeld2 => ?_)
      clear hK K hHeld
      have hHeld := hHeld2
      clear hHeld2
      try simp only [Act.put, List.setIfInBounds_toArray, List.set_cons_zero, List.set_cons_succ]
      refine wpAnyH_ready (rs := [3, 4]) (by kernel_rfl) (by simp) ?_
      refine AllReadyH.cons (o := { dst := some 23, op := Go.Op.call { callee := Go.Callee.value (Go.Operand.func 7), args := #[Go.Operand.tmp 20, Go.Operand.tmp 22], argTypes := #[29, 34] }, type := 29, pos := "outright.go:221", after := #[{ on := 0, ground := Go.Ground.data }, { on := 2, ground := Go.Ground.data }, { on := 2, ground := Go.Ground.chain }], guard := none }) rfl (fun K hK => ?_) (AllReadyH.cons (o := { dst := some 8, op := Go.Op.alloc 29, type := 0, pos := "outright.go:221", after := #[], guard := none }) rfl (fun K hK => ?_) AllReadyH.nil)
      · go_simp
        go_at_call 7
        refine (into_any y1 s cs (HS.out.below (chain B8.out C1.out)) pa pn pc P KP (HP.out.below (chain B8.out C1.out)) ra rn rc R KR (HR.out.below (chain B8.out C1.out)) ta tn tc T KT (HT.out.below (chain B8.out C1.out))).mono ?_
        rintro e y2 ⟨cu, rfl, hsf, bi⟩
        have SFI := hide hsf
        have C2 := hide (chain C1.out bi)
        have BI := hide bi
        clear bi hsf
        obtain ⟨z3, m3, k3, _, z4, m4, k4, _, z5, m5, k5, _, z6, m6, k6, _, z7, m7, k7, _, z8, m8, k8, _, z9, m9, k9, _, hq, hjunk⟩ := SFI.out.sr
        clear hjunk
        subst hq
        try go_wp2_with fail
        refine hK.out _ _ (H6.out _ C2.out) (fun hHeld2 => ?_)
        clear hK K hHeld
        have hHeld := hHeld2
        clear hHeld2
        try simp only [Act.put, List.setIfInBounds_toArray, List.set_cons_zero, List.set_cons_succ]
        refine wpAnyH_ready (rs := [4]) (by kernel_rfl) (by simp) ?_
        refine AllReadyH.cons (o := { dst := some 8, op := Go.Op.alloc 29, type := 0, pos := "outright.go:221", after := #[], guard := none }) rfl (fun K hK => ?_) AllReadyH.nil
        have NB := hide (bl_alloc y2 #[.int .i64 0, .int .i64 0, .int .i64 0, .slice none 0 0, .slice none 0 0, .slice none 0 0, .slice none 0 0, .slice none 0 0, .slice none 0 0, .slice none 0 0] 29)
        have PBx := hide (one_below y2 (.cells #[.int .i64 0, .int .i64 0, .int .i64 0, .slice none 0 0, .slice none 0 0, .slice none 0 0, .slice none 0 0, .slice none 0 0, .slice none 0 0, .slice none 0 0] 29))
        have ZB : Hid ((y2.alloc (.cells #[.int .i64 0, .int .i64 0, .int .i64 0, .slice none 0 0, .slice none 0 0, .slice none 0 0, .slice none 0 0, .slice none 0 0, .slice none 0 0, .slice none 0 0] 29)).heap.size = y2.heap.size + 1) := by unfold Hid; simp
        have C3 := hide (chain C2.out PBx.out)
        go_simp
        try go_wp2_with fail
        refine hK.out _ _ (H6.out _ C3.out) (fun hHeld2 => ?_)
        clear hK K hHeld
        have hHeld := hHeld2
        clear hHeld2
        generalize y2.alloc (.cells #[.int .i64 0, .int .i64 0, .int .i64 0, .slice none 0 0, .slice none 0 0, .slice none 0 0, .slice none 0 0, .slice none 0 0, .slice none 0 0, .slice none 0 0] 29) = y3 at *
        try simp only [Act.put, List.setIfInBounds_toArray, List.set_cons_zero, List.set_cons_succ]
        refine wpAnyH_ready (rs := [5]) (by kernel_rfl) (by simp) ?_
        refine AllReadyH.cons (o := { dst := none, op := Go.Op.store 29 (Go.Operand.tmp 8) (Go.Operand.tmp 23), type := 0, pos := "outright.go:221", after := #[{ on := 4, ground := Go.Ground.data }, { on := 3, ground := Go.Ground.data }, { on := 3, ground := Go.Ground.chain }, { on := 0, ground := Go.Ground.phase }, { on := 1, ground := Go.Ground.phase }, { on := 2, ground := Go.Ground.phase }, { on := 3, ground := Go.Ground.phase }, { on := 4, ground := Go.Ground.phase }], guard := none }) rfl (fun K hK => ?_) AllReadyH.nil
        have NBF := NB.out
        have g0 := NBF.cell 0 _ rfl
        have f0 := NBF.free 0
        have g1 := NBF.cell 1 _ rfl
        have f1 := NBF.free 1
        have g2 := NBF.cell 2 _ rfl
        have f2 := NBF.free 2
        have g3 := NBF.cell 3 _ rfl
        have f3 := NBF.free 3
        have g4 := NBF.cell 4 _ rfl
        have f4 := NBF.free 4
        have g5 := NBF.cell 5 _ rfl
        have f5 := NBF.free 5
        have g6 := NBF.cell 6 _ rfl
        have f6 := NBF.free 6
        have g7 := NBF.cell 7 _ rfl
        have f7 := NBF.free 7
        have g8 := NBF.cell 8 _ rfl
        have f8 := NBF.free 8
        have g9 := NBF.cell 9 _ rfl
        have f9 := NBF.free 9
        go_simp
        try go_wp2_with fail
        clear g0 f0 g1 f1 g2 f2 g3 f3 g4 f4 g5 f5 g6 f6 g7 f7 g8 f8 g9 f9
        obtain ⟨v1, v2, v3, v4⟩ := ten_sets (w0 := W8) (B := W8.heap.size) C3.out (C2.out.size) NBF rfl (.int .i64 s.id) (.int .i64 s.frame) (.int .i64 s.epoch) (.slice z3 m3 k3) (.slice z4 m4 k4) (.slice z5 m5 k5) (.slice z6 m6 k6) (.slice z7 m7 k7) (.slice z8 m8 k8) (.slice z9 m9 k9)
        have FSr : Hid (Srg W8.heap.size y2.heap.size ((((((((((y3.setCell ⟨y2.heap.size, 0, none⟩ (.int .i64 s.id)).setCell ⟨y2.heap.size, 1, none⟩ (.int .i64 s.frame)).setCell ⟨y2.heap.size, 2, none⟩ (.int .i64 s.epoch)).setCell ⟨y2.heap.size, 3, none⟩ (.slice z3 m3 k3)).setCell ⟨y2.heap.size, 4, none⟩ (.slice z4 m4 k4)).setCell ⟨y2.heap.size, 5, none⟩ (.slice z5 m5 k5)).setCell ⟨y2.heap.size, 6, none⟩ (.slice z6 m6 k6)).setCell ⟨y2.heap.size, 7, none⟩ (.slice z7 m7 k7)).setCell ⟨y2.heap.size, 8, none⟩ (.slice z8 m8 k8)).setCell ⟨y2.heap.size, 9, none⟩ (.slice z9 m9 k9)) [.int .i64 s.id, .int .i64 s.frame, .int .i64 s.epoch, .slice z3 m3 k3, .slice z4 m4 k4, .slice z5 m5 k5, .slice z6 m6 k6, .slice z7 m7 k7, .slice z8 m8 k8, .slice z9 m9 k9] { s with procs := KP, ready := KR, timers := KT }) := Srg.box (Srg.mono ((SFI.out.srg (g := y2.heap.size) (.inr (Nat.le_refl _))).below PBx.out) C1.out.size) v3 v4
        have FB := hide v1
        have FX := hide v2
        have FZ : Hid (y2.heap.size < ((((((((((y3.setCell ⟨y2.heap.size, 0, none⟩ (.int .i64 s.id)).setCell ⟨y2.heap.size, 1, none⟩ (.int .i64 s.frame)).setCell ⟨y2.heap.size, 2, none⟩ (.int .i64 s.epoch)).setCell ⟨y2.heap.size, 3, none⟩ (.slice z3 m3 k3)).setCell ⟨y2.heap.size, 4, none⟩ (.slice z4 m4 k4)).setCell ⟨y2.heap.size, 5, none⟩ (.slice z5 m5 k5)).setCell ⟨y2.heap.size, 6, none⟩ (.slice z6 m6 k6)).setCell ⟨y2.heap.size, 7, none⟩ (.slice z7 m7 k7)).setCell ⟨y2.heap.size, 8, none⟩ (.slice z8 m8 k8)).setCell ⟨y2.heap.size, 9, none⟩ (.slice z9 m9 k9)).heap.size) := block_lt_of_cell (v2.cell 0 _ rfl)
        clear v1 v2 v3 v4 NBF
        refine hK.out _ _ (H6.out _ FB.out) (fun hHeld2 => ?_)
        clear hK K hHeld hHeld2
        generalize ((((((((((y3.setCell ⟨y2.heap.size, 0, none⟩ (.int .i64 s.id)).setCell ⟨y2.heap.size, 1, none⟩ (.int .i64 s.frame)).setCell ⟨y2.heap.size, 2, none⟩ (.int .i64 s.epoch)).setCell ⟨y2.heap.size, 3, none⟩ (.slice z3 m3 k3)).setCell ⟨y2.heap.size, 4, none⟩ (.slice z4 m4 k4)).setCell ⟨y2.heap.size, 5, none⟩ (.slice z5 m5 k5)).setCell ⟨y2.heap.size, 6, none⟩ (.slice z6 m6 k6)).setCell ⟨y2.heap.size, 7, none⟩ (.slice z7 m7 k7)).setCell ⟨y2.heap.size, 8, none⟩ (.slice z8 m8 k8)).setCell ⟨y2.heap.size, 9, none⟩ (.slice z9 m9 k9)) = WF at *
        try simp only [Act.put, List.setIfInBounds_toArray, List.set_cons_zero, List.set_cons_succ]
        refine wpAnyH_done (by kernel_rfl) ?_ _
        go_wp2
        go_meet
        case rel => exact ⟨_, _, rfl, FX.out, FSr.out, FB.out, C2.out.size, FZ.out⟩
      · have NB := hide (bl_alloc y1 #[.int .i64 0, .int .i64 0, .int .i64 0, .slice none 0 0, .slice none 0 0, .slice none 0 0, .slice none 0 0, .slice none 0 0, .slice none 0 0, .slice none 0 0] 29)
        have PBx := hide (one_below y1 (.cells #[.int .i64 0, .int .i64 0, .int .i64 0, .slice none 0 0, .slice none 0 0, .slice none 0 0, .slice none 0 0, .slice none 0 0, .slice none 0 0, .slice none 0 0] 29))
        have ZB : Hid ((y1.alloc (.cells #[.int .i64 0, .int .i64 0, .int .i64 0, .slice none 0 0, .slice none 0 0, .slice none 0 0, .slice none 0 0, .slice none 0 0, .slice none 0 0, .slice none 0 0] 29)).heap.size = y1.heap.size + 1) := by unfold Hid; simp
        have C2 := hide (chain C1.out PBx.out)
        go_simp
        try go_wp2_with fail
        refine hK.out _ _ (H6.out _ C2.out) (fun hHeld2 => ?_)
        clear hK K hHeld
        have hHeld := hHeld2
        clear hHeld2
        generalize y1.alloc (.cells #[.int .i64 0, .int .i64 0, .int .i64 0, .slice none 0 0, .slice none 0 0, .slice none 0 0, .slice none 0 0, .slice none 0 0, .slice none 0 0, .slice none 0 0] 29) = y2 at *
        try simp only [Act.put, List.setIfInBounds_toArray, List.set_cons_zero, List.set_cons_succ]
        refine wpAnyH_ready (rs := [3]) (by kernel_rfl) (by simp) ?_
        refine AllReadyH.cons (o := { dst := some 23, op := Go.Op.call { callee := Go.Callee.value (Go.Operand.func 7), args := #[Go.Operand.tmp 20, Go.Operand.tmp 22], argTypes := #[29, 34] }, type := 29, pos := "outright.go:221", after := #[{ on := 0, ground := Go.Ground.data }, { on := 2, ground := Go.Ground.data }, { on := 2, ground := Go.Ground.chain }], guard := none }) rfl (fun K hK => ?_) AllReadyH.nil
        go_simp
        go_at_call 7
        refine (into_any y2 s cs (HS.out.below (chain B8.out C2.out)) pa pn pc P KP (HP.out.below (chain B8.out C2.out)) ra rn rc R KR (HR.out.below (chain B8.out C2.out)) ta tn tc T KT (HT.out.below (chain B8.out C2.out))).mono ?_
        rintro e y3 ⟨cu, rfl, hsf, bi⟩
        have SFI := hide hsf
        have C3 := hide (chain C2.out bi)
        have BI := hide bi
        clear bi hsf
        obtain ⟨z3, m3, k3, _, z4, m4, k4, _, z5, m5, k5, _, z6, m6, k6, _, z7, m7, k7, _, z8, m8, k8, _, z9, m9, k9, _, hq, hjunk⟩ := SFI.out.sr
        clear hjunk
        subst hq
        try go_wp2_with fail
        refine hK.out _ _ (H6.out _ C3.out) (fun hHeld2 => ?_)
        clear hK K hHeld
        have hHeld := hHeld2
        clear hHeld2
        try simp only [Act.put, List.setIfInBounds_toArray, List.set_cons_zero, List.set_cons_succ]
        refine wpAnyH_ready (rs := [5]) (by kernel_rfl) (by simp) ?_
        refine AllReadyH.cons (o := { dst := none, op := Go.Op.store 29 (Go.Operand.tmp 8) (Go.Operand.tmp 23), type := 0, pos := "outright.go:221", after := #[{ on := 4, ground := Go.Ground.data }, { on := 3, ground := Go.Ground.data }, { on := 3, ground := Go.Ground.chain }, { on := 0, ground := Go.Ground.phase }, { on := 1, ground := Go.Ground.phase }, { on := 2, ground := Go.Ground.phase }, { on := 3, ground := Go.Ground.phase }, { on := 4, ground := Go.Ground.phase }], guard := none }) rfl (fun K hK => ?_) AllReadyH.nil
        have NBF := (NB.out.below (by have := ZB.out; omega) BI.out)
        have g0 := NBF.cell 0 _ rfl
        have f0 := NBF.free 0
        have g1 := NBF.cell 1 _ rfl
        have f1 := NBF.free 1
        have g2 := NBF.cell 2 _ rfl
        have f2 := NBF.free 2
        have g3 := NBF.cell 3 _ rfl
        have f3 := NBF.free 3
        have g4 := NBF.cell 4 _ rfl
        have f4 := NBF.free 4
        have g5 := NBF.cell 5 _ rfl
        have f5 := NBF.free 5
        have g6 := NBF.cell 6 _ rfl
        have f6 := NBF.free 6
        have g7 := NBF.cell 7 _ rfl
        have f7 := NBF.free 7
        have g8 := NBF.cell 8 _ rfl
        have f8 := NBF.free 8
        have g9 := NBF.cell 9 _ rfl
        have f9 := NBF.free 9
        go_simp
        try go_wp2_with fail
        clear g0 f0 g1 f1 g2 f2 g3 f3 g4 f4 g5 f5 g6 f6 g7 f7 g8 f8 g9 f9
        obtain ⟨v1, v2, v3, v4⟩ := ten_sets (w0 := W8) (B := W8.heap.size) C3.out (C1.out.size) NBF rfl (.int .i64 s.id) (.int .i64 s.frame) (.int .i64 s.epoch) (.slice z3 m3 k3) (.slice z4 m4 k4) (.slice z5 m5 k5) (.slice z6 m6 k6) (.slice z7 m7 k7) (.slice z8 m8 k8) (.slice z9 m9 k9)
        have FSr : Hid (Srg W8.heap.size y1.heap.size ((((((((((y3.setCell ⟨y1.heap.size, 0, none⟩ (.int .i64 s.id)).setCell ⟨y1.heap.size, 1, none⟩ (.int .i64 s.frame)).setCell ⟨y1.heap.size, 2, none⟩ (.int .i64 s.epoch)).setCell ⟨y1.heap.size, 3, none⟩ (.slice z3 m3 k3)).setCell ⟨y1.heap.size, 4, none⟩ (.slice z4 m4 k4)).setCell ⟨y1.heap.size, 5, none⟩ (.slice z5 m5 k5)).setCell ⟨y1.heap.size, 6, none⟩ (.slice z6 m6 k6)).setCell ⟨y1.heap.size, 7, none⟩ (.slice z7 m7 k7)).setCell ⟨y1.heap.size, 8, none⟩ (.slice z8 m8 k8)).setCell ⟨y1.heap.size, 9, none⟩ (.slice z9 m9 k9)) [.int .i64 s.id, .int .i64 s.frame, .int .i64 s.epoch, .slice z3 m3 k3, .slice z4 m4 k4, .slice z5 m5 k5, .slice z6 m6 k6, .slice z7 m7 k7, .slice z8 m8 k8, .slice z9 m9 k9] { s with procs := KP, ready := KR, timers := KT }) := Srg.box (Srg.mono (SFI.out.srg (g := y1.heap.size) (.inl (by have := ZB.out; omega))) C2.out.size) v3 v4
        have FB := hide v1
        have FX := hide v2
        have FZ : Hid (y1.heap.size < ((((((((((y3.setCell ⟨y1.heap.size, 0, none⟩ (.int .i64 s.id)).setCell ⟨y1.heap.size, 1, none⟩ (.int .i64 s.frame)).setCell ⟨y1.heap.size, 2, none⟩ (.int .i64 s.epoch)).setCell ⟨y1.heap.size, 3, none⟩ (.slice z3 m3 k3)).setCell ⟨y1.heap.size, 4, none⟩ (.slice z4 m4 k4)).setCell ⟨y1.heap.size, 5, none⟩ (.slice z5 m5 k5)).setCell ⟨y1.heap.size, 6, none⟩ (.slice z6 m6 k6)).setCell ⟨y1.heap.size, 7, none⟩ (.slice z7 m7 k7)).setCell ⟨y1.heap.size, 8, none⟩ (.slice z8 m8 k8)).setCell ⟨y1.heap.size, 9, none⟩ (.slice z9 m9 k9)).heap.size) := block_lt_of_cell (v2.cell 0 _ rfl)
        clear v1 v2 v3 v4 NBF
        refine hK.out _ _ (H6.out _ FB.out) (fun hHeld2 => ?_)
        clear hK K hHeld hHeld2
        generalize ((((((((((y3.setCell ⟨y1.heap.size, 0, none⟩ (.int .i64 s.id)).setCell ⟨y1.heap.size, 1, none⟩ (.int .i64 s.frame)).setCell ⟨y1.heap.size, 2, none⟩ (.int .i64 s.epoch)).setCell ⟨y1.heap.size, 3, none⟩ (.slice z3 m3 k3)).setCell ⟨y1.heap.size, 4, none⟩ (.slice z4 m4 k4)).setCell ⟨y1.heap.size, 5, none⟩ (.slice z5 m5 k5)).setCell ⟨y1.heap.size, 6, none⟩ (.slice z6 m6 k6)).setCell ⟨y1.heap.size, 7, none⟩ (.slice z7 m7 k7)).setCell ⟨y1.heap.size, 8, none⟩ (.slice z8 m8 k8)).setCell ⟨y1.heap.size, 9, none⟩ (.slice z9 m9 k9)) = WF at *
        try simp only [Act.put, List.setIfInBounds_toArray, List.set_cons_zero, List.set_cons_succ]
        refine wpAnyH_done (by kernel_rfl) ?_ _
        go_wp2
        go_meet
        case rel => exact ⟨_, _, rfl, FX.out, FSr.out, FB.out, C1.out.size, FZ.out⟩
    · have NB := hide (bl_alloc Y0 #[.int .i64 0, .int .i64 0, .int .i64 0, .slice none 0 0, .slice none 0 0, .slice none 0 0, .slice none 0 0, .slice none 0 0, .slice none 0 0, .slice none 0 0] 29)
      have PBx := hide (one_below Y0 (.cells #[.int .i64 0, .int .i64 0, .int .i64 0, .slice none 0 0, .slice none 0 0, .slice none 0 0, .slice none 0 0, .slice none 0 0, .slice none 0 0, .slice none 0 0] 29))
      have ZB : Hid ((Y0.alloc (.cells #[.int .i64 0, .int .i64 0, .int .i64 0, .slice none 0 0, .slice none 0 0, .slice none 0 0, .slice none 0 0, .slice none 0 0, .slice none 0 0, .slice none 0 0] 29)).heap.size = Y0.heap.size + 1) := by unfold Hid; simp
      have C1 := hide (chain C0.out PBx.out)
      go_simp
      try go_wp2_with fail
      refine hK.out _ _ (H6.out _ C1.out) (fun hHeld2 => ?_)
      clear hK K hHeld
      have hHeld := hHeld2
      clear hHeld2
      generalize Y0.alloc (.cells #[.int .i64 0, .int .i64 0, .int .i64 0, .slice none 0 0, .slice none 0 0, .slice none 0 0, .slice none 0 0, .slice none 0 0, .slice none 0 0, .slice none 0 0] 29) = y1 at *
      try simp only [Act.put, List.setIfInBounds_toArray, List.set_cons_zero, List.set_cons_succ]
      refine wpAnyH_ready (rs := [2]) (by kernel_rfl) (by simp) ?_
      refine AllReadyH.cons (o := { dst := some 22, op := Go.Op.call { callee := Go.Callee.value (Go.Operand.func 8), args := #[Go.Operand.tmp 21], argTypes := #[31] }, type := 34, pos := "outright.go:221", after := #[{ on := 1, ground := Go.Ground.data }], guard := none }) rfl (fun K hK => ?_) AllReadyH.nil
      go_simp
      go_at_call 8
      refine (to_slices y1 pa ra ta pn pc rn rc tn tc).mono ?_
      rintro e y2 ⟨rfl, bt⟩
      have C2 := hide (chain C1.out bt)
      have BT := hide bt
      clear bt
      try go_wp2_with fail
      refine hK.out _ _ (H6.out _ C2.out) (fun hHeld2 => ?_)
      clear hK K hHeld
      have hHeld := hHeld2
      clear hHeld2
      try simp only [Act.put, List.setIfInBounds_toArray, List.set_cons_zero, List.set_cons_succ]
      refine wpAnyH_ready (rs := [3]) (by kernel_rfl) (by simp) ?_
      refine AllReadyH.cons (o := { dst := some 23, op := Go.Op.call { callee := Go.Callee.value (Go.Operand.func 7), args := #[Go.Operand.tmp 20, Go.Operand.tmp 22], argTypes := #[29, 34] }, type := 29, pos := "outright.go:221", after := #[{ on := 0, ground := Go.Ground.data }, { on := 2, ground := Go.Ground.data }, { on := 2, ground := Go.Ground.chain }], guard := none }) rfl (fun K hK => ?_) AllReadyH.nil
      go_simp
      go_at_call 7
      refine (into_any y2 s cs (HS.out.below (chain B8.out C2.out)) pa pn pc P KP (HP.out.below (chain B8.out C2.out)) ra rn rc R KR (HR.out.below (chain B8.out C2.out)) ta tn tc T KT (HT.out.below (chain B8.out C2.out))).mono ?_
      rintro e y3 ⟨cu, rfl, hsf, bi⟩
      have SFI := hide hsf
      have C3 := hide (chain C2.out bi)
      have BI := hide bi
      clear bi hsf
      obtain ⟨z3, m3, k3, _, z4, m4, k4, _, z5, m5, k5, _, z6, m6, k6, _, z7, m7, k7, _, z8, m8, k8, _, z9, m9, k9, _, hq, hjunk⟩ := SFI.out.sr
      clear hjunk
      subst hq
      try go_wp2_with fail
      refine hK.out _ _ (H6.out _ C3.out) (fun hHeld2 => ?_)
      clear hK K hHeld
      have hHeld := hHeld2
      clear hHeld2
      try simp only [Act.put, List.setIfInBounds_toArray, List.set_cons_zero, List.set_cons_succ]
      refine wpAnyH_ready (rs := [5]) (by kernel_rfl) (by simp) ?_
      refine AllReadyH.cons (o := { dst := none, op := Go.Op.store 29 (Go.Operand.tmp 8) (Go.Operand.tmp 23), type := 0, pos := "outright.go:221", after := #[{ on := 4, ground := Go.Ground.data }, { on := 3, ground := Go.Ground.data }, { on := 3, ground := Go.Ground.chain }, { on := 0, ground := Go.Ground.phase }, { on := 1, ground := Go.Ground.phase }, { on := 2, ground := Go.Ground.phase }, { on := 3, ground := Go.Ground.phase }, { on := 4, ground := Go.Ground.phase }], guard := none }) rfl (fun K hK => ?_) AllReadyH.nil
      have NBF := ((NB.out.below (by have := ZB.out; omega) BT.out).below (by have := ZB.out; have := BT.out.size; omega) BI.out)
      have g0 := NBF.cell 0 _ rfl
      have f0 := NBF.free 0
      have g1 := NBF.cell 1 _ rfl
      have f1 := NBF.free 1
      have g2 := NBF.cell 2 _ rfl
      have f2 := NBF.free 2
      have g3 := NBF.cell 3 _ rfl
      have f3 := NBF.free 3
      have g4 := NBF.cell 4 _ rfl
      have f4 := NBF.free 4
      have g5 := NBF.cell 5 _ rfl
      have f5 := NBF.free 5
      have g6 := NBF.cell 6 _ rfl
      have f6 := NBF.free 6
      have g7 := NBF.cell 7 _ rfl
      have f7 := NBF.free 7
      have g8 := NBF.cell 8 _ rfl
      have f8 := NBF.free 8
      have g9 := NBF.cell 9 _ rfl
      have f9 := NBF.free 9
      go_simp
      try go_wp2_with fail
      clear g0 f0 g1 f1 g2 f2 g3 f3 g4 f4 g5 f5 g6 f6 g7 f7 g8 f8 g9 f9
      obtain ⟨v1, v2, v3, v4⟩ := ten_sets (w0 := W8) (B := W8.heap.size) C3.out (C0.out.size) NBF rfl (.int .i64 s.id) (.int .i64 s.frame) (.int .i64 s.epoch) (.slice z3 m3 k3) (.slice z4 m4 k4) (.slice z5 m5 k5) (.slice z6 m6 k6) (.slice z7 m7 k7) (.slice z8 m8 k8) (.slice z9 m9 k9)
      have FSr : Hid (Srg W8.heap.size Y0.heap.size ((((((((((y3.setCell ⟨Y0.heap.size, 0, none⟩ (.int .i64 s.id)).setCell ⟨Y0.heap.size, 1, none⟩ (.int .i64 s.frame)).setCell ⟨Y0.heap.size, 2, none⟩ (.int .i64 s.epoch)).setCell ⟨Y0.heap.size, 3, none⟩ (.slice z3 m3 k3)).setCell ⟨Y0.heap.size, 4, none⟩ (.slice z4 m4 k4)).setCell ⟨Y0.heap.size, 5, none⟩ (.slice z5 m5 k5)).setCell ⟨Y0.heap.size, 6, none⟩ (.slice z6 m6 k6)).setCell ⟨Y0.heap.size, 7, none⟩ (.slice z7 m7 k7)).setCell ⟨Y0.heap.size, 8, none⟩ (.slice z8 m8 k8)).setCell ⟨Y0.heap.size, 9, none⟩ (.slice z9 m9 k9)) [.int .i64 s.id, .int .i64 s.frame, .int .i64 s.epoch, .slice z3 m3 k3, .slice z4 m4 k4, .slice z5 m5 k5, .slice z6 m6 k6, .slice z7 m7 k7, .slice z8 m8 k8, .slice z9 m9 k9] { s with procs := KP, ready := KR, timers := KT }) := Srg.box (Srg.mono (SFI.out.srg (g := Y0.heap.size) (.inl (by have := ZB.out; have := BT.out.size; omega))) C2.out.size) v3 v4
      have FB := hide v1
      have FX := hide v2
      have FZ : Hid (Y0.heap.size < ((((((((((y3.setCell ⟨Y0.heap.size, 0, none⟩ (.int .i64 s.id)).setCell ⟨Y0.heap.size, 1, none⟩ (.int .i64 s.frame)).setCell ⟨Y0.heap.size, 2, none⟩ (.int .i64 s.epoch)).setCell ⟨Y0.heap.size, 3, none⟩ (.slice z3 m3 k3)).setCell ⟨Y0.heap.size, 4, none⟩ (.slice z4 m4 k4)).setCell ⟨Y0.heap.size, 5, none⟩ (.slice z5 m5 k5)).setCell ⟨Y0.heap.size, 6, none⟩ (.slice z6 m6 k6)).setCell ⟨Y0.heap.size, 7, none⟩ (.slice z7 m7 k7)).setCell ⟨Y0.heap.size, 8, none⟩ (.slice z8 m8 k8)).setCell ⟨Y0.heap.size, 9, none⟩ (.slice z9 m9 k9)).heap.size) := block_lt_of_cell (v2.cell 0 _ rfl)
      clear v1 v2 v3 v4 NBF
      refine hK.out _ _ (H6.out _ FB.out) (fun hHeld2 => ?_)
      clear hK K hHeld hHeld2
      generalize ((((((((((y3.setCell ⟨Y0.heap.size, 0, none⟩ (.int .i64 s.id)).setCell ⟨Y0.heap.size, 1, none⟩ (.int .i64 s.frame)).setCell ⟨Y0.heap.size, 2, none⟩ (.int .i64 s.epoch)).setCell ⟨Y0.heap.size, 3, none⟩ (.slice z3 m3 k3)).setCell ⟨Y0.heap.size, 4, none⟩ (.slice z4 m4 k4)).setCell ⟨Y0.heap.size, 5, none⟩ (.slice z5 m5 k5)).setCell ⟨Y0.heap.size, 6, none⟩ (.slice z6 m6 k6)).setCell ⟨Y0.heap.size, 7, none⟩ (.slice z7 m7 k7)).setCell ⟨Y0.heap.size, 8, none⟩ (.slice z8 m8 k8)).setCell ⟨Y0.heap.size, 9, none⟩ (.slice z9 m9 k9)) = WF at *
      try simp only [Act.put, List.setIfInBounds_toArray, List.set_cons_zero, List.set_cons_succ]
      refine wpAnyH_done (by kernel_rfl) ?_ _
      go_wp2
      go_meet
      case rel => exact ⟨_, _, rfl, FX.out, FSr.out, FB.out, C0.out.size, FZ.out⟩
  case rest =>
    obtain ⟨gu, cu, rfl, hbu, hsu, hb9, hg1, hg2⟩ := hcut
    obtain ⟨uz3, um3, uk3, _, uz4, um4, uk4, _, uz5, um5, uk5, _, uz6, um6, uk6, _, uz7, um7, uk7, _, uz8, um8, uk8, _, uz9, um9, uk9, _, hqu, hjunk⟩ := hsu.sr
    clear hjunk
    subst hqu
    obtain ⟨sz3, sm3, sk3, _, sz4, sm4, sk4, _, sz5, sm5, sk5, _, sz6, sm6, sk6, _, sz7, sm7, sk7, _, sz8, sm8, sk8, _, sz9, sm9, sk9, _, hqs, hjunk⟩ := HS.out
    clear hjunk
    subst hqs
    have lu := sr_lit hsu.sr
    have ls := sr_lit HS.out
    obtain rfl : sm6 = um6 := ls.2.1.size.symm.trans lu.2.1.size
    obtain rfl : sm7 = um7 := ls.2.2.1.size.symm.trans lu.2.2.1.size
    obtain rfl : sm8 = um8 := ls.2.2.2.1.size.symm.trans lu.2.2.2.1.size
    obtain rfl : sm9 = um9 := ls.2.2.2.2.size.symm.trans lu.2.2.2.2.size
    have sb6 := ls.2.1.most
    have sb8 := ls.2.2.2.1.most
    have sb9 := ls.2.2.2.2.most
    clear lu ls
    have z8 := Z8.out
    have z1 := Z1.out
    have NS9 := hide (NS8.out.below (by omega) hb9)
    have NT9 := hide (NT8.out.below (by omega) hb9)
    have BX9 := hide (BX8.out.below (by omega) hb9)
    have BY9 := hide (BY8.out.below (by omega) hb9)
    have BO9 := hide (BO.out.below (by omega) hb9)
    have BU9 := hide hbu
    have SG9 := hide hsu
    have B9 := hide (chain B8.out hb9)
    have Q39 := hide (ownsRow_below Q3.out hb9)
    have Q49 := hide (ownsRow_below Q4.out hb9)
    have Q59 := hide (ownsRow_below Q5.out hb9)
    have Z9 : Hid (w.heap.size + 1 + 1 ≤ w1.heap.size ∧ w1.heap.size + 1 + 1 ≤ W5.heap.size ∧ W5.heap.size ≤ w6.heap.size ∧ w6.heap.size < W8.heap.size ∧ W8.heap.size ≤ gu ∧ gu < wc.heap.size) := ⟨z1, z8.1, z8.2.1, z8.2.2, hg1, hg2⟩
    clear z8 z1 hbu hsu hb9 hg1 hg2 NS8 NT8 BX8 BY8 BO B8 Q3 Q4 Q5 Z8 Z1 D8 HIS
    generalize wc = W9 at *
    have HKo : Hid (∀ W, Below W9.heap.size W9 W → Kv W 64 21 o3 i3 s.procs ∧ Kv W 3 1 o4 i4 s.ready ∧ Kv W 66 2 o5 i5 s.timers) := fun W hb => ⟨((KO3.out.at_ (own_lg Q39.out).row).below hb).kv (by decide) (by decide), ((KO4.out.at_ (own_lg Q49.out).row).below hb).kv (by decide) (by decide), ((KO5.out.at_ (own_lg Q59.out).row).below hb).kv (by decide) (by decide)⟩
    have HKx : Hid (∀ W, Below w.heap.size w W → Kv W 64 21 a3 n3 s.procs ∧ Kv W 3 1 a4 n4 s.ready ∧ Kv W 66 2 a5 n5 s.timers) := fun W hb => ⟨(KX3.out.below hb).kv (by decide) (by decide), (KX4.out.below hb).kv (by decide) (by decide), (KX5.out.below hb).kv (by decide) (by decide)⟩
    have HKt : Hid (∀ W, Below w.heap.size w W → Kv W 64 21 pa pn KP ∧ Kv W 3 1 ra rn KR ∧ Kv W 66 2 ta tn KT) := fun W hb => ⟨(HP.out.below hb).kv (by decide) (by decide), (HR.out.below hb).kv (by decide) (by decide), (HT.out.below hb).kv (by decide) (by decide)⟩
    have HIU : Hid ((Tryd.prog.info? 29).map (·.size) = some ([.int .i64 s.id, .int .i64 s.frame, .int .i64 s.epoch, .slice uz3 um3 uk3, .slice uz4 um4 uk4, .slice uz5 um5 uk5, .slice uz6 sm6 uk6, .slice uz7 sm7 uk7, .slice uz8 sm8 uk8, .slice uz9 sm9 uk9] : List Value).length) := infoState
    have HIS : Hid ((Tryd.prog.info? 29).map (·.size) = some ([.int .i64 s.id, .int .i64 s.frame, .int .i64 s.epoch, .slice sz3 sm3 sk3, .slice sz4 sm4 sk4, .slice sz5 sm5 sk5, .slice sz6 sm6 sk6, .slice sz7 sm7 sk7, .slice sz8 sm8 sk8, .slice sz9 sm9 sk9] : List Value).length) := infoState
    have H7 : Hid (∀ wz, Below W9.heap.size W9 wz → (fun wz => wz.cell? ⟨w1.heap.size, 0, none⟩ = some (.slice a3 n3 c3) ∧ wz.cell? ⟨w1.heap.size, 1, none⟩ = some (.slice a4 n4 c4) ∧ wz.cell? ⟨w1.heap.size, 2, none⟩ = some (.slice a5 n5 c5) ∧ wz.cell? ⟨w6.heap.size, 0, none⟩ = some (.slice o3 i3 j3) ∧ wz.cell? ⟨w6.heap.size, 1, none⟩ = some (.slice o4 i4 j4) ∧ wz.cell? ⟨w6.heap.size, 2, none⟩ = some (.slice o5 i5 j5) ∧ wz.cell? ⟨w.heap.size + 1, 0, none⟩ = some (.slice pa pn pc) ∧ wz.cell? ⟨w.heap.size + 1, 1, none⟩ = some (.slice ra rn rc) ∧ wz.cell? ⟨w.heap.size + 1, 2, none⟩ = some (.slice ta tn tc) ∧ wz.rangeAt gu 0 [.int .i64 s.id, .int .i64 s.frame, .int .i64 s.epoch, .slice uz3 um3 uk3, .slice uz4 um4 uk4, .slice uz5 um5 uk5, .slice uz6 sm6 uk6, .slice uz7 sm7 uk7, .slice uz8 sm8 uk8, .slice uz9 sm9 uk9]) wz) := fun wz hz => by
      have z9 := Z9.out
      have h1 := BX9.out.below (by omega) hz
      have h2 := BO9.out.below (by omega) hz
      have h3 := NT9.out.below (by omega) hz
      have h4 := BU9.out.below (by omega) hz
      exact ⟨h1.cell 0 _ rfl, h1.cell 1 _ rfl, h1.cell 2 _ rfl, h2.cell 0 _ rfl, h2.cell 1 _ rfl, h2.cell 2 _ rfl, h3.cell 0 _ rfl, h3.cell 1 _ rfl, h3.cell 2 _ rfl, bl_range h4⟩
    go_upto_region 7 with fail
    have C0 : Hid (Below W9.heap.size W9 W9.drew) := (Below.refl _ _).drew
    refine wp_region_held_drew (S := fun wz => wz.cell? ⟨w1.heap.size, 0, none⟩ = some (.slice a3 n3 c3) ∧ wz.cell? ⟨w1.heap.size, 1, none⟩ = some (.slice a4 n4 c4) ∧ wz.cell? ⟨w1.heap.size, 2, none⟩ = some (.slice a5 n5 c5) ∧ wz.cell? ⟨w6.heap.size, 0, none⟩ = some (.slice o3 i3 j3) ∧ wz.cell? ⟨w6.heap.size, 1, none⟩ = some (.slice o4 i4 j4) ∧ wz.cell? ⟨w6.heap.size, 2, none⟩ = some (.slice o5 i5 j5) ∧ wz.cell? ⟨w.heap.size + 1, 0, none⟩ = some (.slice pa pn pc) ∧ wz.cell? ⟨w.heap.size + 1, 1, none⟩ = some (.slice ra rn rc) ∧ wz.cell? ⟨w.heap.size + 1, 2, none⟩ = some (.slice ta tn tc) ∧ wz.rangeAt gu 0 [.int .i64 s.id, .int .i64 s.frame, .int .i64 s.epoch, .slice uz3 um3 uk3, .slice uz4 um4 uk4, .slice uz5 um5 uk5, .slice uz6 sm6 uk6, .slice uz7 sm7 uk7, .slice uz8 sm8 uk8, .slice uz9 sm9 uk9]) (by kernel_rfl) (H7.out _ C0.out) (fun hHeld => ?_)
    generalize W9.drew = Y0 at *
    refine wpAnyH_take (i := 0) (oi := { dst := some 24, op := Go.Op.load 34 (Go.Operand.tmp 7), type := 34, pos := "outright.go:222", after := #[], guard := none }) (v := ?_) rfl (by kernel_rfl) (by kernel_rfl) (by kernel_rfl) (fun _ _ _ h => h) (Or.inl ⟨by rfl, ?_⟩) (by assumption) ?_
    rotate_left
    · intro wq hSw
      try dsimp only at hSw
      go_split_ands
      go_simp
      try with_reducible rfl
    try simp only [Act.put, List.setIfInBounds_toArray, List.set_cons_zero, List.set_cons_succ]
    refine wpAnyH_take (i := 2) (oi := { dst := some 26, op := Go.Op.load 31 (Go.Operand.tmp 5), type := 31, pos := "outright.go:222", after := #[], guard := none }) (v := ?_) rfl (by kernel_rfl) (by kernel_rfl) (by kernel_rfl) (fun _ _ _ h => h) (Or.inl ⟨by rfl, ?_⟩) (by assumption) ?_
    rotate_left
    · intro wq hSw
      try dsimp only at hSw
      go_split_ands
      go_simp
      try with_reducible rfl
    try simp only [Act.put, List.setIfInBounds_toArray, List.set_cons_zero, List.set_cons_succ]
    refine wpAnyH_ready (rs := [1]) (by kernel_rfl) (by simp) ?_
    refine AllReadyH.cons (o := { dst := some 25, op := Go.Op.call { callee := Go.Callee.value (Go.Operand.func 10), args := #[Go.Operand.tmp 24], argTypes := #[34] }, type := 31, pos := "outright.go:222", after := #[{ on := 0, ground := Go.Ground.data }], guard := none }) rfl (fun K hK => ?_) AllReadyH.nil
    go_simp
    go_at_call 10
    refine (from_slices Y0 o3 o4 o5 i3 j3 i4 j4 i5 j5).mono ?_
    rintro e y1 ⟨rfl, bt⟩
    have C1 := hide (chain C0.out bt)
    clear bt
    try go_wp2_with fail
    refine hK.out _ _ (H7.out _ C1.out) (fun hHeld2 => ?_)
    clear hK K hHeld
    have hHeld := hHeld2
    clear hHeld2
    try simp only [Act.put, List.setIfInBounds_toArray, List.set_cons_zero, List.set_cons_succ]
    refine wpAnyH_ready (rs := [3]) (by kernel_rfl) (by simp) ?_
    refine AllReadyH.cons (o := { dst := some 27, op := Go.Op.call { callee := Go.Callee.value (Go.Operand.func 9), args := #[Go.Operand.tmp 25, Go.Operand.tmp 26], argTypes := #[31, 31] }, type := 4, pos := "outright.go:222", after := #[{ on := 1, ground := Go.Ground.data }, { on := 2, ground := Go.Ground.data }, { on := 1, ground := Go.Ground.chain }], guard := none }) rfl (fun K hK => ?_) AllReadyH.nil
    go_simp
    go_at_call 9
    have ko := HKo.out y1 C1.out
    have kx := HKx.out y1 (chain B9.out C1.out)
    refine (tabEq_yes y1 s.procs s.ready s.timers o3 o4 o5 a3 a4 a5 i3 j3 i4 j4 i5 j5 n3 c3 n4 c4 n5 c5 ko.1 ko.2.1 ko.2.2 kx.1 kx.2.1 kx.2.2).mono ?_
    clear ko kx
    rintro e y2 ⟨rfl, bt⟩
    have C2 := hide (chain C1.out bt)
    clear bt
    try go_wp2_with fail
    refine hK.out _ _ (H7.out _ C2.out) (fun hHeld2 => ?_)
    clear hK K hHeld
    have hHeld := hHeld2
    clear hHeld2
    try simp only [Act.put, List.setIfInBounds_toArray, List.set_cons_zero, List.set_cons_succ]
    refine wpAnyH_take (i := 4) (oi := { dst := some 28, op := Go.Op.unOp Go.UnOp.not 4 (Go.Operand.tmp 27), type := 4, pos := "outright.go:222", after := #[{ on := 3, ground := Go.Ground.data }], guard := none }) (v := ?_) rfl (by kernel_rfl) (by kernel_rfl) (by kernel_rfl) (fun _ _ _ h => h) (Or.inl ⟨by rfl, ?_⟩) (by assumption) ?_
    rotate_left
    · intro wq hSw
      try dsimp only at hSw
      go_split_ands
      go_simp
      try with_reducible rfl
    try simp only [Act.put, List.setIfInBounds_toArray, List.set_cons_zero, List.set_cons_succ]
    refine wpAnyH_take (i := 5) (oi := { dst := some 29, op := Go.Op.move (Go.Operand.tmp 28), type := 4, pos := "outright.go:222", after := #[{ on := 4, ground := Go.Ground.data }, { on := 3, ground := Go.Ground.chain }], guard := none }) (v := ?_) rfl (by kernel_rfl) (by kernel_rfl) (by kernel_rfl) (fun _ _ _ h => h) (Or.inl ⟨by rfl, ?_⟩) (by assumption) ?_
    rotate_left
    · intro wq hSw
      try dsimp only at hSw
      go_split_ands
      go_simp
      try with_reducible rfl
    try simp only [Act.put, List.setIfInBounds_toArray, List.set_cons_zero, List.set_cons_succ]
    refine wpAnyH_take (i := 6) (oi := { dst := some 30, op := Go.Op.load 29 (Go.Operand.tmp 8), type := 29, pos := "outright.go:222", after := #[{ on := 5, ground := Go.Ground.guard }], guard := some (5, false) }) rfl (by kernel_rfl) (by kernel_rfl) (by kernel_rfl) (fun _ _ _ h => h) (yieldsIf_load_mid (by rfl) _ _ rfl _ _ rfl _ _ (fun _ h => h.2.2.2.2.2.2.2.2.2) HUS.out rfl HIU.out) (by assumption) ?_
    try simp only [Act.put, List.setIfInBounds_toArray, List.set_cons_zero, List.set_cons_succ]
    refine wpAnyH_take (i := 9) (oi := { dst := some 33, op := Go.Op.load 31 (Go.Operand.tmp 3), type := 31, pos := "outright.go:222", after := #[{ on := 5, ground := Go.Ground.guard }], guard := some (5, false) }) (v := ?_) rfl (by kernel_rfl) (by kernel_rfl) (by kernel_rfl) (fun _ _ _ h => h) (Or.inl ⟨by rfl, ?_⟩) (by assumption) ?_
    rotate_left
    · intro wq hSw
      try dsimp only at hSw
      go_split_ands
      go_simp
      try with_reducible rfl
    try simp only [Act.put, List.setIfInBounds_toArray, List.set_cons_zero, List.set_cons_succ]
    refine wpAnyH_ready (rs := [7]) (by kernel_rfl) (by simp) ?_
    refine AllReadyH.cons (o := { dst := some 31, op := Go.Op.call { callee := Go.Callee.value (Go.Operand.func 6), args := #[Go.Operand.tmp 30], argTypes := #[29] }, type := 34, pos := "outright.go:222", after := #[{ on := 6, ground := Go.Ground.data }, { on := 5, ground := Go.Ground.chain }, { on := 5, ground := Go.Ground.guard }], guard := some (5, false) }) rfl (fun K hK => ?_) AllReadyH.nil
    go_simp
    go_at_call 6
    refine (of_sr y2 _ _ (SG9.out.sr.below C2.out)).mono ?_
    rintro e y3 ⟨e3, l3, m3, _, e4, l4, m4, _, e5, l5, m5, _, rfl, _, _, _, k3, k4, k5, bt⟩
    have C3 := hide (chain C2.out bt)
    have KF3 := hide (k3.kv (by decide) (by decide))
    have KF4 := hide (k4.kv (by decide) (by decide))
    have KF5 := hide (k5.kv (by decide) (by decide))
    clear bt k3 k4 k5
    try go_wp2_with fail
    refine hK.out _ _ (H7.out _ C3.out) (fun hHeld2 => ?_)
    clear hK K hHeld
    have hHeld := hHeld2
    clear hHeld2
    try simp only [Act.put, List.setIfInBounds_toArray, List.set_cons_zero, List.set_cons_succ]
    refine wpAnyH_ready (rs := [8]) (by kernel_rfl) (by simp) ?_
    refine AllReadyH.cons (o := { dst := some 32, op := Go.Op.call { callee := Go.Callee.value (Go.Operand.func 10), args := #[Go.Operand.tmp 31], argTypes := #[34] }, type := 31, pos := "outright.go:222", after := #[{ on := 7, ground := Go.Ground.data }, { on := 7, ground := Go.Ground.chain }, { on := 5, ground := Go.Ground.guard }], guard := some (5, false) }) rfl (fun K hK => ?_) AllReadyH.nil
    go_simp
    go_at_call 10
    refine (from_slices y3 e3 e4 e5 l3 m3 l4 m4 l5 m5).mono ?_
    rintro e y4 ⟨rfl, bt⟩
    have C4 := hide (chain C3.out bt)
    have KG3 := hide (KF3.out.below bt)
    have KG4 := hide (KF4.out.below bt)
    have KG5 := hide (KF5.out.below bt)
    clear bt
    try go_wp2_with fail
    refine hK.out _ _ (H7.out _ C4.out) (fun hHeld2 => ?_)
    clear hK K hHeld
    have hHeld := hHeld2
    clear hHeld2
    try simp only [Act.put, List.setIfInBounds_toArray, List.set_cons_zero, List.set_cons_succ]
    refine wpAnyH_ready (rs := [10]) (by kernel_rfl) (by simp) ?_
    refine AllReadyH.cons (o := { dst := some 34, op := Go.Op.call { callee := Go.Callee.value (Go.Operand.func 9), args := #[Go.Operand.tmp 32, Go.Operand.tmp 33], argTypes := #[31, 31] }, type := 4, pos := "outright.go:222", after := #[{ on := 8, ground := Go.Ground.data }, { on := 9, ground := Go.Ground.data }, { on := 8, ground := Go.Ground.chain }, { on := 5, ground := Go.Ground.guard }], guard := some (5, false) }) rfl (fun K hK => ?_) AllReadyH.nil
    go_simp
    go_at_call 9
    have kt := HKt.out y4 (chain B9.out C4.out)
    refine (tabEq_yes y4 KP KR KT e3 e4 e5 pa ra ta l3 m3 l4 m4 l5 m5 pn pc rn rc tn tc KG3.out KG4.out KG5.out kt.1 kt.2.1 kt.2.2).mono ?_
    clear kt
    rintro e y5 ⟨rfl, bt⟩
    have C5 := hide (chain C4.out bt)
    clear bt
    try go_wp2_with fail
    refine hK.out _ _ (H7.out _ C5.out) (fun hHeld2 => ?_)
    clear hK K hHeld
    have hHeld := hHeld2
    clear hHeld2
    try simp only [Act.put, List.setIfInBounds_toArray, List.set_cons_zero, List.set_cons_succ]
    refine wpAnyH_take (i := 11) (oi := { dst := some 35, op := Go.Op.unOp Go.UnOp.not 4 (Go.Operand.tmp 34), type := 4, pos := "outright.go:222", after := #[{ on := 10, ground := Go.Ground.data }, { on := 5, ground := Go.Ground.guard }], guard := some (5, false) }) (v := ?_) rfl (by kernel_rfl) (by kernel_rfl) (by kernel_rfl) (fun _ _ _ h => h) (Or.inl ⟨by rfl, ?_⟩) (by assumption) ?_
    rotate_left
    · intro wq hSw
      try dsimp only at hSw
      go_split_ands
      go_simp
      try with_reducible rfl
    try simp only [Act.put, List.setIfInBounds_toArray, List.set_cons_zero, List.set_cons_succ]
    refine wpAnyH_take (i := 12) (oi := { dst := some 36, op := Go.Op.pick (Go.Operand.tmp 29) (Go.Operand.const (Go.Value.bool true)) (Go.Operand.tmp 35), type := 4, pos := "outright.go:222", after := #[{ on := 5, ground := Go.Ground.data }, { on := 11, ground := Go.Ground.data }], guard := none }) (v := ?_) rfl (by kernel_rfl) (by kernel_rfl) (by kernel_rfl) (fun _ _ _ h => h) (Or.inl ⟨by rfl, ?_⟩) (by assumption) ?_
    rotate_left
    · intro wq hSw
      try dsimp only at hSw
      go_split_ands
      go_simp
      try with_reducible rfl
    try simp only [Act.put, List.setIfInBounds_toArray, List.set_cons_zero, List.set_cons_succ]
    refine wpAnyH_done (by kernel_rfl) ?_ _
    have B10 := hide (chain B9.out C5.out)
    clear C0 C1 C2 C3 C4 hHeld KF3 KF4 KF5 KG3 KG4 KG5
    go_upto_region 9 with fail
    have C5b := hide C5.out.size
    have RU := hide (bl_range (BU9.out.below (by have := Z9.out; omega) C5.out))
    refine wp_region_list ?_
    refine wpList_load_g (op := { dst := some 37, op := Go.Op.load 29 (Go.Operand.tmp 8), type := 29, pos := "outright.go:225", after := #[], guard := none }) (by rfl) 29 (.tmp 8) rfl gu (0) rfl [.int .i64 s.id, .int .i64 s.frame, .int .i64 s.epoch, .slice uz3 um3 uk3, .slice uz4 um4 uk4, .slice uz5 um5 uk5, .slice uz6 sm6 uk6, .slice uz7 sm7 uk7, .slice uz8 sm8 uk8, .slice uz9 sm9 uk9] _ RU.out HUS.out rfl HIU.out ?_
    try simp only [Act.put, List.setIfInBounds_toArray, List.set_cons_zero, List.set_cons_succ]
    refine wpList_tail (pre := [{ dst := some 38, op := Go.Op.call { callee := Go.Callee.value (Go.Operand.func 5), args := #[Go.Operand.tmp 37], argTypes := #[29] }, type := 31, pos := "outright.go:225", after := #[{ on := 0, ground := Go.Ground.data }], guard := none }]) _ ?_
    intro tl htl
    have HTL := hide htl
    clear htl
    simp only [List.cons_append, List.nil_append]
    go_wp2_with fail
    refine Calls.mono (rOf_any y5 _ _ _ _ _ _ _ uz3 uz4 uz5 um3 uk3 um4 uk4 um5 uk5) ?_
    rintro e y6 ⟨rfl, b6⟩
    go_wp2_with fail
    have htl := HTL.out
    clear HTL
    subst htl
    have C6 := hide (chain C5.out b6)
    have z9 := Z9.out
    have h6 := C6.out.size
    have MY6 := BY9.out.below (by omega) C6.out
    have g0 := MY6.cell 0 _ rfl
    have f0 := MY6.free 0
    have g1 := MY6.cell 1 _ rfl
    have f1 := MY6.free 1
    have g2 := MY6.cell 2 _ rfl
    have f2 := MY6.free 2
    have BYn := hide (bl_three MY6 (.slice uz3 um3 uk3) (.slice uz4 um4 uk4) (.slice uz5 um5 uk5))
    have NS10 : Hid (Bl (((y6.setCell ⟨w1.heap.size + 1, 0, none⟩ (.slice uz3 um3 uk3)).setCell ⟨w1.heap.size + 1, 1, none⟩ (.slice uz4 um4 uk4)).setCell ⟨w1.heap.size + 1, 2, none⟩ (.slice uz5 um5 uk5)) w.heap.size [.int .i64 s.id, .int .i64 s.frame, .int .i64 s.epoch, .slice sz3 sm3 sk3, .slice sz4 sm4 sk4, .slice sz5 sm5 sk5, .slice sz6 sm6 sk6, .slice sz7 sm7 sk7, .slice sz8 sm8 sk8, .slice sz9 sm9 sk9]) := (((NS9.out.below (by omega) C6.out).far (by omega)).far (by omega)).far (by omega)
    have NT10 : Hid (Bl (((y6.setCell ⟨w1.heap.size + 1, 0, none⟩ (.slice uz3 um3 uk3)).setCell ⟨w1.heap.size + 1, 1, none⟩ (.slice uz4 um4 uk4)).setCell ⟨w1.heap.size + 1, 2, none⟩ (.slice uz5 um5 uk5)) (w.heap.size + 1) [.slice pa pn pc, .slice ra rn rc, .slice ta tn tc]) := (((NT9.out.below (by omega) C6.out).far (by omega)).far (by omega)).far (by omega)
    have BX10 : Hid (Bl (((y6.setCell ⟨w1.heap.size + 1, 0, none⟩ (.slice uz3 um3 uk3)).setCell ⟨w1.heap.size + 1, 1, none⟩ (.slice uz4 um4 uk4)).setCell ⟨w1.heap.size + 1, 2, none⟩ (.slice uz5 um5 uk5)) w1.heap.size [.slice a3 n3 c3, .slice a4 n4 c4, .slice a5 n5 c5]) := (((BX9.out.below (by omega) C6.out).far (by omega)).far (by omega)).far (by omega)
    have BO10 : Hid (Bl (((y6.setCell ⟨w1.heap.size + 1, 0, none⟩ (.slice uz3 um3 uk3)).setCell ⟨w1.heap.size + 1, 1, none⟩ (.slice uz4 um4 uk4)).setCell ⟨w1.heap.size + 1, 2, none⟩ (.slice uz5 um5 uk5)) w6.heap.size [.slice o3 i3 j3, .slice o4 i4 j4, .slice o5 i5 j5]) := (((BO9.out.below (by omega) C6.out).far (by omega)).far (by omega)).far (by omega)
    have BU10 : Hid (Bl (((y6.setCell ⟨w1.heap.size + 1, 0, none⟩ (.slice uz3 um3 uk3)).setCell ⟨w1.heap.size + 1, 1, none⟩ (.slice uz4 um4 uk4)).setCell ⟨w1.heap.size + 1, 2, none⟩ (.slice uz5 um5 uk5)) gu [.int .i64 s.id, .int .i64 s.frame, .int .i64 s.epoch, .slice uz3 um3 uk3, .slice uz4 um4 uk4, .slice uz5 um5 uk5, .slice uz6 sm6 uk6, .slice uz7 sm7 uk7, .slice uz8 sm8 uk8, .slice uz9 sm9 uk9]) := (((BU9.out.below (by omega) C6.out).far (by omega)).far (by omega)).far (by omega)
    have SG10 : Hid (Srg W8.heap.size gu (((y6.setCell ⟨w1.heap.size + 1, 0, none⟩ (.slice uz3 um3 uk3)).setCell ⟨w1.heap.size + 1, 1, none⟩ (.slice uz4 um4 uk4)).setCell ⟨w1.heap.size + 1, 2, none⟩ (.slice uz5 um5 uk5)) [.int .i64 s.id, .int .i64 s.frame, .int .i64 s.epoch, .slice uz3 um3 uk3, .slice uz4 um4 uk4, .slice uz5 um5 uk5, .slice uz6 sm6 uk6, .slice uz7 sm7 uk7, .slice uz8 sm8 uk8, .slice uz9 sm9 uk9] { s with procs := KP, ready := KR, timers := KT }) := (((SG9.out.below C6.out).set (p := ⟨w1.heap.size + 1, 0, none⟩) (.inl (by show w1.heap.size + 1 < _; omega)) _).set (p := ⟨w1.heap.size + 1, 1, none⟩) (.inl (by show w1.heap.size + 1 < _; omega)) _).set (p := ⟨w1.heap.size + 1, 2, none⟩) (.inl (by show w1.heap.size + 1 < _; omega)) _
    have Q30 := hide (own3 (ownsRow_below Q39.out C6.out) (g := w1.heap.size + 1) (by omega) (.slice uz3 um3 uk3) (.slice uz4 um4 uk4) (.slice uz5 um5 uk5))
    have Q40 := hide (own3 (ownsRow_below Q49.out C6.out) (g := w1.heap.size + 1) (by omega) (.slice uz3 um3 uk3) (.slice uz4 um4 uk4) (.slice uz5 um5 uk5))
    have Q50 := hide (own3 (ownsRow_below Q59.out C6.out) (g := w1.heap.size + 1) (by omega) (.slice uz3 um3 uk3) (.slice uz4 um4 uk4) (.slice uz5 um5 uk5))
    have B11 : Hid (Below w.heap.size w (((y6.setCell ⟨w1.heap.size + 1, 0, none⟩ (.slice uz3 um3 uk3)).setCell ⟨w1.heap.size + 1, 1, none⟩ (.slice uz4 um4 uk4)).setCell ⟨w1.heap.size + 1, 2, none⟩ (.slice uz5 um5 uk5))) := below3 (.slice uz3 um3 uk3) (.slice uz4 um4 uk4) (.slice uz5 um5 uk5) (chain B9.out C6.out) (by omega)
    have Z11 : Hid (w.heap.size + 1 + 1 ≤ w1.heap.size ∧ w1.heap.size + 1 + 1 ≤ W5.heap.size ∧ W5.heap.size ≤ w6.heap.size ∧ w6.heap.size < W8.heap.size ∧ W8.heap.size ≤ gu ∧ gu < (((y6.setCell ⟨w1.heap.size + 1, 0, none⟩ (.slice uz3 um3 uk3)).setCell ⟨w1.heap.size + 1, 1, none⟩ (.slice uz4 um4 uk4)).setCell ⟨w1.heap.size + 1, 2, none⟩ (.slice uz5 um5 uk5)).heap.size) := by unfold Hid; simp [World.setCell]; omega
    clear b6 z9 h6 C6 C5 C5b MY6 RU
    go_upto_region 10 with fail
    clear g0 g1 g2 f0 f1 f2 NS9 NT9 BX9 BY9 BO9 BU9 SG9 Q39 Q49 Q59 B9 B10 Z9 H7 HKo
    generalize (((y6.setCell ⟨w1.heap.size + 1, 0, none⟩ (.slice uz3 um3 uk3)).setCell ⟨w1.heap.size + 1, 1, none⟩ (.slice uz4 um4 uk4)).setCell ⟨w1.heap.size + 1, 2, none⟩ (.slice uz5 um5 uk5)) = W10 at *
    have KO10 : Hid (Kr W10 64 21 104 o3 i3 j3 p3 s.procs ∧ Kr W10 3 1 8 o4 i4 j4 p4 s.ready ∧ Kr W10 66 2 16 o5 i5 j5 p5 s.timers) := ⟨KO3.out.at_ (own_lg Q30.out).row, KO4.out.at_ (own_lg Q40.out).row, KO5.out.at_ (own_lg Q50.out).row⟩
    clear KO3 KO4 KO5 Q30 Q40 Q50
    have y0c := BYn.out.cell 0 _ rfl
    have t0c := NT10.out.cell 0 _ rfl
    have y1c := BYn.out.cell 1 _ rfl
    have t1c := NT10.out.cell 1 _ rfl
    have y2c := BYn.out.cell 2 _ rfl
    have t2c := NT10.out.cell 2 _ rfl
    have ky := (sr_lit SG10.out.sr).1
    have kt := HKt.out W10 B11.out
    have EQ10 := hide (tabEq_yes W10 KP KR KT uz3 uz4 uz5 pa ra ta um3 uk3 um4 uk4 um5 uk5 pn pc rn rc tn tc ky.1 ky.2.1 ky.2.2 kt.1 kt.2.1 kt.2.2)
    clear ky kt
    go_wp2_with fail
    refine Calls.mono EQ10.out ?_
    rintro e w11 ⟨rfl, b11⟩
    clear y0c y1c y2c t0c t1c t2c EQ10
    have C11 := hide b11
    have z11 := Z11.out
    have u0c := (BU10.out.below (by omega) b11).cell 0 _ rfl
    have s0c := (NS10.out.below (by omega) b11).cell 0 _ rfl
    have u1c := (BU10.out.below (by omega) b11).cell 1 _ rfl
    have s1c := (NS10.out.below (by omega) b11).cell 1 _ rfl
    have u2c := (BU10.out.below (by omega) b11).cell 2 _ rfl
    have s2c := (NS10.out.below (by omega) b11).cell 2 _ rfl
    clear b11 z11
    go_upto_region 12 with fail
    clear u0c u1c u2c s0c s1c s2c
    have RU11 := hide (bl_range (BU10.out.below (by have := Z11.out; omega) C11.out))
    have BO11 := BO10.out.below (by have := Z11.out; omega) C11.out
    have o0c := BO11.cell 0 _ rfl
    have o1c := BO11.cell 1 _ rfl
    have o2c := BO11.cell 2 _ rfl
    clear BO11
    refine wp_region_list ?_
    refine wpList_load_g (op := { dst := some 64, op := Go.Op.load 29 (Go.Operand.tmp 8), type := 29, pos := "outright.go:229", after := #[], guard := none }) (by rfl) 29 (.tmp 8) rfl gu (0) rfl [.int .i64 s.id, .int .i64 s.frame, .int .i64 s.epoch, .slice uz3 um3 uk3, .slice uz4 um4 uk4, .slice uz5 um5 uk5, .slice uz6 sm6 uk6, .slice uz7 sm7 uk7, .slice uz8 sm8 uk8, .slice uz9 sm9 uk9] _ RU11.out HUS.out rfl HIU.out ?_
    try simp only [Act.put, List.setIfInBounds_toArray, List.set_cons_zero, List.set_cons_succ]
    refine wpList_tail (pre := [{ dst := some 65, op := Go.Op.load 34 (Go.Operand.tmp 7), type := 34, pos := "outright.go:229", after := #[], guard := none }, { dst := some 66, op := Go.Op.call { callee := Go.Callee.value (Go.Operand.func 7), args := #[Go.Operand.tmp 64, Go.Operand.tmp 65], argTypes := #[29, 34] }, type := 29, pos := "outright.go:229", after := #[{ on := 0, ground := Go.Ground.data }, { on := 1, ground := Go.Ground.data }], guard := none }, { dst := some 9, op := Go.Op.alloc 29, type := 0, pos := "outright.go:229", after := #[], guard := none }]) _ ?_
    intro tl htl
    have HTL := hide htl
    clear htl
    simp only [List.cons_append, List.nil_append]
    go_wp2_with fail
    refine Calls.mono (into_any w11 _ _ (SG10.out.sr.below C11.out) o3 i3 j3 p3 s.procs (KO10.out.1.below C11.out) o4 i4 j4 p4 s.ready (KO10.out.2.1.below C11.out) o5 i5 j5 p5 s.timers (KO10.out.2.2.below C11.out)) ?_
    rintro e w12 ⟨cb, rfl, hsf, b12⟩
    have C12 := hide (chain C11.out b12)
    have SB0 := hide hsf.sr
    clear hsf b12 o0c o1c o2c RU11 C11
    obtain ⟨bz3, bm3, bk3, _, bz4, bm4, bk4, _, bz5, bm5, bk5, _, bz6, bm6, bk6, _, bz7, bm7, bk7, _, bz8, bm8, bk8, _, bz9, bm9, bk9, _, hq, hjunk⟩ := SB0.out
    clear hjunk
    subst hq
    have NSb := hide (bl_alloc w12 #[.int .i64 0, .int .i64 0, .int .i64 0, .slice none 0 0, .slice none 0 0, .slice none 0 0, .slice none 0 0, .slice none 0 0, .slice none 0 0, .slice none 0 0] 29)
    have Pb := hide (one_below w12 (.cells #[.int .i64 0, .int .i64 0, .int .i64 0, .slice none 0 0, .slice none 0 0, .slice none 0 0, .slice none 0 0, .slice none 0 0, .slice none 0 0, .slice none 0 0] 29))
    go_wp2_with fail
    have htl := HTL.out
    clear HTL
    subst htl
    generalize w12.alloc (.cells #[.int .i64 0, .int .i64 0, .int .i64 0, .slice none 0 0, .slice none 0 0, .slice none 0 0, .slice none 0 0, .slice none 0 0, .slice none 0 0, .slice none 0 0] 29) = Ub at *
    have e0 := NSb.out.cell 0 _ rfl
    have d0 := NSb.out.free 0
    have e1 := NSb.out.cell 1 _ rfl
    have d1 := NSb.out.free 1
    have e2 := NSb.out.cell 2 _ rfl
    have d2 := NSb.out.free 2
    have e3 := NSb.out.cell 3 _ rfl
    have d3 := NSb.out.free 3
    have e4 := NSb.out.cell 4 _ rfl
    have d4 := NSb.out.free 4
    have e5 := NSb.out.cell 5 _ rfl
    have d5 := NSb.out.free 5
    have e6 := NSb.out.cell 6 _ rfl
    have d6 := NSb.out.free 6
    have e7 := NSb.out.cell 7 _ rfl
    have d7 := NSb.out.free 7
    have e8 := NSb.out.cell 8 _ rfl
    have d8 := NSb.out.free 8
    have e9 := NSb.out.cell 9 _ rfl
    have d9 := NSb.out.free 9
    go_upto_region 13 with fail
    clear e0 d0 e1 d1 e2 d2 e3 d3 e4 d4 e5 d5 e6 d6 e7 d7 e8 d8 e9 d9
    obtain ⟨v1, v2, v3, v4⟩ := ten_sets (w0 := w12) (B := w12.heap.size) Pb.out (Nat.le_refl _) NSb.out rfl (.int .i64 s.id) (.int .i64 s.frame) (.int .i64 s.epoch) (.slice bz3 bm3 bk3) (.slice bz4 bm4 bk4) (.slice bz5 bm5 bk5) (.slice bz6 bm6 bk6) (.slice bz7 bm7 bk7) (.slice bz8 bm8 bk8) (.slice bz9 bm9 bk9)
    have D13 := hide v1
    have BB := hide v2
    clear v1 v2 v3 v4 NSb Pb
    generalize ((((((((((Ub.setCell ⟨w12.heap.size, 0, none⟩ (.int .i64 s.id)).setCell ⟨w12.heap.size, 1, none⟩ (.int .i64 s.frame)).setCell ⟨w12.heap.size, 2, none⟩ (.int .i64 s.epoch)).setCell ⟨w12.heap.size, 3, none⟩ (.slice bz3 bm3 bk3)).setCell ⟨w12.heap.size, 4, none⟩ (.slice bz4 bm4 bk4)).setCell ⟨w12.heap.size, 5, none⟩ (.slice bz5 bm5 bk5)).setCell ⟨w12.heap.size, 6, none⟩ (.slice bz6 bm6 bk6)).setCell ⟨w12.heap.size, 7, none⟩ (.slice bz7 bm7 bk7)).setCell ⟨w12.heap.size, 8, none⟩ (.slice bz8 bm8 bk8)).setCell ⟨w12.heap.size, 9, none⟩ (.slice bz9 bm9 bk9)) = W13 at *
    have C13 := hide (chain C12.out D13.out)
    have SB13 := hide (SB0.out.below D13.out)
    have HIB : Hid ((Tryd.prog.info? 29).map (·.size) = some ([.int .i64 s.id, .int .i64 s.frame, .int .i64 s.epoch, .slice bz3 bm3 bk3, .slice bz4 bm4 bk4, .slice bz5 bm5 bk5, .slice bz6 bm6 bk6, .slice bz7 bm7 bk7, .slice bz8 bm8 bk8, .slice bz9 bm9 bk9] : List Value).length) := infoState
    have z11 := Z11.out
    have NS13 := hide (NS10.out.below (by omega) C13.out)
    have BX13 := hide (BX10.out.below (by omega) C13.out)
    have BU13 := hide (BU10.out.below (by omega) C13.out)
    have SU13 := hide (SG10.out.sr.below C13.out)
    have B13 := hide (chain B11.out C13.out)
    have SS13 := hide (HS.out.below B13.out)
    have L13 : Hid (w.heap.size < W13.heap.size ∧ w1.heap.size < W13.heap.size ∧ gu < W13.heap.size ∧ w12.heap.size < W13.heap.size) := by
      have h1 := C13.out.size
      have h2 : w12.heap.size < W13.heap.size := block_lt_of_cell (BB.out.cell 0 _ rfl)
      unfold Hid
      omega
    clear z11 NS10 BX10 BU10 SG10 C13 C12 D13 SB0 BO10 BYn NT10 KO10 B11
    have H13 : Hid (∀ wz, Below W13.heap.size W13 wz → (fun wz => wz.cell? ⟨w1.heap.size, 0, none⟩ = some (.slice a3 n3 c3) ∧ wz.cell? ⟨w1.heap.size, 1, none⟩ = some (.slice a4 n4 c4) ∧ wz.cell? ⟨w1.heap.size, 2, none⟩ = some (.slice a5 n5 c5) ∧ wz.cell? ⟨gu, 6, none⟩ = some (.slice uz6 sm6 uk6) ∧ wz.cell? ⟨w.heap.size, 6, none⟩ = some (.slice sz6 sm6 sk6) ∧ wz.cell? ⟨gu, 7, none⟩ = some (.slice uz7 sm7 uk7) ∧ wz.cell? ⟨w.heap.size, 7, none⟩ = some (.slice sz7 sm7 sk7) ∧ wz.cell? ⟨gu, 8, none⟩ = some (.slice uz8 sm8 uk8) ∧ wz.cell? ⟨w.heap.size, 8, none⟩ = some (.slice sz8 sm8 sk8) ∧ wz.cell? ⟨gu, 9, none⟩ = some (.slice uz9 sm9 uk9) ∧ wz.cell? ⟨w.heap.size, 9, none⟩ = some (.slice sz9 sm9 sk9) ∧ wz.rangeAt w12.heap.size 0 [.int .i64 s.id, .int .i64 s.frame, .int .i64 s.epoch, .slice bz3 bm3 bk3, .slice bz4 bm4 bk4, .slice bz5 bm5 bk5, .slice bz6 bm6 bk6, .slice bz7 bm7 bk7, .slice bz8 bm8 bk8, .slice bz9 bm9 bk9]) wz) := fun wz hz => by
      have z := L13.out
      have h1 := BX13.out.below (by omega) hz
      have h2 := BU13.out.below (by omega) hz
      have h3 := NS13.out.below (by omega) hz
      have h4 := BB.out.below (by omega) hz
      exact ⟨h1.cell 0 _ rfl, h1.cell 1 _ rfl, h1.cell 2 _ rfl, h2.cell 6 _ rfl, h3.cell 6 _ rfl, h2.cell 7 _ rfl, h3.cell 7 _ rfl, h2.cell 8 _ rfl, h3.cell 8 _ rfl, h2.cell 9 _ rfl, h3.cell 9 _ rfl, bl_range h4⟩
    have C0 : Hid (Below W13.heap.size W13 W13.drew) := (Below.refl _ _).drew
    refine wp_region_held_drew (S := fun wz => wz.cell? ⟨w1.heap.size, 0, none⟩ = some (.slice a3 n3 c3) ∧ wz.cell? ⟨w1.heap.size, 1, none⟩ = some (.slice a4 n4 c4) ∧ wz.cell? ⟨w1.heap.size, 2, none⟩ = some (.slice a5 n5 c5) ∧ wz.cell? ⟨gu, 6, none⟩ = some (.slice uz6 sm6 uk6) ∧ wz.cell? ⟨w.heap.size, 6, none⟩ = some (.slice sz6 sm6 sk6) ∧ wz.cell? ⟨gu, 7, none⟩ = some (.slice uz7 sm7 uk7) ∧ wz.cell? ⟨w.heap.size, 7, none⟩ = some (.slice sz7 sm7 sk7) ∧ wz.cell? ⟨gu, 8, none⟩ = some (.slice uz8 sm8 uk8) ∧ wz.cell? ⟨w.heap.size, 8, none⟩ = some (.slice sz8 sm8 sk8) ∧ wz.cell? ⟨gu, 9, none⟩ = some (.slice uz9 sm9 uk9) ∧ wz.cell? ⟨w.heap.size, 9, none⟩ = some (.slice sz9 sm9 sk9) ∧ wz.rangeAt w12.heap.size 0 [.int .i64 s.id, .int .i64 s.frame, .int .i64 s.epoch, .slice bz3 bm3 bk3, .slice bz4 bm4 bk4, .slice bz5 bm5 bk5, .slice bz6 bm6 bk6, .slice bz7 bm7 bk7, .slice bz8 bm8 bk8, .slice bz9 bm9 bk9]) (by kernel_rfl) (H13.out _ C0.out) (fun hHeld => ?_)
    generalize W13.drew = Y0 at *
    refine wpAnyH_take (i := 0) (oi := { dst := some 67, op := Go.Op.load 29 (Go.Operand.tmp 9), type := 29, pos := "outright.go:230", after := #[], guard := none }) rfl (by kernel_rfl) (by kernel_rfl) (by kernel_rfl) (fun _ _ _ h => h) (yieldsIf_load_mid (by rfl) _ _ rfl _ _ rfl _ _ (fun _ h => h.2.2.2.2.2.2.2.2.2.2.2) HUS.out rfl HIB.out) (by assumption) ?_
    try simp only [Act.put, List.setIfInBounds_toArray, List.set_cons_zero, List.set_cons_succ]
    refine wpAnyH_take (i := 2) (oi := { dst := some 69, op := Go.Op.load 31 (Go.Operand.tmp 5), type := 31, pos := "outright.go:230", after := #[], guard := none }) (v := ?_) rfl (by kernel_rfl) (by kernel_rfl) (by kernel_rfl) (fun _ _ _ h => h) (Or.inl ⟨by rfl, ?_⟩) (by assumption) ?_
    rotate_left
    · intro wq hSw
      try dsimp only at hSw
      go_split_ands
      go_simp
      try with_reducible rfl
    try simp only [Act.put, List.setIfInBounds_toArray, List.set_cons_zero, List.set_cons_succ]
    refine wpAnyH_ready (rs := [1]) (by kernel_rfl) (by simp) ?_
    refine AllReadyH.cons (o := { dst := some 68, op := Go.Op.call { callee := Go.Callee.value (Go.Operand.func 5), args := #[Go.Operand.tmp 67], argTypes := #[29] }, type := 31, pos := "outright.go:230", after := #[{ on := 0, ground := Go.Ground.data }], guard := none }) rfl (fun K hK => ?_) AllReadyH.nil
    go_simp
    go_at_call 5
    refine (rOf_any Y0 _ _ _ _ _ _ _ bz3 bz4 bz5 bm3 bk3 bm4 bk4 bm5 bk5).mono ?_
    rintro e y1 ⟨rfl, bt⟩
    have C1 := hide (chain C0.out bt)
    clear bt
    try go_wp2_with fail
    refine hK.out _ _ (H13.out _ C1.out) (fun hHeld2 => ?_)
    clear hK K hHeld
    have hHeld := hHeld2
    clear hHeld2
    try simp only [Act.put, List.setIfInBounds_toArray, List.set_cons_zero, List.set_cons_succ]
    refine wpAnyH_ready (rs := [3]) (by kernel_rfl) (by simp) ?_
    refine AllReadyH.cons (o := { dst := some 70, op := Go.Op.call { callee := Go.Callee.value (Go.Operand.func 9), args := #[Go.Operand.tmp 68, Go.Operand.tmp 69], argTypes := #[31, 31] }, type := 4, pos := "outright.go:230", after := #[{ on := 1, ground := Go.Ground.data }, { on := 2, ground := Go.Ground.data }, { on := 1, ground := Go.Ground.chain }], guard := none }) rfl (fun K hK => ?_) AllReadyH.nil
    go_simp
    go_at_call 9
    have kb := (sr_lit (SB13.out.below C1.out)).1
    have kx := HKx.out y1 (chain B13.out C1.out)
    refine (tabEq_yes y1 s.procs s.ready s.timers bz3 bz4 bz5 a3 a4 a5 bm3 bk3 bm4 bk4 bm5 bk5 n3 c3 n4 c4 n5 c5 kb.1 kb.2.1 kb.2.2 kx.1 kx.2.1 kx.2.2).mono ?_
    clear kb kx
    rintro e y2 ⟨rfl, bt⟩
    have C2 := hide (chain C1.out bt)
    clear bt
    try go_wp2_with fail
    refine hK.out _ _ (H13.out _ C2.out) (fun hHeld2 => ?_)
    clear hK K hHeld
    have hHeld := hHeld2
    clear hHeld2
    try simp only [Act.put, List.setIfInBounds_toArray, List.set_cons_zero, List.set_cons_succ]
    refine wpAnyH_take (i := 4) (oi := { dst := some 71, op := Go.Op.unOp Go.UnOp.not 4 (Go.Operand.tmp 70), type := 4, pos := "outright.go:230", after := #[{ on := 3, ground := Go.Ground.data }], guard := none }) (v := ?_) rfl (by kernel_rfl) (by kernel_rfl) (by kernel_rfl) (fun _ _ _ h => h) (Or.inl ⟨by rfl, ?_⟩) (by assumption) ?_
    rotate_left
    · intro wq hSw
      try dsimp only at hSw
      go_split_ands
      go_simp
      try with_reducible rfl
    try simp only [Act.put, List.setIfInBounds_toArray, List.set_cons_zero, List.set_cons_succ]
    refine wpAnyH_take (i := 5) (oi := { dst := some 72, op := Go.Op.move (Go.Operand.tmp 71), type := 4, pos := "outright.go:230", after := #[{ on := 4, ground := Go.Ground.data }, { on := 3, ground := Go.Ground.chain }], guard := none }) (v := ?_) rfl (by kernel_rfl) (by kernel_rfl) (by kernel_rfl) (fun _ _ _ h => h) (Or.inl ⟨by rfl, ?_⟩) (by assumption) ?_
    rotate_left
    · intro wq hSw
      try dsimp only at hSw
      go_split_ands
      go_simp
      try with_reducible rfl
    try simp only [Act.put, List.setIfInBounds_toArray, List.set_cons_zero, List.set_cons_succ]
    refine wpAnyH_take (i := 6) (oi := { dst := some 73, op := Go.Op.fieldAddr 29 (Go.Operand.tmp 8) 6, type := 0, pos := "outright.go:230", after := #[{ on := 5, ground := Go.Ground.guard }], guard := some (5, false) }) (v := ?_) rfl (by kernel_rfl) (by kernel_rfl) (by kernel_rfl) (fun _ _ _ h => h) (Or.inl ⟨by rfl, ?_⟩) (by assumption) ?_
    rotate_left
    · intro wq hSw
      try dsimp only at hSw
      go_split_ands
      go_simp
      try with_reducible rfl
    try simp only [Act.put, List.setIfInBounds_toArray, List.set_cons_zero, List.set_cons_succ]
    refine wpAnyH_take (i := 7) (oi := { dst := some 74, op := Go.Op.load 25 (Go.Operand.tmp 73), type := 25, pos := "outright.go:230", after := #[{ on := 6, ground := Go.Ground.data }, { on := 5, ground := Go.Ground.guard }], guard := some (5, false) }) (v := ?_) rfl (by kernel_rfl) (by kernel_rfl) (by kernel_rfl) (fun _ _ _ h => h) (Or.inl ⟨by rfl, ?_⟩) (by assumption) ?_
    rotate_left
    · intro wq hSw
      try dsimp only at hSw
      go_split_ands
      go_simp
      try with_reducible rfl
    try simp only [Act.put, List.setIfInBounds_toArray, List.set_cons_zero, List.set_cons_succ]
    refine wpAnyH_take (i := 8) (oi := { dst := some 75, op := Go.Op.call { callee := Go.Callee.builtin Go.Builtin.len, args := #[Go.Operand.tmp 74], argTypes := #[25] }, type := 3, pos := "outright.go:230", after := #[{ on := 7, ground := Go.Ground.data }, { on := 5, ground := Go.Ground.guard }], guard := some (5, false) }) (v := ?_) rfl (by kernel_rfl) (by kernel_rfl) (by kernel_rfl) (fun _ _ _ h => h) (Or.inl ⟨by rfl, ?_⟩) (by assumption) ?_
    rotate_left
    · intro wq hSw
      try dsimp only at hSw
      go_split_ands
      go_simp
      try with_reducible rfl
    try simp only [Act.put, List.setIfInBounds_toArray, List.set_cons_zero, List.set_cons_succ]
    refine wpAnyH_take (i := 9) (oi := { dst := some 76, op := Go.Op.fieldAddr 29 (Go.Operand.tmp 2) 6, type := 0, pos := "outright.go:230", after := #[{ on := 5, ground := Go.Ground.guard }], guard := some (5, false) }) (v := ?_) rfl (by kernel_rfl) (by kernel_rfl) (by kernel_rfl) (fun _ _ _ h => h) (Or.inl ⟨by rfl, ?_⟩) (by assumption) ?_
    rotate_left
    · intro wq hSw
      try dsimp only at hSw
      go_split_ands
      go_simp
      try with_reducible rfl
    try simp only [Act.put, List.setIfInBounds_toArray, List.set_cons_zero, List.set_cons_succ]
    refine wpAnyH_take (i := 10) (oi := { dst := some 77, op := Go.Op.load 25 (Go.Operand.tmp 76), type := 25, pos := "outright.go:230", after := #[{ on := 9, ground := Go.Ground.data }, { on := 5, ground := Go.Ground.guard }], guard := some (5, false) }) (v := ?_) rfl (by kernel_rfl) (by kernel_rfl) (by kernel_rfl) (fun _ _ _ h => h) (Or.inl ⟨by rfl, ?_⟩) (by assumption) ?_
    rotate_left
    · intro wq hSw
      try dsimp only at hSw
      go_split_ands
      go_simp
      try with_reducible rfl
    try simp only [Act.put, List.setIfInBounds_toArray, List.set_cons_zero, List.set_cons_succ]
    refine wpAnyH_take (i := 11) (oi := { dst := some 78, op := Go.Op.call { callee := Go.Callee.builtin Go.Builtin.len, args := #[Go.Operand.tmp 77], argTypes := #[25] }, type := 3, pos := "outright.go:230", after := #[{ on := 10, ground := Go.Ground.data }, { on := 5, ground := Go.Ground.guard }], guard := some (5, false) }) (v := ?_) rfl (by kernel_rfl) (by kernel_rfl) (by kernel_rfl) (fun _ _ _ h => h) (Or.inl ⟨by rfl, ?_⟩) (by assumption) ?_
    rotate_left
    · intro wq hSw
      try dsimp only at hSw
      go_split_ands
      go_simp
      try with_reducible rfl
    try simp only [Act.put, List.setIfInBounds_toArray, List.set_cons_zero, List.set_cons_succ]
    refine wpAnyH_take (i := 12) (oi := { dst := some 79, op := Go.Op.binOp Go.BinOp.neq 3 (Go.Operand.tmp 75) (Go.Operand.tmp 78) 3, type := 4, pos := "outright.go:230", after := #[{ on := 8, ground := Go.Ground.data }, { on := 11, ground := Go.Ground.data }, { on := 5, ground := Go.Ground.guard }], guard := some (5, false) }) (v := ?_) rfl (by kernel_rfl) (by kernel_rfl) (by kernel_rfl) (fun _ _ _ h => h) (Or.inl ⟨by rfl, ?_⟩) (by assumption) ?_
    rotate_left
    · intro wq hSw
      try dsimp only at hSw
      go_split_ands
      go_simp
      try with_reducible rfl
    try simp only [Act.put, List.setIfInBounds_toArray, List.set_cons_zero, List.set_cons_succ]
    refine wpAnyH_take (i := 13) (oi := { dst := some 80, op := Go.Op.pick (Go.Operand.tmp 72) (Go.Operand.const (Go.Value.bool true)) (Go.Operand.tmp 79), type := 4, pos := "outright.go:230", after := #[{ on := 5, ground := Go.Ground.data }, { on := 12, ground := Go.Ground.data }], guard := none }) (v := ?_) rfl (by kernel_rfl) (by kernel_rfl) (by kernel_rfl) (fun _ _ _ h => h) (Or.inl ⟨by rfl, ?_⟩) (by assumption) ?_
    rotate_left
    · intro wq hSw
      try dsimp only at hSw
      go_split_ands
      go_simp
      try with_reducible rfl
    try simp only [Act.put, List.setIfInBounds_toArray, List.set_cons_zero, List.set_cons_succ]
    refine wpAnyH_take (i := 14) (oi := { dst := some 81, op := Go.Op.move (Go.Operand.tmp 80), type := 4, pos := "outright.go:230", after := #[{ on := 13, ground := Go.Ground.data }, { on := 5, ground := Go.Ground.chain }], guard := none }) (v := ?_) rfl (by kernel_rfl) (by kernel_rfl) (by kernel_rfl) (fun _ _ _ h => h) (Or.inl ⟨by rfl, ?_⟩) (by assumption) ?_
    rotate_left
    · intro wq hSw
      try dsimp only at hSw
      go_split_ands
      go_simp
      try with_reducible rfl
    try simp only [Act.put, List.setIfInBounds_toArray, List.set_cons_zero, List.set_cons_succ]
    refine wpAnyH_take (i := 15) (oi := { dst := some 82, op := Go.Op.fieldAddr 29 (Go.Operand.tmp 8) 8, type := 0, pos := "outright.go:230", after := #[{ on := 14, ground := Go.Ground.guard }], guard := some (14, false) }) (v := ?_) rfl (by kernel_rfl) (by kernel_rfl) (by kernel_rfl) (fun _ _ _ h => h) (Or.inl ⟨by rfl, ?_⟩) (by assumption) ?_
    rotate_left
    · intro wq hSw
      try dsimp only at hSw
      go_split_ands
      go_simp
      try with_reducible rfl
    try simp only [Act.put, List.setIfInBounds_toArray, List.set_cons_zero, List.set_cons_succ]
    refine wpAnyH_take (i := 16) (oi := { dst := some 83, op := Go.Op.load 26 (Go.Operand.tmp 82), type := 26, pos := "outright.go:230", after := #[{ on := 15, ground := Go.Ground.data }, { on := 14, ground := Go.Ground.guard }], guard := some (14, false) }) (v := ?_) rfl (by kernel_rfl) (by kernel_rfl) (by kernel_rfl) (fun _ _ _ h => h) (Or.inl ⟨by rfl, ?_⟩) (by assumption) ?_
    rotate_left
    · intro wq hSw
      try dsimp only at hSw
      go_split_ands
      go_simp
      try with_reducible rfl
    try simp only [Act.put, List.setIfInBounds_toArray, List.set_cons_zero, List.set_cons_succ]
    refine wpAnyH_take (i := 17) (oi := { dst := some 84, op := Go.Op.call { callee := Go.Callee.builtin Go.Builtin.len, args := #[Go.Operand.tmp 83], argTypes := #[26] }, type := 3, pos := "outright.go:230", after := #[{ on := 16, ground := Go.Ground.data }, { on := 14, ground := Go.Ground.guard }], guard := some (14, false) }) (v := ?_) rfl (by kernel_rfl) (by kernel_rfl) (by kernel_rfl) (fun _ _ _ h => h) (Or.inl ⟨by rfl, ?_⟩) (by assumption) ?_
    rotate_left
    · intro wq hSw
      try dsimp only at hSw
      go_split_ands
      go_simp
      try with_reducible rfl
    try simp only [Act.put, List.setIfInBounds_toArray, List.set_cons_zero, List.set_cons_succ]
    refine wpAnyH_take (i := 18) (oi := { dst := some 85, op := Go.Op.fieldAddr 29 (Go.Operand.tmp 2) 8, type := 0, pos := "outright.go:230", after := #[{ on := 14, ground := Go.Ground.guard }], guard := some (14, false) }) (v := ?_) rfl (by kernel_rfl) (by kernel_rfl) (by kernel_rfl) (fun _ _ _ h => h) (Or.inl ⟨by rfl, ?_⟩) (by assumption) ?_
    rotate_left
    · intro wq hSw
      try dsimp only at hSw
      go_split_ands
      go_simp
      try with_reducible rfl
    try simp only [Act.put, List.setIfInBounds_toArray, List.set_cons_zero, List.set_cons_succ]
    refine wpAnyH_take (i := 19) (oi := { dst := some 86, op := Go.Op.load 26 (Go.Operand.tmp 85), type := 26, pos := "outright.go:230", after := #[{ on := 18, ground := Go.Ground.data }, { on := 14, ground := Go.Ground.guard }], guard := some (14, false) }) (v := ?_) rfl (by kernel_rfl) (by kernel_rfl) (by kernel_rfl) (fun _ _ _ h => h) (Or.inl ⟨by rfl, ?_⟩) (by assumption) ?_
    rotate_left
    · intro wq hSw
      try dsimp only at hSw
      go_split_ands
      go_simp
      try with_reducible rfl
    try simp only [Act.put, List.setIfInBounds_toArray, List.set_cons_zero, List.set_cons_succ]
    refine wpAnyH_take (i := 20) (oi := { dst := some 87, op := Go.Op.call { callee := Go.Callee.builtin Go.Builtin.len, args := #[Go.Operand.tmp 86], argTypes := #[26] }, type := 3, pos := "outright.go:230", after := #[{ on := 19, ground := Go.Ground.data }, { on := 14, ground := Go.Ground.guard }], guard := some (14, false) }) (v := ?_) rfl (by kernel_rfl) (by kernel_rfl) (by kernel_rfl) (fun _ _ _ h => h) (Or.inl ⟨by rfl, ?_⟩) (by assumption) ?_
    rotate_left
    · intro wq hSw
      try dsimp only at hSw
      go_split_ands
      go_simp
      try with_reducible rfl
    try simp only [Act.put, List.setIfInBounds_toArray, List.set_cons_zero, List.set_cons_succ]
    refine wpAnyH_take (i := 21) (oi := { dst := some 88, op := Go.Op.binOp Go.BinOp.neq 3 (Go.Operand.tmp 84) (Go.Operand.tmp 87) 3, type := 4, pos := "outright.go:230", after := #[{ on := 17, ground := Go.Ground.data }, { on := 20, ground := Go.Ground.data }, { on := 14, ground := Go.Ground.guard }], guard := some (14, false) }) (v := ?_) rfl (by kernel_rfl) (by kernel_rfl) (by kernel_rfl) (fun _ _ _ h => h) (Or.inl ⟨by rfl, ?_⟩) (by assumption) ?_
    rotate_left
    · intro wq hSw
      try dsimp only at hSw
      go_split_ands
      go_simp
      try with_reducible rfl
    try simp only [Act.put, List.setIfInBounds_toArray, List.set_cons_zero, List.set_cons_succ]
    refine wpAnyH_take (i := 22) (oi := { dst := some 89, op := Go.Op.pick (Go.Operand.tmp 81) (Go.Operand.const (Go.Value.bool true)) (Go.Operand.tmp 88), type := 4, pos := "outright.go:230", after := #[{ on := 14, ground := Go.Ground.data }, { on := 21, ground := Go.Ground.data }], guard := none }) (v := ?_) rfl (by kernel_rfl) (by kernel_rfl) (by kernel_rfl) (fun _ _ _ h => h) (Or.inl ⟨by rfl, ?_⟩) (by assumption) ?_
    rotate_left
    · intro wq hSw
      try dsimp only at hSw
      go_split_ands
      go_simp
      try with_reducible rfl
    try simp only [Act.put, List.setIfInBounds_toArray, List.set_cons_zero, List.set_cons_succ]
    refine wpAnyH_take (i := 23) (oi := { dst := some 90, op := Go.Op.move (Go.Operand.tmp 89), type := 4, pos := "outright.go:230", after := #[{ on := 22, ground := Go.Ground.data }, { on := 14, ground := Go.Ground.chain }], guard := none }) (v := ?_) rfl (by kernel_rfl) (by kernel_rfl) (by kernel_rfl) (fun _ _ _ h => h) (Or.inl ⟨by rfl, ?_⟩) (by assumption) ?_
    rotate_left
    · intro wq hSw
      try dsimp only at hSw
      go_split_ands
      go_simp
      try with_reducible rfl
    try simp only [Act.put, List.setIfInBounds_toArray, List.set_cons_zero, List.set_cons_succ]
    refine wpAnyH_take (i := 24) (oi := { dst := some 91, op := Go.Op.fieldAddr 29 (Go.Operand.tmp 8) 9, type := 0, pos := "outright.go:230", after := #[{ on := 23, ground := Go.Ground.guard }], guard := some (23, false) }) (v := ?_) rfl (by kernel_rfl) (by kernel_rfl) (by kernel_rfl) (fun _ _ _ h => h) (Or.inl ⟨by rfl, ?_⟩) (by assumption) ?_
    rotate_left
    · intro wq hSw
      try dsimp only at hSw
      go_split_ands
      go_simp
      try with_reducible rfl
    try simp only [Act.put, List.setIfInBounds_toArray, List.set_cons_zero, List.set_cons_succ]
    refine wpAnyH_take (i := 25) (oi := { dst := some 92, op := Go.Op.load 27 (Go.Operand.tmp 91), type := 27, pos := "outright.go:230", after := #[{ on := 24, ground := Go.Ground.data }, { on := 23, ground := Go.Ground.guard }], guard := some (23, false) }) (v := ?_) rfl (by kernel_rfl) (by kernel_rfl) (by kernel_rfl) (fun _ _ _ h => h) (Or.inl ⟨by rfl, ?_⟩) (by assumption) ?_
    rotate_left
    · intro wq hSw
      try dsimp only at hSw
      go_split_ands
      go_simp
      try with_reducible rfl
    try simp only [Act.put, List.setIfInBounds_toArray, List.set_cons_zero, List.set_cons_succ]
    refine wpAnyH_take (i := 26) (oi := { dst := some 93, op := Go.Op.call { callee := Go.Callee.builtin Go.Builtin.len, args := #[Go.Operand.tmp 92], argTypes := #[27] }, type := 3, pos := "outright.go:230", after := #[{ on := 25, ground := Go.Ground.data }, { on := 23, ground := Go.Ground.guard }], guard := some (23, false) }) (v := ?_) rfl (by kernel_rfl) (by kernel_rfl) (by kernel_rfl) (fun _ _ _ h => h) (Or.inl ⟨by rfl, ?_⟩) (by assumption) ?_
    rotate_left
    · intro wq hSw
      try dsimp only at hSw
      go_split_ands
      go_simp
      try with_reducible rfl
    try simp only [Act.put, List.setIfInBounds_toArray, List.set_cons_zero, List.set_cons_succ]
    refine wpAnyH_take (i := 27) (oi := { dst := some 94, op := Go.Op.fieldAddr 29 (Go.Operand.tmp 2) 9, type := 0, pos := "outright.go:230", after := #[{ on := 23, ground := Go.Ground.guard }], guard := some (23, false) }) (v := ?_) rfl (by kernel_rfl) (by kernel_rfl) (by kernel_rfl) (fun _ _ _ h => h) (Or.inl ⟨by rfl, ?_⟩) (by assumption) ?_
    rotate_left
    · intro wq hSw
      try dsimp only at hSw
      go_split_ands
      go_simp
      try with_reducible rfl
    try simp only [Act.put, List.setIfInBounds_toArray, List.set_cons_zero, List.set_cons_succ]
    refine wpAnyH_take (i := 28) (oi := { dst := some 95, op := Go.Op.load 27 (Go.Operand.tmp 94), type := 27, pos := "outright.go:230", after := #[{ on := 27, ground := Go.Ground.data }, { on := 23, ground := Go.Ground.guard }], guard := some (23, false) }) (v := ?_) rfl (by kernel_rfl) (by kernel_rfl) (by kernel_rfl) (fun _ _ _ h => h) (Or.inl ⟨by rfl, ?_⟩) (by assumption) ?_
    rotate_left
    · intro wq hSw
      try dsimp only at hSw
      go_split_ands
      go_simp
      try with_reducible rfl
    try simp only [Act.put, List.setIfInBounds_toArray, List.set_cons_zero, List.set_cons_succ]
    refine wpAnyH_take (i := 29) (oi := { dst := some 96, op := Go.Op.call { callee := Go.Callee.builtin Go.Builtin.len, args := #[Go.Operand.tmp 95], argTypes := #[27] }, type := 3, pos := "outright.go:230", after := #[{ on := 28, ground := Go.Ground.data }, { on := 23, ground := Go.Ground.guard }], guard := some (23, false) }) (v := ?_) rfl (by kernel_rfl) (by kernel_rfl) (by kernel_rfl) (fun _ _ _ h => h) (Or.inl ⟨by rfl, ?_⟩) (by assumption) ?_
    rotate_left
    · intro wq hSw
      try dsimp only at hSw
      go_split_ands
      go_simp
      try with_reducible rfl
    try simp only [Act.put, List.setIfInBounds_toArray, List.set_cons_zero, List.set_cons_succ]
    refine wpAnyH_take (i := 30) (oi := { dst := some 97, op := Go.Op.binOp Go.BinOp.neq 3 (Go.Operand.tmp 93) (Go.Operand.tmp 96) 3, type := 4, pos := "outright.go:230", after := #[{ on := 26, ground := Go.Ground.data }, { on := 29, ground := Go.Ground.data }, { on := 23, ground := Go.Ground.guard }], guard := some (23, false) }) (v := ?_) rfl (by kernel_rfl) (by kernel_rfl) (by kernel_rfl) (fun _ _ _ h => h) (Or.inl ⟨by rfl, ?_⟩) (by assumption) ?_
    rotate_left
    · intro wq hSw
      try dsimp only at hSw
      go_split_ands
      go_simp
      try with_reducible rfl
    try simp only [Act.put, List.setIfInBounds_toArray, List.set_cons_zero, List.set_cons_succ]
    refine wpAnyH_take (i := 31) (oi := { dst := some 98, op := Go.Op.pick (Go.Operand.tmp 90) (Go.Operand.const (Go.Value.bool true)) (Go.Operand.tmp 97), type := 4, pos := "outright.go:230", after := #[{ on := 23, ground := Go.Ground.data }, { on := 30, ground := Go.Ground.data }], guard := none }) (v := ?_) rfl (by kernel_rfl) (by kernel_rfl) (by kernel_rfl) (fun _ _ _ h => h) (Or.inl ⟨by rfl, ?_⟩) (by assumption) ?_
    rotate_left
    · intro wq hSw
      try dsimp only at hSw
      go_split_ands
      go_simp
      try with_reducible rfl
    try simp only [Act.put, List.setIfInBounds_toArray, List.set_cons_zero, List.set_cons_succ]
    refine wpAnyH_take (i := 32) (oi := { dst := some 99, op := Go.Op.move (Go.Operand.tmp 98), type := 4, pos := "outright.go:230", after := #[{ on := 31, ground := Go.Ground.data }, { on := 23, ground := Go.Ground.chain }], guard := none }) (v := ?_) rfl (by kernel_rfl) (by kernel_rfl) (by kernel_rfl) (fun _ _ _ h => h) (Or.inl ⟨by rfl, ?_⟩) (by assumption) ?_
    rotate_left
    · intro wq hSw
      try dsimp only at hSw
      go_split_ands
      go_simp
      try with_reducible rfl
    try simp only [Act.put, List.setIfInBounds_toArray, List.set_cons_zero, List.set_cons_succ]
    refine wpAnyH_take (i := 33) (oi := { dst := some 100, op := Go.Op.fieldAddr 29 (Go.Operand.tmp 8) 7, type := 0, pos := "outright.go:230", after := #[{ on := 32, ground := Go.Ground.guard }], guard := some (32, false) }) (v := ?_) rfl (by kernel_rfl) (by kernel_rfl) (by kernel_rfl) (fun _ _ _ h => h) (Or.inl ⟨by rfl, ?_⟩) (by assumption) ?_
    rotate_left
    · intro wq hSw
      try dsimp only at hSw
      go_split_ands
      go_simp
      try with_reducible rfl
    try simp only [Act.put, List.setIfInBounds_toArray, List.set_cons_zero, List.set_cons_succ]
    refine wpAnyH_take (i := 34) (oi := { dst := some 101, op := Go.Op.load 23 (Go.Operand.tmp 100), type := 23, pos := "outright.go:230", after := #[{ on := 33, ground := Go.Ground.data }, { on := 32, ground := Go.Ground.guard }], guard := some (32, false) }) (v := ?_) rfl (by kernel_rfl) (by kernel_rfl) (by kernel_rfl) (fun _ _ _ h => h) (Or.inl ⟨by rfl, ?_⟩) (by assumption) ?_
    rotate_left
    · intro wq hSw
      try dsimp only at hSw
      go_split_ands
      go_simp
      try with_reducible rfl
    try simp only [Act.put, List.setIfInBounds_toArray, List.set_cons_zero, List.set_cons_succ]
    refine wpAnyH_take (i := 35) (oi := { dst := some 102, op := Go.Op.fieldAddr 29 (Go.Operand.tmp 2) 7, type := 0, pos := "outright.go:230", after := #[{ on := 32, ground := Go.Ground.guard }], guard := some (32, false) }) (v := ?_) rfl (by kernel_rfl) (by kernel_rfl) (by kernel_rfl) (fun _ _ _ h => h) (Or.inl ⟨by rfl, ?_⟩) (by assumption) ?_
    rotate_left
    · intro wq hSw
      try dsimp only at hSw
      go_split_ands
      go_simp
      try with_reducible rfl
    try simp only [Act.put, List.setIfInBounds_toArray, List.set_cons_zero, List.set_cons_succ]
    refine wpAnyH_take (i := 36) (oi := { dst := some 103, op := Go.Op.load 23 (Go.Operand.tmp 102), type := 23, pos := "outright.go:230", after := #[{ on := 35, ground := Go.Ground.data }, { on := 32, ground := Go.Ground.guard }], guard := some (32, false) }) (v := ?_) rfl (by kernel_rfl) (by kernel_rfl) (by kernel_rfl) (fun _ _ _ h => h) (Or.inl ⟨by rfl, ?_⟩) (by assumption) ?_
    rotate_left
    · intro wq hSw
      try dsimp only at hSw
      go_split_ands
      go_simp
      try with_reducible rfl
    try simp only [Act.put, List.setIfInBounds_toArray, List.set_cons_zero, List.set_cons_succ]
    refine wpAnyH_ready (rs := [37]) (by kernel_rfl) (by simp) ?_
    refine AllReadyH.cons (o := { dst := some 104, op := Go.Op.call { callee := Go.Callee.value (Go.Operand.func 11), args := #[Go.Operand.tmp 101, Go.Operand.tmp 103], argTypes := #[23, 23] }, type := 4, pos := "outright.go:230", after := #[{ on := 34, ground := Go.Ground.data }, { on := 36, ground := Go.Ground.data }, { on := 32, ground := Go.Ground.chain }, { on := 32, ground := Go.Ground.guard }], guard := some (32, false) }) rfl (fun K hK => ?_) AllReadyH.nil
    go_simp
    go_at_call 11
    have ku := (sr_lit (SU13.out.below C2.out)).2.2.1
    have ks := (sr_lit (SS13.out.below C2.out)).2.2.1
    have EI := eqInts_any uz7 sm7 uk7 s.sems sz7 sm7 sk7 s.sems y2 ku ks
    rw [eqb_yes rfl] at EI
    refine EI.mono ?_
    clear EI ku ks
    rintro e y3 ⟨rfl, bt⟩
    have C3 := hide (chain C2.out bt)
    clear bt
    try go_wp2_with fail
    refine hK.out _ _ (H13.out _ C3.out) (fun hHeld2 => ?_)
    clear hK K hHeld
    have hHeld := hHeld2
    clear hHeld2
    try simp only [Act.put, List.setIfInBounds_toArray, List.set_cons_zero, List.set_cons_succ]
    refine wpAnyH_take (i := 38) (oi := { dst := some 105, op := Go.Op.unOp Go.UnOp.not 4 (Go.Operand.tmp 104), type := 4, pos := "outright.go:230", after := #[{ on := 37, ground := Go.Ground.data }, { on := 32, ground := Go.Ground.guard }], guard := some (32, false) }) (v := ?_) rfl (by kernel_rfl) (by kernel_rfl) (by kernel_rfl) (fun _ _ _ h => h) (Or.inl ⟨by rfl, ?_⟩) (by assumption) ?_
    rotate_left
    · intro wq hSw
      try dsimp only at hSw
      go_split_ands
      go_simp
      try with_reducible rfl
    try simp only [Act.put, List.setIfInBounds_toArray, List.set_cons_zero, List.set_cons_succ]
    refine wpAnyH_take (i := 39) (oi := { dst := some 106, op := Go.Op.pick (Go.Operand.tmp 99) (Go.Operand.const (Go.Value.bool true)) (Go.Operand.tmp 105), type := 4, pos := "outright.go:230", after := #[{ on := 32, ground := Go.Ground.data }, { on := 38, ground := Go.Ground.data }], guard := none }) (v := ?_) rfl (by kernel_rfl) (by kernel_rfl) (by kernel_rfl) (fun _ _ _ h => h) (Or.inl ⟨by rfl, ?_⟩) (by assumption) ?_
    rotate_left
    · intro wq hSw
      try dsimp only at hSw
      go_split_ands
      go_simp
      try with_reducible rfl
    try simp only [Act.put, List.setIfInBounds_toArray, List.set_cons_zero, List.set_cons_succ]
    refine wpAnyH_done (by kernel_rfl) ?_ _
    clear C0 C1 C2 hHeld H13
    have WL0 : Hid (Below W13.heap.size W13 W13) := Below.refl _ _
    have XU := hide (sr_lit SU13.out)
    have XS := hide (sr_lit SS13.out)
    have U6 : Hid (Kv W13 4 1 uz6 sm6 s.up) := XU.out.2.1
    have S6' : Hid (Kv W13 4 1 sz6 sm6 s.up) := XS.out.2.1
    have U9 : Hid (Kv W13 43 66 uz9 sm9 s.pages) := XU.out.2.2.2.2
    have S9' : Hid (Kv W13 43 66 sz9 sm9 s.pages) := XS.out.2.2.2.2
    have U8 : Hid (Pv W13 uz8 sm8 s.ports) := XU.out.2.2.2.1
    have S8' : Hid (Pv W13 sz8 sm8 s.ports) := XS.out.2.2.2.1
    clear XU XS SU13 SS13 SB13 HKx HKt HP HR HT BX13 BB HIU HIS HIB HUS KX3 KX4 KX5
    have LU := hide L13.out.2.2.1
    have LS := hide L13.out.1
    go_wp2
    go_loopw [10] (fun i wr => ∃ k : Nat, k ≤ sm6 ∧ i = .int .i64 k ∧ Hid (Below W13.heap.size W13 wr)) (fun i _ => sm6 - (intOf i).toNat)
    case atStart => exact ⟨0, by omega, rfl, C3.out⟩
    case round =>
      obtain ⟨k, hk, rfl, hb⟩ := hrel
      have dux := (BU13.out.below LU.out hb.out).cell 6 _ rfl
      have dsx := (NS13.out.below LS.out hb.out).cell 6 _ rfl
      by_cases hlt : k < sm6
      · obtain ⟨l1, b, off, row, D1, hl1, e1, hr1, hz1, hk1⟩ := (U6.out.below hb.out).at hlt
        obtain ⟨l2, b', off', row', D2, hl2, e2, hr2, hz2, hk2⟩ := (S6'.out.below hb.out).at hlt
        subst e1 e2
        obtain rfl : l1 = l2 := Option.some.inj (hl1.symm.trans hl2)
        obtain ⟨x, rfl, ex⟩ := keyLits_bool' Tryd.underlying4 hk1
        obtain ⟨y, rfl, ey⟩ := keyLits_bool' Tryd.underlying4 hk2
        obtain rfl : x = y := by rw [ex] at ey; simpa using ey
        have cx := hr1 0 _ rfl
        have cy := hr2 0 _ rfl
        rw [Nat.mul_one, Nat.add_zero] at cx cy
        clear hl1 hl2 hk1 hk2 hz1 hz2 hr1 hr2 ex ey
        go_wp2
        refine wp_region_quiet_lit (by kernel_rfl) (by kernel_rfl) ?_
        repeat (go_big_quiet_step (fail))
        refine wpQuiet_nil ?_
        intro _ hw'
        obtain ⟨nq, rfl⟩ := hw'
        clear cx cy dux dsx
        go_wp2
        go_roundw
        case rel => exact ⟨k + 1, by omega, by go_num, vdrewN_below hb.out nq⟩
        case measure => simp [intOf]; omega
      · obtain rfl : k = sm6 := by omega
        clear hlt hk
        have BQ := hide hb.out
        clear hb
        obtain ⟨uBQ, huBQ⟩ : ∃ W, W = wr := ⟨_, rfl⟩
        subst huBQ
        go_wp2
        go_loopw [11] (fun i wr => ∃ k : Nat, k ≤ sm9 ∧ i = .int .i64 k ∧ Hid (Below W13.heap.size W13 wr)) (fun i _ => sm9 - (intOf i).toNat)
        case atStart => exact ⟨0, by omega, rfl, BQ.out⟩
        case round =>
          obtain ⟨k, hk, rfl, hb⟩ := hrel
          have dux := (BU13.out.below LU.out hb.out).cell 9 _ rfl
          have dsx := (NS13.out.below LS.out hb.out).cell 9 _ rfl
          by_cases hlt : k < sm9
          · obtain ⟨l1, b, off, row, D1, hl1, e1, hr1, hz1, hk1⟩ := (U9.out.below hb.out).at hlt
            obtain ⟨l2, b', off', row', D2, hl2, e2, hr2, hz2, hk2⟩ := (S9'.out.below hb.out).at hlt
            subst e1 e2
            obtain rfl : l1 = l2 := Option.some.inj (hl1.symm.trans hl2)
            have hne : ∀ w, (binOp .neq 43 (.agg row.toArray) (.agg row'.toArray)).run Tryd.prog w = .ok (.bool false) w := fun w => by
              have h := neq_keys (m := 4) (P := Tryd.prog) (t := 43) (by kernel_rfl) (by decide) (formed_page hz1) (formed_page hz2) hk1 hk2 w
              rw [eqb_yes rfl] at h
              exact h
            have hu41 := Tryd.underlying43
            have hi1 : (Tryd.prog.info? 43).map (·.size) = some row.length := by rw [hz1]; exact info_page
            have hi2 : (Tryd.prog.info? 43).map (·.size) = some row'.length := by rw [hz2]; exact info_page
            clear hl1 hl2 hk1 hk2 hz1 hz2
            go_wp2
            refine wp_region_quiet_lit (by kernel_rfl) (by kernel_rfl) ?_
            repeat (first
              | (go_big_quiet_want; refine quiet_load_mid 43 (.tmp 135) rfl b (off + k * 66) rfl row _ hr1 hu41 rfl hi1 ?_; simp only [Act.put, List.setIfInBounds_toArray, List.set_cons_succ, List.set_cons_zero]; go_big_quiet_on)
              | (go_big_quiet_want; refine quiet_load_mid 43 (.tmp 140) rfl b' (off' + k * 66) rfl row' _ hr2 hu41 rfl hi2 ?_; simp only [Act.put, List.setIfInBounds_toArray, List.set_cons_succ, List.set_cons_zero]; go_big_quiet_on)
              | (go_big_quiet_want; refine quiet_neq 43 43 (.tmp 136) (.tmp 141) rfl _ _ rfl rfl (by kernel_rfl) _ hne ?_; simp only [Act.put, List.setIfInBounds_toArray, List.set_cons_succ, List.set_cons_zero]; go_big_quiet_on)
              | go_big_quiet_step (fail))
            refine wpQuiet_nil ?_
            intro _ hw'
            obtain ⟨nq, rfl⟩ := hw'
            clear hne hr1 hr2 hu41 hi1 hi2 dux dsx
            go_wp2
            go_roundw
            case rel => exact ⟨k + 1, by omega, by go_num, vdrewN_below hb.out nq⟩
            case measure => simp [intOf]; omega
          · obtain rfl : k = sm9 := by omega
            clear hlt hk
            have BP := hide hb.out
            clear hb
            obtain ⟨uBP, huBP⟩ : ∃ W, W = wr := ⟨_, rfl⟩
            subst huBP
            go_wp2
            go_loopw [12] (fun i wr => ∃ k : Nat, k ≤ sm8 ∧ i = .int .i64 k ∧ Hid (Below W13.heap.size W13 wr)) (fun i _ => sm8 - (intOf i).toNat)
            case atStart => exact ⟨0, by omega, rfl, BP.out⟩
            case round =>
              obtain ⟨k, hk, rfl, hb⟩ := hrel
              have dux := (BU13.out.below LU.out hb.out).cell 8 _ rfl
              have dsx := (NS13.out.below LS.out hb.out).cell 8 _ rfl
              by_cases hlt : k < sm8
              · obtain ⟨g1, K1, b, off, x1, m1, c1, row, hl1, e1, hrow, hr1, v1⟩ := (U8.out.below hb.out).at hlt
                obtain ⟨g2, K2, b', off', x2, m2, c2, row', hl2, e2, hrow', hr2, v2⟩ := (S8'.out.below hb.out).at hlt
                subst e1 e2 hrow hrow'
                obtain ⟨rfl, rfl⟩ : g1 = g2 ∧ K1 = K2 := by
                  have h := Option.some.inj (hl1.symm.trans hl2)
                  exact ⟨(Prod.mk.inj h).1, (Prod.mk.inj h).2⟩
                obtain rfl : m1 = m2 := by rw [← v1.size, v2.size]
                have p0 := hr1 0 _ rfl
                have p1 := hr1 1 _ rfl
                have q0 := hr2 0 _ rfl
                have q1 := hr2 1 _ rfl
                rw [Nat.add_zero] at p0 q0
                have V1 := hide v1
                have V2 := hide v2
                have vm1 := v1.most
                have P0 := hide p0
                have Q0 := hide q0
                clear hl1 hl2 hr1 hr2 v1 v2
                go_wp2
                refine wp_region_quiet_lit (by kernel_rfl) (by kernel_rfl) ?_
                repeat (go_big_quiet_step (fail))
                refine wpQuiet_nil ?_
                intro _ hw'
                obtain ⟨nq, rfl⟩ := hw'
                clear p0 p1 q0 q1 dux dsx
                have F1 : Hid (Below wr.heap.size wr (wr.drewN nq)) := vdrewN_below (Below.refl _ _) nq
                obtain ⟨WO, hWO⟩ : ∃ W, W = wr := ⟨_, rfl⟩
                subst hWO
                go_wp2
                go_loopw [13] (fun i wx => ∃ j : Nat, j ≤ m1 ∧ i = .int .i64 j ∧ Hid (Below WO.heap.size WO wx)) (fun i _ => m1 - (intOf i).toNat)
                case atStart => exact ⟨0, by omega, rfl, F1.out⟩
                case round =>
                  clear F1
                  obtain ⟨j, hj, rfl, hbj⟩ := hrel
                  have hbw := hide (chain hb.out hbj.out)
                  have dux := (BU13.out.below LU.out hbw.out).cell 8 _ rfl
                  have dsx := (NS13.out.below LS.out hbw.out).cell 8 _ rfl
                  have p0 := cellB' P0.out hbj.out
                  have q0 := cellB' Q0.out hbj.out
                  by_cases hjl : j < m1
                  · obtain ⟨l1, bs, offs, rows, D1, hl1, e1, hr1, hz1, hk1⟩ := (V1.out.below hbj.out).at hjl
                    obtain ⟨l2, bs', offs', rows', D2, hl2, e2, hr2, hz2, hk2⟩ := (V2.out.below hbj.out).at hjl
                    subst e1 e2
                    obtain rfl : l1 = l2 := Option.some.inj (hl1.symm.trans hl2)
                    obtain ⟨x, rfl, ex⟩ := keyLits_string' Tryd.underlying9 hk1
                    obtain ⟨y, rfl, ey⟩ := keyLits_string' Tryd.underlying9 hk2
                    obtain rfl : x = y := by
                      rw [ex] at ey
                      have h2 : x.data.toList = y.data.toList := by simpa using ey
                      exact ByteArray.ext (Array.ext' h2)
                    have cx := hr1 0 _ rfl
                    have cy := hr2 0 _ rfl
                    rw [Nat.mul_one, Nat.add_zero] at cx cy
                    clear hl1 hl2 hk1 hk2 hz1 hz2 hr1 hr2 ex ey
                    go_wp2
                    refine wp_region_quiet_lit (by kernel_rfl) (by kernel_rfl) ?_
                    repeat (go_big_quiet_step (fail))
                    refine wpQuiet_nil ?_
                    intro _ hw'
                    obtain ⟨nq, rfl⟩ := hw'
                    clear cx cy p0 q0 dux dsx
                    go_wp2
                    go_roundw
                    case rel => exact ⟨j + 1, by omega, by go_num, vdrewN_below hbj.out nq⟩
                    case measure => simp [intOf]; omega
                  · obtain rfl : j = m1 := by omega
                    clear hjl hj
                    go_wp2
                    go_roundw
                    case rel => exact ⟨k + 1, by omega, by go_num, hbw.out⟩
                    case measure => simp [intOf]; omega
              · obtain rfl : k = sm8 := by omega
                clear hlt hk
                have BE := hide hb.out
                clear hb
                go_wp2
                go_ret
                exact ⟨rfl, chain B13.out BE.out⟩
end Go.Proofs.YtleeallnfmafnaaDoor.Vv.readyStates
