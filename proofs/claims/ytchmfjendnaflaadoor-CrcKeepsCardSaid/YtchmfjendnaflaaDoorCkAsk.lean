/-
  The law's ask and want: all calls on two lists, their answers in one struct.
-/
import Derived.Test.YtchmfjendnaflaaDoorCkSix
import Derived.Test.YtchmfjendnaflaaDoorRefMore
import Derived.Test.YtchmfjendnaflaaDoorRefSum
namespace Go.Proofs.YtchmfjendnaflaaDoor
open Go.RowKit FerryCrc
set_option linter.unusedVariables false
set_option linter.unusedSimpArgs false

/-- No two of the four share a block. -/
structure Ap4 (v0 v1 v2 v3 : Value) : Prop where
  h01 : ∀ k, v0.ownBlock = some k → v1.ownBlock ≠ some k
  h02 : ∀ k, v0.ownBlock = some k → v2.ownBlock ≠ some k
  h03 : ∀ k, v0.ownBlock = some k → v3.ownBlock ≠ some k
  h12 : ∀ k, v1.ownBlock = some k → v2.ownBlock ≠ some k
  h13 : ∀ k, v1.ownBlock = some k → v3.ownBlock ≠ some k
  h23 : ∀ k, v2.ownBlock = some k → v3.ownBlock ≠ some k
/-- What ask and want answer. -/
def Asked (w : World) (l : List Nat) (mask : Nat) (o t p : List Nat) (P M : Nat) (e : Ending) (w' : World) : Prop :=
  ∃ v0 v1 v2 v3, e = .returned (.agg (askC (sumOf l) (moreOf mask l) M (P : Int) v0 v1 v2 v3).toArray) ∧ Own w' w.heap.size v0 (sealOf l) ∧ Own w' w.heap.size v1 o ∧ Own w' w.heap.size v2 t ∧ Own w' w.heap.size v3 p ∧ Ap4 v0 v1 v2 v3 ∧ Below w.heap.size w w'
def set10 (w : World) (g : Nat) (x0 x1 x2 x3 x4 x5 x6 x7 x8 x9 : Value) : World := (((((((((w.setCell ⟨g, 0, none⟩ x0).setCell ⟨g, 1, none⟩ x1).setCell ⟨g, 2, none⟩ x2).setCell ⟨g, 3, none⟩ x3).setCell ⟨g, 4, none⟩ x4).setCell ⟨g, 5, none⟩ x5).setCell ⟨g, 6, none⟩ x6).setCell ⟨g, 7, none⟩ x7).setCell ⟨g, 8, none⟩ x8).setCell ⟨g, 9, none⟩ x9
theorem Bl.set10 {w : World} {g : Nat} {cs : List Value} (h : Bl w g cs) (hl : cs.length = 10) (x0 x1 x2 x3 x4 x5 x6 x7 x8 x9 : Value) : Bl (set10 w g x0 x1 x2 x3 x4 x5 x6 x7 x8 x9) g [x0, x1, x2, x3, x4, x5, x6, x7, x8, x9] := by
  match cs, hl with
  | [y0, y1, y2, y3, y4, y5, y6, y7, y8, y9], _ => exact (((((((((h.set 0 x0 (by simp)).set 1 x1 (by simp)).set 2 x2 (by simp)).set 3 x3 (by simp)).set 4 x4 (by simp)).set 5 x5 (by simp)).set 6 x6 (by simp)).set 7 x7 (by simp)).set 8 x8 (by simp)).set 9 x9 (by simp)
theorem frm_set10 (w : World) (g : Nat) (x0 x1 x2 x3 x4 x5 x6 x7 x8 x9 : Value) : Frm (fun k => k = g) w (set10 w g x0 x1 x2 x3 x4 x5 x6 x7 x8 x9) :=
  ((((((((((frm_setCell w ⟨g, 0, none⟩ x0).trans (frm_setCell _ ⟨g, 1, none⟩ x1) (fun _ _ t => t)).trans (frm_setCell _ ⟨g, 2, none⟩ x2) (fun _ _ t => t)).trans (frm_setCell _ ⟨g, 3, none⟩ x3) (fun _ _ t => t)).trans (frm_setCell _ ⟨g, 4, none⟩ x4) (fun _ _ t => t)).trans (frm_setCell _ ⟨g, 5, none⟩ x5) (fun _ _ t => t)).trans (frm_setCell _ ⟨g, 6, none⟩ x6) (fun _ _ t => t)).trans (frm_setCell _ ⟨g, 7, none⟩ x7) (fun _ _ t => t)).trans (frm_setCell _ ⟨g, 8, none⟩ x8) (fun _ _ t => t)).trans (frm_setCell _ ⟨g, 9, none⟩ x9) (fun _ _ t => t))


set_option maxRecDepth 100000 in
set_option maxHeartbeats 1600000 in
theorem ask_any {E : Nat → Addr} (a : Option Addr) (n c : Nat) (l : List Nat) (b : Option Addr) (m d : Nat) (r : List Nat) (pos : Int) (mask : Nat) (o t p : List Nat) (P M : Nat) (w : World) (hsix : Six l r n m pos mask o t p P M) (he : K6 w E) (ha : Bts w a n c l) (hb : Bts w b m d r) (hn : n ≤ 140737488354000) (hm : mask < 4294967296) :
    Calls Tryd.prog 13 #[.slice a n c, .slice b m d, .int .i64 pos, .int .u32 (mask : Int)] w fun e w' => Asked w l mask o t p P M e w' := by
  unfold Asked
  have H := hide hsix
  have HA := hide ha
  have HD := hide hb
  have HE := hide he
  clear he
  have HSM : Hid (∀ wx, Below w.heap.size w wx → Calls Tryd.prog 32 #[.slice a n c] wx fun e w' => e = .returned (.int .u32 (sumOf l : Nat)) ∧ Below wx.heap.size wx w') := fun wx hx => sum_any a n c l wx (HA.out.below hx)
  have HMR : Hid (∀ wx, Below w.heap.size w wx → Calls Tryd.prog 35 #[.int .u32 (mask : Int), .slice a n c] wx fun e w' => e = .returned (.int .u32 (moreOf mask l : Nat)) ∧ Below wx.heap.size wx w') := fun wx hx => more_any mask a n c l wx hm (HA.out.below hx)
  have HSL : Hid (∀ wx, Below w.heap.size w wx → Calls Tryd.prog 17 #[.slice a n c] wx fun e w' => ∃ v, e = .returned v ∧ Own w' wx.heap.size v (sealOf l) ∧ Below wx.heap.size wx w') := fun wx hx => by
    refine (seal_any a n c l wx (HA.out.below hx) (by omega)).mono ?_
    rintro e w' ⟨g, rfl, h1, h2⟩
    exact ⟨_, rfl, h1, h2⟩
  clear hsix ha hb
  have HB0 : Hid (Below w.heap.size w ((w.alloc (.cells #[.int .u32 0, .int .u32 0, .int .u32 0, .int .u32 0, .int .u32 0, .int .i64 0, .slice none 0 0, .slice none 0 0, .slice none 0 0, .slice none 0 0] 29)).alloc (.cells #[.int .u32 0, .int .u32 0, .int .u32 0, .int .u32 0, .int .u32 0, .int .i64 0, .slice none 0 0, .slice none 0 0, .slice none 0 0, .slice none 0 0] 29))) := ((Below.refl _ _).alloc (Nat.le_refl _) _).alloc (by simp) _
  have H80 := hide ((bl_alloc w #[.int .u32 0, .int .u32 0, .int .u32 0, .int .u32 0, .int .u32 0, .int .i64 0, .slice none 0 0, .slice none 0 0, .slice none 0 0, .slice none 0 0] 29).below ((Below.refl _ _).alloc (Nat.le_refl _) (.cells #[.int .u32 0, .int .u32 0, .int .u32 0, .int .u32 0, .int .u32 0, .int .i64 0, .slice none 0 0, .slice none 0 0, .slice none 0 0, .slice none 0 0] 29)) (by simp))
  have H90 := hide (bl_alloc (w.alloc (.cells #[.int .u32 0, .int .u32 0, .int .u32 0, .int .u32 0, .int .u32 0, .int .i64 0, .slice none 0 0, .slice none 0 0, .slice none 0 0, .slice none 0 0] 29)) #[.int .u32 0, .int .u32 0, .int .u32 0, .int .u32 0, .int .u32 0, .int .i64 0, .slice none 0 0, .slice none 0 0, .slice none 0 0, .slice none 0 0] 29)
  rw [show (w.alloc (.cells #[.int .u32 0, .int .u32 0, .int .u32 0, .int .u32 0, .int .u32 0, .int .i64 0, .slice none 0 0, .slice none 0 0, .slice none 0 0, .slice none 0 0] 29)).heap.size = w.heap.size + 1 by simp] at H90
  have HG0 : Hid (w.heap.size + 1 < ((w.alloc (.cells #[.int .u32 0, .int .u32 0, .int .u32 0, .int .u32 0, .int .u32 0, .int .i64 0, .slice none 0 0, .slice none 0 0, .slice none 0 0, .slice none 0 0] 29)).alloc (.cells #[.int .u32 0, .int .u32 0, .int .u32 0, .int .u32 0, .int .u32 0, .int .i64 0, .slice none 0 0, .slice none 0 0, .slice none 0 0, .slice none 0 0] 29)).heap.size) := by unfold Hid; simp
  go_enter Tryd.func13, Tryd.ntmps13
  go_wp2_with fail
  generalize ((w.alloc (.cells #[.int .u32 0, .int .u32 0, .int .u32 0, .int .u32 0, .int .u32 0, .int .i64 0, .slice none 0 0, .slice none 0 0, .slice none 0 0, .slice none 0 0] 29)).alloc (.cells #[.int .u32 0, .int .u32 0, .int .u32 0, .int .u32 0, .int .u32 0, .int .i64 0, .slice none 0 0, .slice none 0 0, .slice none 0 0, .slice none 0 0] 29)) = W0 at *
  refine Calls.mono (HSM.out W0 HB0.out) ?_
  rintro e w1 ⟨rfl, hb⟩
  have HW0 := hide hb
  have HP0 := hide (H80.out.below hb (by simp))
  have HQ0 := hide (H90.out.below hb (by simp))
  have HR0 := hide (chain HB0.out hb)
  have HH0 : Hid (w.heap.size + 1 < w1.heap.size) := Nat.lt_of_lt_of_le HG0.out hb.size
  clear hb
  have xc00 : w1.cell? ⟨w.heap.size + 1, 0, none⟩ = some (.int .u32 0) := HQ0.out.cell 0 _ rfl
  have xf00 := HQ0.out.free 0
  have H91 := hide (HQ0.out.set 0 (.int .u32 ((sumOf l : Nat) : Int)) (by simp))
  have H81 := hide (HP0.out.frm (frm_setCell w1 ⟨w.heap.size + 1, 0, none⟩ (.int .u32 ((sumOf l : Nat) : Int))) (fun (e : w.heap.size = w.heap.size + 1) => by omega) (by simp))
  have HB1 := hide (HR0.out.trans ((frm_setCell w1 ⟨w.heap.size + 1, 0, none⟩ (.int .u32 ((sumOf l : Nat) : Int))).below HR0.out.size (fun q (e : q = w.heap.size + 1) => by omega)))
  have HG1 : Hid (w.heap.size + 1 < (w1.setCell ⟨w.heap.size + 1, 0, none⟩ (.int .u32 ((sumOf l : Nat) : Int))).heap.size) := Nat.lt_of_lt_of_le HH0.out (frm_setCell w1 ⟨w.heap.size + 1, 0, none⟩ (.int .u32 ((sumOf l : Nat) : Int))).size
  have HZ1 : Hid (w1.heap.size ≤ (w1.setCell ⟨w.heap.size + 1, 0, none⟩ (.int .u32 ((sumOf l : Nat) : Int))).heap.size) := (frm_setCell w1 ⟨w.heap.size + 1, 0, none⟩ (.int .u32 ((sumOf l : Nat) : Int))).size
  go_wp2_with fail
  clear xc00 xf00
  generalize (w1.setCell ⟨w.heap.size + 1, 0, none⟩ (.int .u32 ((sumOf l : Nat) : Int))) = W1 at *
  refine Calls.mono (HMR.out W1 HB1.out) ?_
  rintro e w2 ⟨rfl, hb⟩
  have HW1 := hide hb
  have HP1 := hide (H81.out.below hb (by simp))
  have HQ1 := hide (H91.out.below hb (by simp))
  have HR1 := hide (chain HB1.out hb)
  have HH1 : Hid (w.heap.size + 1 < w2.heap.size) := Nat.lt_of_lt_of_le HG1.out hb.size
  clear hb
  have xc10 : w2.cell? ⟨w.heap.size + 1, 1, none⟩ = some (.int .u32 0) := HQ1.out.cell 1 _ rfl
  have xf10 := HQ1.out.free 1
  have H92 := hide (HQ1.out.set 1 (.int .u32 ((moreOf mask l : Nat) : Int)) (by simp))
  have H82 := hide (HP1.out.frm (frm_setCell w2 ⟨w.heap.size + 1, 1, none⟩ (.int .u32 ((moreOf mask l : Nat) : Int))) (fun (e : w.heap.size = w.heap.size + 1) => by omega) (by simp))
  have HB2 := hide (HR1.out.trans ((frm_setCell w2 ⟨w.heap.size + 1, 1, none⟩ (.int .u32 ((moreOf mask l : Nat) : Int))).below HR1.out.size (fun q (e : q = w.heap.size + 1) => by omega)))
  have HG2 : Hid (w.heap.size + 1 < (w2.setCell ⟨w.heap.size + 1, 1, none⟩ (.int .u32 ((moreOf mask l : Nat) : Int))).heap.size) := Nat.lt_of_lt_of_le HH1.out (frm_setCell w2 ⟨w.heap.size + 1, 1, none⟩ (.int .u32 ((moreOf mask l : Nat) : Int))).size
  have HZ2 : Hid (w2.heap.size ≤ (w2.setCell ⟨w.heap.size + 1, 1, none⟩ (.int .u32 ((moreOf mask l : Nat) : Int))).heap.size) := (frm_setCell w2 ⟨w.heap.size + 1, 1, none⟩ (.int .u32 ((moreOf mask l : Nat) : Int))).size
  go_wp2_with fail
  clear xc10 xf10
  generalize (w2.setCell ⟨w.heap.size + 1, 1, none⟩ (.int .u32 ((moreOf mask l : Nat) : Int))) = W2 at *
  refine Calls.mono (HSL.out W2 HB2.out) ?_
  rintro e w3 ⟨v0, rfl, ho, hb⟩
  obtain ⟨av0, nv0, cv0, rfl⟩ := ho.sl
  have HW2 := hide hb
  have HP2 := hide (H82.out.below hb (by simp))
  have HQ2 := hide (H92.out.below hb (by simp))
  have HR2 := hide (chain HB2.out hb)
  have HH2 : Hid (w.heap.size + 1 < w3.heap.size) := Nat.lt_of_lt_of_le HG2.out hb.size
  have HOv0 := hide ho
  have HSv0 : Hid (∀ q, (Value.slice av0 nv0 cv0).ownBlock = some q → W2.heap.size ≤ q ∧ q < w3.heap.size) := fun q hq => World.ownsRow.lt ho q hq
  have Fv02w : Hid (Frm (fun q => q = w.heap.size + 1) w3 w3) := Frm.refl _ _
  clear ho
  clear hb
  have xc20 : w3.cell? ⟨w.heap.size + 1, 6, none⟩ = some (.slice none 0 0) := HQ2.out.cell 6 _ rfl
  have xf20 := HQ2.out.free 6
  have H93 := hide (HQ2.out.set 6 (.slice av0 nv0 cv0) (by simp))
  have H83 := hide (HP2.out.frm (frm_setCell w3 ⟨w.heap.size + 1, 6, none⟩ (.slice av0 nv0 cv0)) (fun (e : w.heap.size = w.heap.size + 1) => by omega) (by simp))
  have HB3 := hide (HR2.out.trans ((frm_setCell w3 ⟨w.heap.size + 1, 6, none⟩ (.slice av0 nv0 cv0)).below HR2.out.size (fun q (e : q = w.heap.size + 1) => by omega)))
  have HG3 : Hid (w.heap.size + 1 < (w3.setCell ⟨w.heap.size + 1, 6, none⟩ (.slice av0 nv0 cv0)).heap.size) := Nat.lt_of_lt_of_le HH2.out (frm_setCell w3 ⟨w.heap.size + 1, 6, none⟩ (.slice av0 nv0 cv0)).size
  have HZ3 : Hid (w3.heap.size ≤ (w3.setCell ⟨w.heap.size + 1, 6, none⟩ (.slice av0 nv0 cv0)).heap.size) := (frm_setCell w3 ⟨w.heap.size + 1, 6, none⟩ (.slice av0 nv0 cv0)).size
  have Fv03 := hide (Fv02w.out.trans (frm_setCell w3 ⟨w.heap.size + 1, 6, none⟩ (.slice av0 nv0 cv0)) (fun _ _ t => t))
  go_wp2_with fail
  clear xc20 xf20
  generalize (w3.setCell ⟨w.heap.size + 1, 6, none⟩ (.slice av0 nv0 cv0)) = W3 at *
  refine Calls.mono (H.out.popen E W3 a c (HE.out.below HB3.out) (HA.out.below HB3.out)) ?_
  rintro e w4 ⟨v1, x3, rfl, ho, hb⟩
  obtain ⟨av1, nv1, cv1, rfl⟩ := ho.sl
  have HW3 := hide hb
  have HP3 := hide (H83.out.below hb (by simp))
  have HQ3 := hide (H93.out.below hb (by simp))
  have HR3 := hide (chain HB3.out hb)
  have HH3 : Hid (w.heap.size + 1 < w4.heap.size) := Nat.lt_of_lt_of_le HG3.out hb.size
  have Fv03w := hide (Fv03.out.trans (Frm.ofBelow (S := fun _ => False) hb) (fun _ _ t => t.elim))
  have HOv1 := hide ho
  have HSv1 : Hid (∀ q, (Value.slice av1 nv1 cv1).ownBlock = some q → W3.heap.size ≤ q ∧ q < w4.heap.size) := fun q hq => World.ownsRow.lt ho q hq
  have Fv13w : Hid (Frm (fun q => q = w.heap.size + 1) w4 w4) := Frm.refl _ _
  clear ho
  clear hb
  have xc30 : w4.cell? ⟨w.heap.size + 1, 7, none⟩ = some (.slice none 0 0) := HQ3.out.cell 7 _ rfl
  have xf30 := HQ3.out.free 7
  have H94 := hide (HQ3.out.set 7 (.slice av1 nv1 cv1) (by simp))
  have H84 := hide (HP3.out.frm (frm_setCell w4 ⟨w.heap.size + 1, 7, none⟩ (.slice av1 nv1 cv1)) (fun (e : w.heap.size = w.heap.size + 1) => by omega) (by simp))
  have HB4 := hide (HR3.out.trans ((frm_setCell w4 ⟨w.heap.size + 1, 7, none⟩ (.slice av1 nv1 cv1)).below HR3.out.size (fun q (e : q = w.heap.size + 1) => by omega)))
  have HG4 : Hid (w.heap.size + 1 < (w4.setCell ⟨w.heap.size + 1, 7, none⟩ (.slice av1 nv1 cv1)).heap.size) := Nat.lt_of_lt_of_le HH3.out (frm_setCell w4 ⟨w.heap.size + 1, 7, none⟩ (.slice av1 nv1 cv1)).size
  have HZ4 : Hid (w4.heap.size ≤ (w4.setCell ⟨w.heap.size + 1, 7, none⟩ (.slice av1 nv1 cv1)).heap.size) := (frm_setCell w4 ⟨w.heap.size + 1, 7, none⟩ (.slice av1 nv1 cv1)).size
  have Fv04 := hide (Fv03w.out.trans (frm_setCell w4 ⟨w.heap.size + 1, 7, none⟩ (.slice av1 nv1 cv1)) (fun _ _ t => t))
  have Fv14 := hide (Fv13w.out.trans (frm_setCell w4 ⟨w.heap.size + 1, 7, none⟩ (.slice av1 nv1 cv1)) (fun _ _ t => t))
  go_wp2_with fail
  clear xc30 xf30
  generalize (w4.setCell ⟨w.heap.size + 1, 7, none⟩ (.slice av1 nv1 cv1)) = W4 at *
  refine Calls.mono (H.out.pturn E W4 a c (HE.out.below HB4.out) (HA.out.below HB4.out)) ?_
  rintro e w5 ⟨v2, x4, rfl, ho, hb⟩
  obtain ⟨av2, nv2, cv2, rfl⟩ := ho.sl
  have HW4 := hide hb
  have HP4 := hide (H84.out.below hb (by simp))
  have HQ4 := hide (H94.out.below hb (by simp))
  have HR4 := hide (chain HB4.out hb)
  have HH4 : Hid (w.heap.size + 1 < w5.heap.size) := Nat.lt_of_lt_of_le HG4.out hb.size
  have Fv04w := hide (Fv04.out.trans (Frm.ofBelow (S := fun _ => False) hb) (fun _ _ t => t.elim))
  have Fv14w := hide (Fv14.out.trans (Frm.ofBelow (S := fun _ => False) hb) (fun _ _ t => t.elim))
  have HOv2 := hide ho
  have HSv2 : Hid (∀ q, (Value.slice av2 nv2 cv2).ownBlock = some q → W4.heap.size ≤ q ∧ q < w5.heap.size) := fun q hq => World.ownsRow.lt ho q hq
  have Fv24w : Hid (Frm (fun q => q = w.heap.size + 1) w5 w5) := Frm.refl _ _
  clear ho
  clear hb
  have xc40 : w5.cell? ⟨w.heap.size + 1, 8, none⟩ = some (.slice none 0 0) := HQ4.out.cell 8 _ rfl
  have xf40 := HQ4.out.free 8
  have H95 := hide (HQ4.out.set 8 (.slice av2 nv2 cv2) (by simp))
  have H85 := hide (HP4.out.frm (frm_setCell w5 ⟨w.heap.size + 1, 8, none⟩ (.slice av2 nv2 cv2)) (fun (e : w.heap.size = w.heap.size + 1) => by omega) (by simp))
  have HB5 := hide (HR4.out.trans ((frm_setCell w5 ⟨w.heap.size + 1, 8, none⟩ (.slice av2 nv2 cv2)).below HR4.out.size (fun q (e : q = w.heap.size + 1) => by omega)))
  have HG5 : Hid (w.heap.size + 1 < (w5.setCell ⟨w.heap.size + 1, 8, none⟩ (.slice av2 nv2 cv2)).heap.size) := Nat.lt_of_lt_of_le HH4.out (frm_setCell w5 ⟨w.heap.size + 1, 8, none⟩ (.slice av2 nv2 cv2)).size
  have HZ5 : Hid (w5.heap.size ≤ (w5.setCell ⟨w.heap.size + 1, 8, none⟩ (.slice av2 nv2 cv2)).heap.size) := (frm_setCell w5 ⟨w.heap.size + 1, 8, none⟩ (.slice av2 nv2 cv2)).size
  have Fv05 := hide (Fv04w.out.trans (frm_setCell w5 ⟨w.heap.size + 1, 8, none⟩ (.slice av2 nv2 cv2)) (fun _ _ t => t))
  have Fv15 := hide (Fv14w.out.trans (frm_setCell w5 ⟨w.heap.size + 1, 8, none⟩ (.slice av2 nv2 cv2)) (fun _ _ t => t))
  have Fv25 := hide (Fv24w.out.trans (frm_setCell w5 ⟨w.heap.size + 1, 8, none⟩ (.slice av2 nv2 cv2)) (fun _ _ t => t))
  go_wp2_with fail
  clear xc40 xf40
  generalize (w5.setCell ⟨w.heap.size + 1, 8, none⟩ (.slice av2 nv2 cv2)) = W5 at *
  refine Calls.mono (H.out.ppatch E W5 a c (HE.out.below HB5.out) (HA.out.below HB5.out)) ?_
  rintro e w6 ⟨v3, x5, rfl, ho, hb⟩
  obtain ⟨av3, nv3, cv3, rfl⟩ := ho.sl
  have HW5 := hide hb
  have HP5 := hide (H85.out.below hb (by simp))
  have HQ5 := hide (H95.out.below hb (by simp))
  have HR5 := hide (chain HB5.out hb)
  have HH5 : Hid (w.heap.size + 1 < w6.heap.size) := Nat.lt_of_lt_of_le HG5.out hb.size
  have Fv05w := hide (Fv05.out.trans (Frm.ofBelow (S := fun _ => False) hb) (fun _ _ t => t.elim))
  have Fv15w := hide (Fv15.out.trans (Frm.ofBelow (S := fun _ => False) hb) (fun _ _ t => t.elim))
  have Fv25w := hide (Fv25.out.trans (Frm.ofBelow (S := fun _ => False) hb) (fun _ _ t => t.elim))
  have HOv3 := hide ho
  have HSv3 : Hid (∀ q, (Value.slice av3 nv3 cv3).ownBlock = some q → W5.heap.size ≤ q ∧ q < w6.heap.size) := fun q hq => World.ownsRow.lt ho q hq
  have Fv35w : Hid (Frm (fun q => q = w.heap.size + 1) w6 w6) := Frm.refl _ _
  clear ho
  clear hb
  have xc50 : w6.cell? ⟨w.heap.size + 1, 9, none⟩ = some (.slice none 0 0) := HQ5.out.cell 9 _ rfl
  have xf50 := HQ5.out.free 9
  have H96 := hide (HQ5.out.set 9 (.slice av3 nv3 cv3) (by simp))
  have H86 := hide (HP5.out.frm (frm_setCell w6 ⟨w.heap.size + 1, 9, none⟩ (.slice av3 nv3 cv3)) (fun (e : w.heap.size = w.heap.size + 1) => by omega) (by simp))
  have HB6 := hide (HR5.out.trans ((frm_setCell w6 ⟨w.heap.size + 1, 9, none⟩ (.slice av3 nv3 cv3)).below HR5.out.size (fun q (e : q = w.heap.size + 1) => by omega)))
  have HG6 : Hid (w.heap.size + 1 < (w6.setCell ⟨w.heap.size + 1, 9, none⟩ (.slice av3 nv3 cv3)).heap.size) := Nat.lt_of_lt_of_le HH5.out (frm_setCell w6 ⟨w.heap.size + 1, 9, none⟩ (.slice av3 nv3 cv3)).size
  have HZ6 : Hid (w6.heap.size ≤ (w6.setCell ⟨w.heap.size + 1, 9, none⟩ (.slice av3 nv3 cv3)).heap.size) := (frm_setCell w6 ⟨w.heap.size + 1, 9, none⟩ (.slice av3 nv3 cv3)).size
  have Fv06 := hide (Fv05w.out.trans (frm_setCell w6 ⟨w.heap.size + 1, 9, none⟩ (.slice av3 nv3 cv3)) (fun _ _ t => t))
  have Fv16 := hide (Fv15w.out.trans (frm_setCell w6 ⟨w.heap.size + 1, 9, none⟩ (.slice av3 nv3 cv3)) (fun _ _ t => t))
  have Fv26 := hide (Fv25w.out.trans (frm_setCell w6 ⟨w.heap.size + 1, 9, none⟩ (.slice av3 nv3 cv3)) (fun _ _ t => t))
  have Fv36 := hide (Fv35w.out.trans (frm_setCell w6 ⟨w.heap.size + 1, 9, none⟩ (.slice av3 nv3 cv3)) (fun _ _ t => t))
  go_wp2_with fail
  clear xc50 xf50
  generalize (w6.setCell ⟨w.heap.size + 1, 9, none⟩ (.slice av3 nv3 cv3)) = W6 at *
  refine Calls.mono (H.out.pburst E W6 a b c d (HE.out.below HB6.out) (HA.out.below HB6.out) (HD.out.below HB6.out)) ?_
  rintro e w7 ⟨x6, rfl, hb⟩
  have HW6 := hide hb
  have HP6 := hide (H86.out.below hb (by simp))
  have HQ6 := hide (H96.out.below hb (by simp))
  have HR6 := hide (chain HB6.out hb)
  have HH6 : Hid (w.heap.size + 1 < w7.heap.size) := Nat.lt_of_lt_of_le HG6.out hb.size
  have Fv06w := hide (Fv06.out.trans (Frm.ofBelow (S := fun _ => False) hb) (fun _ _ t => t.elim))
  have Fv16w := hide (Fv16.out.trans (Frm.ofBelow (S := fun _ => False) hb) (fun _ _ t => t.elim))
  have Fv26w := hide (Fv26.out.trans (Frm.ofBelow (S := fun _ => False) hb) (fun _ _ t => t.elim))
  have Fv36w := hide (Fv36.out.trans (Frm.ofBelow (S := fun _ => False) hb) (fun _ _ t => t.elim))
  clear hb
  have xc60 : w7.cell? ⟨w.heap.size + 1, 5, none⟩ = some (.int .i64 0) := HQ6.out.cell 5 _ rfl
  have xf60 := HQ6.out.free 5
  have xc61 : w7.cell? ⟨w.heap.size + 1, 2, none⟩ = some (.int .u32 0) := HQ6.out.cell 2 _ rfl
  have xf61 := HQ6.out.free 2
  have H97 := hide ((HQ6.out.set 5 (.int .i64 (P : Int)) (by simp)).set 2 (.int .u32 (M : Int)) (by simp))
  have H87 := hide (HP6.out.frm ((frm_setCell w7 ⟨w.heap.size + 1, 5, none⟩ (.int .i64 (P : Int))).trans (frm_setCell _ ⟨w.heap.size + 1, 2, none⟩ (.int .u32 (M : Int))) (fun _ _ t => t)) (fun (e : w.heap.size = w.heap.size + 1) => by omega) (by simp))
  have HB7 := hide (HR6.out.trans (((frm_setCell w7 ⟨w.heap.size + 1, 5, none⟩ (.int .i64 (P : Int))).trans (frm_setCell _ ⟨w.heap.size + 1, 2, none⟩ (.int .u32 (M : Int))) (fun _ _ t => t)).below HR6.out.size (fun q (e : q = w.heap.size + 1) => by omega)))
  have HG7 : Hid (w.heap.size + 1 < ((w7.setCell ⟨w.heap.size + 1, 5, none⟩ (.int .i64 (P : Int))).setCell ⟨w.heap.size + 1, 2, none⟩ (.int .u32 (M : Int))).heap.size) := Nat.lt_of_lt_of_le HH6.out ((frm_setCell w7 ⟨w.heap.size + 1, 5, none⟩ (.int .i64 (P : Int))).trans (frm_setCell _ ⟨w.heap.size + 1, 2, none⟩ (.int .u32 (M : Int))) (fun _ _ t => t)).size
  have HZ7 : Hid (w7.heap.size ≤ ((w7.setCell ⟨w.heap.size + 1, 5, none⟩ (.int .i64 (P : Int))).setCell ⟨w.heap.size + 1, 2, none⟩ (.int .u32 (M : Int))).heap.size) := ((frm_setCell w7 ⟨w.heap.size + 1, 5, none⟩ (.int .i64 (P : Int))).trans (frm_setCell _ ⟨w.heap.size + 1, 2, none⟩ (.int .u32 (M : Int))) (fun _ _ t => t)).size
  have Fv07 := hide (Fv06w.out.trans ((frm_setCell w7 ⟨w.heap.size + 1, 5, none⟩ (.int .i64 (P : Int))).trans (frm_setCell _ ⟨w.heap.size + 1, 2, none⟩ (.int .u32 (M : Int))) (fun _ _ t => t)) (fun _ _ t => t))
  have Fv17 := hide (Fv16w.out.trans ((frm_setCell w7 ⟨w.heap.size + 1, 5, none⟩ (.int .i64 (P : Int))).trans (frm_setCell _ ⟨w.heap.size + 1, 2, none⟩ (.int .u32 (M : Int))) (fun _ _ t => t)) (fun _ _ t => t))
  have Fv27 := hide (Fv26w.out.trans ((frm_setCell w7 ⟨w.heap.size + 1, 5, none⟩ (.int .i64 (P : Int))).trans (frm_setCell _ ⟨w.heap.size + 1, 2, none⟩ (.int .u32 (M : Int))) (fun _ _ t => t)) (fun _ _ t => t))
  have Fv37 := hide (Fv36w.out.trans ((frm_setCell w7 ⟨w.heap.size + 1, 5, none⟩ (.int .i64 (P : Int))).trans (frm_setCell _ ⟨w.heap.size + 1, 2, none⟩ (.int .u32 (M : Int))) (fun _ _ t => t)) (fun _ _ t => t))
  go_upto_region 9 with fail
  clear xc60 xf60 xc61 xf61
  generalize ((w7.setCell ⟨w.heap.size + 1, 5, none⟩ (.int .i64 (P : Int))).setCell ⟨w.heap.size + 1, 2, none⟩ (.int .u32 (M : Int))) = W7 at *
  have z0 : W7.cell? ⟨w.heap.size + 1, 0, none⟩ = some (.int .u32 ((sumOf l : Nat) : Int)) := H97.out.cell 0 _ rfl
  have z1 : W7.cell? ⟨w.heap.size + 1, 1, none⟩ = some (.int .u32 ((moreOf mask l : Nat) : Int)) := H97.out.cell 1 _ rfl
  have z2 : W7.cell? ⟨w.heap.size + 1, 2, none⟩ = some (.int .u32 (M : Int)) := H97.out.cell 2 _ rfl
  have z3 : W7.cell? ⟨w.heap.size + 1, 3, none⟩ = some (.int .u32 0) := H97.out.cell 3 _ rfl
  have z4 : W7.cell? ⟨w.heap.size + 1, 4, none⟩ = some (.int .u32 0) := H97.out.cell 4 _ rfl
  have z5 : W7.cell? ⟨w.heap.size + 1, 5, none⟩ = some (.int .i64 (P : Int)) := H97.out.cell 5 _ rfl
  have z6 : W7.cell? ⟨w.heap.size + 1, 6, none⟩ = some (.slice av0 nv0 cv0) := H97.out.cell 6 _ rfl
  have z7 : W7.cell? ⟨w.heap.size + 1, 7, none⟩ = some (.slice av1 nv1 cv1) := H97.out.cell 7 _ rfl
  have z8 : W7.cell? ⟨w.heap.size + 1, 8, none⟩ = some (.slice av2 nv2 cv2) := H97.out.cell 8 _ rfl
  have z9 : W7.cell? ⟨w.heap.size + 1, 9, none⟩ = some (.slice av3 nv3 cv3) := H97.out.cell 9 _ rfl
  have y0 : W7.cell? ⟨w.heap.size, 0, none⟩ = some (.int .u32 0) := H87.out.cell 0 _ rfl
  have y1 : W7.cell? ⟨w.heap.size, 1, none⟩ = some (.int .u32 0) := H87.out.cell 1 _ rfl
  have y2 : W7.cell? ⟨w.heap.size, 2, none⟩ = some (.int .u32 0) := H87.out.cell 2 _ rfl
  have y3 : W7.cell? ⟨w.heap.size, 3, none⟩ = some (.int .u32 0) := H87.out.cell 3 _ rfl
  have y4 : W7.cell? ⟨w.heap.size, 4, none⟩ = some (.int .u32 0) := H87.out.cell 4 _ rfl
  have y5 : W7.cell? ⟨w.heap.size, 5, none⟩ = some (.int .i64 0) := H87.out.cell 5 _ rfl
  have y6 : W7.cell? ⟨w.heap.size, 6, none⟩ = some (.slice none 0 0) := H87.out.cell 6 _ rfl
  have y7 : W7.cell? ⟨w.heap.size, 7, none⟩ = some (.slice none 0 0) := H87.out.cell 7 _ rfl
  have y8 : W7.cell? ⟨w.heap.size, 8, none⟩ = some (.slice none 0 0) := H87.out.cell 8 _ rfl
  have y9 : W7.cell? ⟨w.heap.size, 9, none⟩ = some (.slice none 0 0) := H87.out.cell 9 _ rfl
  have ff := H87.out.free
  have Q8 := hide (H87.out.set10 (by simp) (.int .u32 ((sumOf l : Nat) : Int)) (.int .u32 ((moreOf mask l : Nat) : Int)) (.int .u32 (M : Int)) (.int .u32 0) (.int .u32 0) (.int .i64 (P : Int)) (.slice av0 nv0 cv0) (.slice av1 nv1 cv1) (.slice av2 nv2 cv2) (.slice av3 nv3 cv3))
  have FR := hide (frm_set10 W7 w.heap.size (.int .u32 ((sumOf l : Nat) : Int)) (.int .u32 ((moreOf mask l : Nat) : Int)) (.int .u32 (M : Int)) (.int .u32 0) (.int .u32 0) (.int .i64 (P : Int)) (.slice av0 nv0 cv0) (.slice av1 nv1 cv1) (.slice av2 nv2 cv2) (.slice av3 nv3 cv3))
  unfold set10 at Q8 FR
  go_wp2
  generalize ((((((((((W7.setCell ⟨w.heap.size, 0, none⟩ (.int .u32 ((sumOf l : Nat) : Int))).setCell ⟨w.heap.size, 1, none⟩ (.int .u32 ((moreOf mask l : Nat) : Int))).setCell ⟨w.heap.size, 2, none⟩ (.int .u32 (M : Int))).setCell ⟨w.heap.size, 3, none⟩ (.int .u32 0)).setCell ⟨w.heap.size, 4, none⟩ (.int .u32 0)).setCell ⟨w.heap.size, 5, none⟩ (.int .i64 (P : Int))).setCell ⟨w.heap.size, 6, none⟩ (.slice av0 nv0 cv0)).setCell ⟨w.heap.size, 7, none⟩ (.slice av1 nv1 cv1)).setCell ⟨w.heap.size, 8, none⟩ (.slice av2 nv2 cv2)).setCell ⟨w.heap.size, 9, none⟩ (.slice av3 nv3 cv3)) = WZ at *
  have e0 : WZ.cell? ⟨w.heap.size, 0, none⟩ = some (.int .u32 ((sumOf l : Nat) : Int)) := Q8.out.cell 0 _ rfl
  have e1 : WZ.cell? ⟨w.heap.size, 1, none⟩ = some (.int .u32 ((moreOf mask l : Nat) : Int)) := Q8.out.cell 1 _ rfl
  have e2 : WZ.cell? ⟨w.heap.size, 2, none⟩ = some (.int .u32 (M : Int)) := Q8.out.cell 2 _ rfl
  have e3 : WZ.cell? ⟨w.heap.size, 3, none⟩ = some (.int .u32 0) := Q8.out.cell 3 _ rfl
  have e4 : WZ.cell? ⟨w.heap.size, 4, none⟩ = some (.int .u32 0) := Q8.out.cell 4 _ rfl
  have e5 : WZ.cell? ⟨w.heap.size, 5, none⟩ = some (.int .i64 (P : Int)) := Q8.out.cell 5 _ rfl
  have e6 : WZ.cell? ⟨w.heap.size, 6, none⟩ = some (.slice av0 nv0 cv0) := Q8.out.cell 6 _ rfl
  have e7 : WZ.cell? ⟨w.heap.size, 7, none⟩ = some (.slice av1 nv1 cv1) := Q8.out.cell 7 _ rfl
  have e8 : WZ.cell? ⟨w.heap.size, 8, none⟩ = some (.slice av2 nv2 cv2) := Q8.out.cell 8 _ rfl
  have e9 : WZ.cell? ⟨w.heap.size, 9, none⟩ = some (.slice av3 nv3 cv3) := Q8.out.cell 9 _ rfl
  (try simp only [Exit.inBlock, Exit.then])
  refine bodyPost_ret (v := .agg (askC (sumOf l) (moreOf mask l) M (P : Int) (.slice av0 nv0 cv0) (.slice av1 nv1 cv1) (.slice av2 nv2 cv2) (.slice av3 nv3 cv3)).toArray) (by simp [results, Tryd.results13, go_sem, e0, e1, e2, e3, e4, e5, e6, e7, e8, e9, askC]) rfl ?_
  have hz : W0.heap.size ≤ w1.heap.size ∧ w1.heap.size ≤ W1.heap.size ∧ W1.heap.size ≤ w2.heap.size ∧ w2.heap.size ≤ W2.heap.size ∧ W2.heap.size ≤ w3.heap.size ∧ w3.heap.size ≤ W3.heap.size ∧ W3.heap.size ≤ w4.heap.size ∧ w4.heap.size ≤ W4.heap.size ∧ W4.heap.size ≤ w5.heap.size ∧ w5.heap.size ≤ W5.heap.size ∧ W5.heap.size ≤ w6.heap.size := ⟨HW0.out.size, HZ1.out, HW1.out.size, HZ2.out, HW2.out.size, HZ3.out, HW3.out.size, HZ4.out, HW4.out.size, HZ5.out, HW5.out.size⟩
  have hg := HG0.out
  have gv0 := (HOv0.out.frm Fv07.out (fun q hq (e : q = w.heap.size + 1) => by have := HSv0.out q hq; omega)).frm FR.out (fun q hq (e : q = w.heap.size) => by have := HSv0.out q hq; omega)
  have gv1 := (HOv1.out.frm Fv17.out (fun q hq (e : q = w.heap.size + 1) => by have := HSv1.out q hq; omega)).frm FR.out (fun q hq (e : q = w.heap.size) => by have := HSv1.out q hq; omega)
  have gv2 := (HOv2.out.frm Fv27.out (fun q hq (e : q = w.heap.size + 1) => by have := HSv2.out q hq; omega)).frm FR.out (fun q hq (e : q = w.heap.size) => by have := HSv2.out q hq; omega)
  have gv3 := (HOv3.out.frm Fv37.out (fun q hq (e : q = w.heap.size + 1) => by have := HSv3.out q hq; omega)).frm FR.out (fun q hq (e : q = w.heap.size) => by have := HSv3.out q hq; omega)
  refine ⟨_, _, _, _, rfl, gv0.wk (by omega), gv1.wk (by omega), gv2.wk (by omega), gv3.wk (by omega), ⟨fun q h1 h2 => ?_, fun q h1 h2 => ?_, fun q h1 h2 => ?_, fun q h1 h2 => ?_, fun q h1 h2 => ?_, fun q h1 h2 => ?_⟩, HB7.out.trans (FR.out.below HB7.out.size (fun q (e : q = w.heap.size) => by omega))⟩
  · have := HSv0.out q h1; have := HSv1.out q h2; omega
  · have := HSv0.out q h1; have := HSv2.out q h2; omega
  · have := HSv0.out q h1; have := HSv3.out q h2; omega
  · have := HSv1.out q h1; have := HSv2.out q h2; omega
  · have := HSv1.out q h1; have := HSv3.out q h2; omega
  · have := HSv2.out q h1; have := HSv3.out q h2; omega

set_option maxRecDepth 100000 in
set_option maxHeartbeats 1600000 in
theorem want_any (a : Option Addr) (n c : Nat) (l : List Nat) (b : Option Addr) (m d : Nat) (r : List Nat) (pos : Int) (mask : Nat) (o t p : List Nat) (P M : Nat) (w : World) (hsix : Six l r n m pos mask o t p P M) (ha : Bts w a n c l) (hb : Bts w b m d r) (hn : n ≤ 140737488354000) (hm : mask < 4294967296) :
    Calls Tryd.prog 12 #[.slice a n c, .slice b m d, .int .i64 pos, .int .u32 (mask : Int)] w fun e w' => Asked w l mask o t p P M e w' := by
  unfold Asked
  have H := hide hsix
  have HA := hide ha
  have HD := hide hb
  have HSM : Hid (∀ wx, Below w.heap.size w wx → Calls Tryd.prog 33 #[.slice a n c] wx fun e w' => e = .returned (.int .u32 (sumOf l : Nat)) ∧ Below wx.heap.size wx w') := fun wx hx => by
    refine (refSum_any a n c l wx (HA.out.below hx)).mono ?_
    rintro e w' ⟨rfl, rfl⟩
    exact ⟨rfl, Below.refl _ _⟩
  have HMR : Hid (∀ wx, Below w.heap.size w wx → Calls Tryd.prog 34 #[.int .u32 (mask : Int), .slice a n c] wx fun e w' => e = .returned (.int .u32 (moreOf mask l : Nat)) ∧ Below wx.heap.size wx w') := fun wx hx => by
    refine (refMore_any mask a n c l wx hm (HA.out.below hx)).mono ?_
    rintro e w' ⟨rfl, rfl⟩
    exact ⟨rfl, Below.refl _ _⟩
  have HSL : Hid (∀ wx, Below w.heap.size w wx → Calls Tryd.prog 10 #[.slice a n c] wx fun e w' => ∃ v, e = .returned v ∧ Own w' wx.heap.size v (sealOf l) ∧ Below wx.heap.size wx w') := fun wx hx => by
    refine (refSeal_any a n c l wx (HA.out.below hx) (by omega)).mono ?_
    rintro e w' ⟨g, c, rfl, h1, h2⟩
    exact ⟨_, rfl, h1, h2⟩
  clear hsix ha hb
  have HB0 : Hid (Below w.heap.size w ((w.alloc (.cells #[.int .u32 0, .int .u32 0, .int .u32 0, .int .u32 0, .int .u32 0, .int .i64 0, .slice none 0 0, .slice none 0 0, .slice none 0 0, .slice none 0 0] 29)).alloc (.cells #[.int .u32 0, .int .u32 0, .int .u32 0, .int .u32 0, .int .u32 0, .int .i64 0, .slice none 0 0, .slice none 0 0, .slice none 0 0, .slice none 0 0] 29))) := ((Below.refl _ _).alloc (Nat.le_refl _) _).alloc (by simp) _
  have H80 := hide ((bl_alloc w #[.int .u32 0, .int .u32 0, .int .u32 0, .int .u32 0, .int .u32 0, .int .i64 0, .slice none 0 0, .slice none 0 0, .slice none 0 0, .slice none 0 0] 29).below ((Below.refl _ _).alloc (Nat.le_refl _) (.cells #[.int .u32 0, .int .u32 0, .int .u32 0, .int .u32 0, .int .u32 0, .int .i64 0, .slice none 0 0, .slice none 0 0, .slice none 0 0, .slice none 0 0] 29)) (by simp))
  have H90 := hide (bl_alloc (w.alloc (.cells #[.int .u32 0, .int .u32 0, .int .u32 0, .int .u32 0, .int .u32 0, .int .i64 0, .slice none 0 0, .slice none 0 0, .slice none 0 0, .slice none 0 0] 29)) #[.int .u32 0, .int .u32 0, .int .u32 0, .int .u32 0, .int .u32 0, .int .i64 0, .slice none 0 0, .slice none 0 0, .slice none 0 0, .slice none 0 0] 29)
  rw [show (w.alloc (.cells #[.int .u32 0, .int .u32 0, .int .u32 0, .int .u32 0, .int .u32 0, .int .i64 0, .slice none 0 0, .slice none 0 0, .slice none 0 0, .slice none 0 0] 29)).heap.size = w.heap.size + 1 by simp] at H90
  have HG0 : Hid (w.heap.size + 1 < ((w.alloc (.cells #[.int .u32 0, .int .u32 0, .int .u32 0, .int .u32 0, .int .u32 0, .int .i64 0, .slice none 0 0, .slice none 0 0, .slice none 0 0, .slice none 0 0] 29)).alloc (.cells #[.int .u32 0, .int .u32 0, .int .u32 0, .int .u32 0, .int .u32 0, .int .i64 0, .slice none 0 0, .slice none 0 0, .slice none 0 0, .slice none 0 0] 29)).heap.size) := by unfold Hid; simp
  go_enter Tryd.func12, Tryd.ntmps12
  go_wp2_with fail
  generalize ((w.alloc (.cells #[.int .u32 0, .int .u32 0, .int .u32 0, .int .u32 0, .int .u32 0, .int .i64 0, .slice none 0 0, .slice none 0 0, .slice none 0 0, .slice none 0 0] 29)).alloc (.cells #[.int .u32 0, .int .u32 0, .int .u32 0, .int .u32 0, .int .u32 0, .int .i64 0, .slice none 0 0, .slice none 0 0, .slice none 0 0, .slice none 0 0] 29)) = W0 at *
  refine Calls.mono (HSM.out W0 HB0.out) ?_
  rintro e w1 ⟨rfl, hb⟩
  have HW0 := hide hb
  have HP0 := hide (H80.out.below hb (by simp))
  have HQ0 := hide (H90.out.below hb (by simp))
  have HR0 := hide (chain HB0.out hb)
  have HH0 : Hid (w.heap.size + 1 < w1.heap.size) := Nat.lt_of_lt_of_le HG0.out hb.size
  clear hb
  have xc00 : w1.cell? ⟨w.heap.size + 1, 0, none⟩ = some (.int .u32 0) := HQ0.out.cell 0 _ rfl
  have xf00 := HQ0.out.free 0
  have H91 := hide (HQ0.out.set 0 (.int .u32 ((sumOf l : Nat) : Int)) (by simp))
  have H81 := hide (HP0.out.frm (frm_setCell w1 ⟨w.heap.size + 1, 0, none⟩ (.int .u32 ((sumOf l : Nat) : Int))) (fun (e : w.heap.size = w.heap.size + 1) => by omega) (by simp))
  have HB1 := hide (HR0.out.trans ((frm_setCell w1 ⟨w.heap.size + 1, 0, none⟩ (.int .u32 ((sumOf l : Nat) : Int))).below HR0.out.size (fun q (e : q = w.heap.size + 1) => by omega)))
  have HG1 : Hid (w.heap.size + 1 < (w1.setCell ⟨w.heap.size + 1, 0, none⟩ (.int .u32 ((sumOf l : Nat) : Int))).heap.size) := Nat.lt_of_lt_of_le HH0.out (frm_setCell w1 ⟨w.heap.size + 1, 0, none⟩ (.int .u32 ((sumOf l : Nat) : Int))).size
  have HZ1 : Hid (w1.heap.size ≤ (w1.setCell ⟨w.heap.size + 1, 0, none⟩ (.int .u32 ((sumOf l : Nat) : Int))).heap.size) := (frm_setCell w1 ⟨w.heap.size + 1, 0, none⟩ (.int .u32 ((sumOf l : Nat) : Int))).size
  go_wp2_with fail
  clear xc00 xf00
  generalize (w1.setCell ⟨w.heap.size + 1, 0, none⟩ (.int .u32 ((sumOf l : Nat) : Int))) = W1 at *
  refine Calls.mono (HMR.out W1 HB1.out) ?_
  rintro e w2 ⟨rfl, hb⟩
  have HW1 := hide hb
  have HP1 := hide (H81.out.below hb (by simp))
  have HQ1 := hide (H91.out.below hb (by simp))
  have HR1 := hide (chain HB1.out hb)
  have HH1 : Hid (w.heap.size + 1 < w2.heap.size) := Nat.lt_of_lt_of_le HG1.out hb.size
  clear hb
  have xc10 : w2.cell? ⟨w.heap.size + 1, 1, none⟩ = some (.int .u32 0) := HQ1.out.cell 1 _ rfl
  have xf10 := HQ1.out.free 1
  have H92 := hide (HQ1.out.set 1 (.int .u32 ((moreOf mask l : Nat) : Int)) (by simp))
  have H82 := hide (HP1.out.frm (frm_setCell w2 ⟨w.heap.size + 1, 1, none⟩ (.int .u32 ((moreOf mask l : Nat) : Int))) (fun (e : w.heap.size = w.heap.size + 1) => by omega) (by simp))
  have HB2 := hide (HR1.out.trans ((frm_setCell w2 ⟨w.heap.size + 1, 1, none⟩ (.int .u32 ((moreOf mask l : Nat) : Int))).below HR1.out.size (fun q (e : q = w.heap.size + 1) => by omega)))
  have HG2 : Hid (w.heap.size + 1 < (w2.setCell ⟨w.heap.size + 1, 1, none⟩ (.int .u32 ((moreOf mask l : Nat) : Int))).heap.size) := Nat.lt_of_lt_of_le HH1.out (frm_setCell w2 ⟨w.heap.size + 1, 1, none⟩ (.int .u32 ((moreOf mask l : Nat) : Int))).size
  have HZ2 : Hid (w2.heap.size ≤ (w2.setCell ⟨w.heap.size + 1, 1, none⟩ (.int .u32 ((moreOf mask l : Nat) : Int))).heap.size) := (frm_setCell w2 ⟨w.heap.size + 1, 1, none⟩ (.int .u32 ((moreOf mask l : Nat) : Int))).size
  go_wp2_with fail
  clear xc10 xf10
  generalize (w2.setCell ⟨w.heap.size + 1, 1, none⟩ (.int .u32 ((moreOf mask l : Nat) : Int))) = W2 at *
  refine Calls.mono (HSL.out W2 HB2.out) ?_
  rintro e w3 ⟨v0, rfl, ho, hb⟩
  obtain ⟨av0, nv0, cv0, rfl⟩ := ho.sl
  have HW2 := hide hb
  have HP2 := hide (H82.out.below hb (by simp))
  have HQ2 := hide (H92.out.below hb (by simp))
  have HR2 := hide (chain HB2.out hb)
  have HH2 : Hid (w.heap.size + 1 < w3.heap.size) := Nat.lt_of_lt_of_le HG2.out hb.size
  have HOv0 := hide ho
  have HSv0 : Hid (∀ q, (Value.slice av0 nv0 cv0).ownBlock = some q → W2.heap.size ≤ q ∧ q < w3.heap.size) := fun q hq => World.ownsRow.lt ho q hq
  have Fv02w : Hid (Frm (fun q => q = w.heap.size + 1) w3 w3) := Frm.refl _ _
  clear ho
  clear hb
  have xc20 : w3.cell? ⟨w.heap.size + 1, 6, none⟩ = some (.slice none 0 0) := HQ2.out.cell 6 _ rfl
  have xf20 := HQ2.out.free 6
  have H93 := hide (HQ2.out.set 6 (.slice av0 nv0 cv0) (by simp))
  have H83 := hide (HP2.out.frm (frm_setCell w3 ⟨w.heap.size + 1, 6, none⟩ (.slice av0 nv0 cv0)) (fun (e : w.heap.size = w.heap.size + 1) => by omega) (by simp))
  have HB3 := hide (HR2.out.trans ((frm_setCell w3 ⟨w.heap.size + 1, 6, none⟩ (.slice av0 nv0 cv0)).below HR2.out.size (fun q (e : q = w.heap.size + 1) => by omega)))
  have HG3 : Hid (w.heap.size + 1 < (w3.setCell ⟨w.heap.size + 1, 6, none⟩ (.slice av0 nv0 cv0)).heap.size) := Nat.lt_of_lt_of_le HH2.out (frm_setCell w3 ⟨w.heap.size + 1, 6, none⟩ (.slice av0 nv0 cv0)).size
  have HZ3 : Hid (w3.heap.size ≤ (w3.setCell ⟨w.heap.size + 1, 6, none⟩ (.slice av0 nv0 cv0)).heap.size) := (frm_setCell w3 ⟨w.heap.size + 1, 6, none⟩ (.slice av0 nv0 cv0)).size
  have Fv03 := hide (Fv02w.out.trans (frm_setCell w3 ⟨w.heap.size + 1, 6, none⟩ (.slice av0 nv0 cv0)) (fun _ _ t => t))
  go_wp2_with fail
  clear xc20 xf20
  generalize (w3.setCell ⟨w.heap.size + 1, 6, none⟩ (.slice av0 nv0 cv0)) = W3 at *
  refine Calls.mono (H.out.ropen W3 a c (HA.out.below HB3.out)) ?_
  rintro e w4 ⟨v1, x3, rfl, ho, hb⟩
  obtain ⟨av1, nv1, cv1, rfl⟩ := ho.sl
  have HW3 := hide hb
  have HP3 := hide (H83.out.below hb (by simp))
  have HQ3 := hide (H93.out.below hb (by simp))
  have HR3 := hide (chain HB3.out hb)
  have HH3 : Hid (w.heap.size + 1 < w4.heap.size) := Nat.lt_of_lt_of_le HG3.out hb.size
  have Fv03w := hide (Fv03.out.trans (Frm.ofBelow (S := fun _ => False) hb) (fun _ _ t => t.elim))
  have HOv1 := hide ho
  have HSv1 : Hid (∀ q, (Value.slice av1 nv1 cv1).ownBlock = some q → W3.heap.size ≤ q ∧ q < w4.heap.size) := fun q hq => World.ownsRow.lt ho q hq
  have Fv13w : Hid (Frm (fun q => q = w.heap.size + 1) w4 w4) := Frm.refl _ _
  clear ho
  clear hb
  have xc30 : w4.cell? ⟨w.heap.size + 1, 7, none⟩ = some (.slice none 0 0) := HQ3.out.cell 7 _ rfl
  have xf30 := HQ3.out.free 7
  have H94 := hide (HQ3.out.set 7 (.slice av1 nv1 cv1) (by simp))
  have H84 := hide (HP3.out.frm (frm_setCell w4 ⟨w.heap.size + 1, 7, none⟩ (.slice av1 nv1 cv1)) (fun (e : w.heap.size = w.heap.size + 1) => by omega) (by simp))
  have HB4 := hide (HR3.out.trans ((frm_setCell w4 ⟨w.heap.size + 1, 7, none⟩ (.slice av1 nv1 cv1)).below HR3.out.size (fun q (e : q = w.heap.size + 1) => by omega)))
  have HG4 : Hid (w.heap.size + 1 < (w4.setCell ⟨w.heap.size + 1, 7, none⟩ (.slice av1 nv1 cv1)).heap.size) := Nat.lt_of_lt_of_le HH3.out (frm_setCell w4 ⟨w.heap.size + 1, 7, none⟩ (.slice av1 nv1 cv1)).size
  have HZ4 : Hid (w4.heap.size ≤ (w4.setCell ⟨w.heap.size + 1, 7, none⟩ (.slice av1 nv1 cv1)).heap.size) := (frm_setCell w4 ⟨w.heap.size + 1, 7, none⟩ (.slice av1 nv1 cv1)).size
  have Fv04 := hide (Fv03w.out.trans (frm_setCell w4 ⟨w.heap.size + 1, 7, none⟩ (.slice av1 nv1 cv1)) (fun _ _ t => t))
  have Fv14 := hide (Fv13w.out.trans (frm_setCell w4 ⟨w.heap.size + 1, 7, none⟩ (.slice av1 nv1 cv1)) (fun _ _ t => t))
  go_wp2_with fail
  clear xc30 xf30
  generalize (w4.setCell ⟨w.heap.size + 1, 7, none⟩ (.slice av1 nv1 cv1)) = W4 at *
  refine Calls.mono (H.out.rturn W4 a c (HA.out.below HB4.out)) ?_
  rintro e w5 ⟨v2, x4, rfl, ho, hb⟩
  obtain ⟨av2, nv2, cv2, rfl⟩ := ho.sl
  have HW4 := hide hb
  have HP4 := hide (H84.out.below hb (by simp))
  have HQ4 := hide (H94.out.below hb (by simp))
  have HR4 := hide (chain HB4.out hb)
  have HH4 : Hid (w.heap.size + 1 < w5.heap.size) := Nat.lt_of_lt_of_le HG4.out hb.size
  have Fv04w := hide (Fv04.out.trans (Frm.ofBelow (S := fun _ => False) hb) (fun _ _ t => t.elim))
  have Fv14w := hide (Fv14.out.trans (Frm.ofBelow (S := fun _ => False) hb) (fun _ _ t => t.elim))
  have HOv2 := hide ho
  have HSv2 : Hid (∀ q, (Value.slice av2 nv2 cv2).ownBlock = some q → W4.heap.size ≤ q ∧ q < w5.heap.size) := fun q hq => World.ownsRow.lt ho q hq
  have Fv24w : Hid (Frm (fun q => q = w.heap.size + 1) w5 w5) := Frm.refl _ _
  clear ho
  clear hb
  have xc40 : w5.cell? ⟨w.heap.size + 1, 8, none⟩ = some (.slice none 0 0) := HQ4.out.cell 8 _ rfl
  have xf40 := HQ4.out.free 8
  have H95 := hide (HQ4.out.set 8 (.slice av2 nv2 cv2) (by simp))
  have H85 := hide (HP4.out.frm (frm_setCell w5 ⟨w.heap.size + 1, 8, none⟩ (.slice av2 nv2 cv2)) (fun (e : w.heap.size = w.heap.size + 1) => by omega) (by simp))
  have HB5 := hide (HR4.out.trans ((frm_setCell w5 ⟨w.heap.size + 1, 8, none⟩ (.slice av2 nv2 cv2)).below HR4.out.size (fun q (e : q = w.heap.size + 1) => by omega)))
  have HG5 : Hid (w.heap.size + 1 < (w5.setCell ⟨w.heap.size + 1, 8, none⟩ (.slice av2 nv2 cv2)).heap.size) := Nat.lt_of_lt_of_le HH4.out (frm_setCell w5 ⟨w.heap.size + 1, 8, none⟩ (.slice av2 nv2 cv2)).size
  have HZ5 : Hid (w5.heap.size ≤ (w5.setCell ⟨w.heap.size + 1, 8, none⟩ (.slice av2 nv2 cv2)).heap.size) := (frm_setCell w5 ⟨w.heap.size + 1, 8, none⟩ (.slice av2 nv2 cv2)).size
  have Fv05 := hide (Fv04w.out.trans (frm_setCell w5 ⟨w.heap.size + 1, 8, none⟩ (.slice av2 nv2 cv2)) (fun _ _ t => t))
  have Fv15 := hide (Fv14w.out.trans (frm_setCell w5 ⟨w.heap.size + 1, 8, none⟩ (.slice av2 nv2 cv2)) (fun _ _ t => t))
  have Fv25 := hide (Fv24w.out.trans (frm_setCell w5 ⟨w.heap.size + 1, 8, none⟩ (.slice av2 nv2 cv2)) (fun _ _ t => t))
  go_wp2_with fail
  clear xc40 xf40
  generalize (w5.setCell ⟨w.heap.size + 1, 8, none⟩ (.slice av2 nv2 cv2)) = W5 at *
  refine Calls.mono (H.out.rpatch W5 a c (HA.out.below HB5.out)) ?_
  rintro e w6 ⟨v3, x5, rfl, ho, hb⟩
  obtain ⟨av3, nv3, cv3, rfl⟩ := ho.sl
  have HW5 := hide hb
  have HP5 := hide (H85.out.below hb (by simp))
  have HQ5 := hide (H95.out.below hb (by simp))
  have HR5 := hide (chain HB5.out hb)
  have HH5 : Hid (w.heap.size + 1 < w6.heap.size) := Nat.lt_of_lt_of_le HG5.out hb.size
  have Fv05w := hide (Fv05.out.trans (Frm.ofBelow (S := fun _ => False) hb) (fun _ _ t => t.elim))
  have Fv15w := hide (Fv15.out.trans (Frm.ofBelow (S := fun _ => False) hb) (fun _ _ t => t.elim))
  have Fv25w := hide (Fv25.out.trans (Frm.ofBelow (S := fun _ => False) hb) (fun _ _ t => t.elim))
  have HOv3 := hide ho
  have HSv3 : Hid (∀ q, (Value.slice av3 nv3 cv3).ownBlock = some q → W5.heap.size ≤ q ∧ q < w6.heap.size) := fun q hq => World.ownsRow.lt ho q hq
  have Fv35w : Hid (Frm (fun q => q = w.heap.size + 1) w6 w6) := Frm.refl _ _
  clear ho
  clear hb
  have xc50 : w6.cell? ⟨w.heap.size + 1, 9, none⟩ = some (.slice none 0 0) := HQ5.out.cell 9 _ rfl
  have xf50 := HQ5.out.free 9
  have H96 := hide (HQ5.out.set 9 (.slice av3 nv3 cv3) (by simp))
  have H86 := hide (HP5.out.frm (frm_setCell w6 ⟨w.heap.size + 1, 9, none⟩ (.slice av3 nv3 cv3)) (fun (e : w.heap.size = w.heap.size + 1) => by omega) (by simp))
  have HB6 := hide (HR5.out.trans ((frm_setCell w6 ⟨w.heap.size + 1, 9, none⟩ (.slice av3 nv3 cv3)).below HR5.out.size (fun q (e : q = w.heap.size + 1) => by omega)))
  have HG6 : Hid (w.heap.size + 1 < (w6.setCell ⟨w.heap.size + 1, 9, none⟩ (.slice av3 nv3 cv3)).heap.size) := Nat.lt_of_lt_of_le HH5.out (frm_setCell w6 ⟨w.heap.size + 1, 9, none⟩ (.slice av3 nv3 cv3)).size
  have HZ6 : Hid (w6.heap.size ≤ (w6.setCell ⟨w.heap.size + 1, 9, none⟩ (.slice av3 nv3 cv3)).heap.size) := (frm_setCell w6 ⟨w.heap.size + 1, 9, none⟩ (.slice av3 nv3 cv3)).size
  have Fv06 := hide (Fv05w.out.trans (frm_setCell w6 ⟨w.heap.size + 1, 9, none⟩ (.slice av3 nv3 cv3)) (fun _ _ t => t))
  have Fv16 := hide (Fv15w.out.trans (frm_setCell w6 ⟨w.heap.size + 1, 9, none⟩ (.slice av3 nv3 cv3)) (fun _ _ t => t))
  have Fv26 := hide (Fv25w.out.trans (frm_setCell w6 ⟨w.heap.size + 1, 9, none⟩ (.slice av3 nv3 cv3)) (fun _ _ t => t))
  have Fv36 := hide (Fv35w.out.trans (frm_setCell w6 ⟨w.heap.size + 1, 9, none⟩ (.slice av3 nv3 cv3)) (fun _ _ t => t))
  go_wp2_with fail
  clear xc50 xf50
  generalize (w6.setCell ⟨w.heap.size + 1, 9, none⟩ (.slice av3 nv3 cv3)) = W6 at *
  refine Calls.mono (H.out.rburst W6 a b c d (HA.out.below HB6.out) (HD.out.below HB6.out)) ?_
  rintro e w7 ⟨x6, rfl, hb⟩
  have HW6 := hide hb
  have HP6 := hide (H86.out.below hb (by simp))
  have HQ6 := hide (H96.out.below hb (by simp))
  have HR6 := hide (chain HB6.out hb)
  have HH6 : Hid (w.heap.size + 1 < w7.heap.size) := Nat.lt_of_lt_of_le HG6.out hb.size
  have Fv06w := hide (Fv06.out.trans (Frm.ofBelow (S := fun _ => False) hb) (fun _ _ t => t.elim))
  have Fv16w := hide (Fv16.out.trans (Frm.ofBelow (S := fun _ => False) hb) (fun _ _ t => t.elim))
  have Fv26w := hide (Fv26.out.trans (Frm.ofBelow (S := fun _ => False) hb) (fun _ _ t => t.elim))
  have Fv36w := hide (Fv36.out.trans (Frm.ofBelow (S := fun _ => False) hb) (fun _ _ t => t.elim))
  clear hb
  have xc60 : w7.cell? ⟨w.heap.size + 1, 5, none⟩ = some (.int .i64 0) := HQ6.out.cell 5 _ rfl
  have xf60 := HQ6.out.free 5
  have xc61 : w7.cell? ⟨w.heap.size + 1, 2, none⟩ = some (.int .u32 0) := HQ6.out.cell 2 _ rfl
  have xf61 := HQ6.out.free 2
  have H97 := hide ((HQ6.out.set 5 (.int .i64 (P : Int)) (by simp)).set 2 (.int .u32 (M : Int)) (by simp))
  have H87 := hide (HP6.out.frm ((frm_setCell w7 ⟨w.heap.size + 1, 5, none⟩ (.int .i64 (P : Int))).trans (frm_setCell _ ⟨w.heap.size + 1, 2, none⟩ (.int .u32 (M : Int))) (fun _ _ t => t)) (fun (e : w.heap.size = w.heap.size + 1) => by omega) (by simp))
  have HB7 := hide (HR6.out.trans (((frm_setCell w7 ⟨w.heap.size + 1, 5, none⟩ (.int .i64 (P : Int))).trans (frm_setCell _ ⟨w.heap.size + 1, 2, none⟩ (.int .u32 (M : Int))) (fun _ _ t => t)).below HR6.out.size (fun q (e : q = w.heap.size + 1) => by omega)))
  have HG7 : Hid (w.heap.size + 1 < ((w7.setCell ⟨w.heap.size + 1, 5, none⟩ (.int .i64 (P : Int))).setCell ⟨w.heap.size + 1, 2, none⟩ (.int .u32 (M : Int))).heap.size) := Nat.lt_of_lt_of_le HH6.out ((frm_setCell w7 ⟨w.heap.size + 1, 5, none⟩ (.int .i64 (P : Int))).trans (frm_setCell _ ⟨w.heap.size + 1, 2, none⟩ (.int .u32 (M : Int))) (fun _ _ t => t)).size
  have HZ7 : Hid (w7.heap.size ≤ ((w7.setCell ⟨w.heap.size + 1, 5, none⟩ (.int .i64 (P : Int))).setCell ⟨w.heap.size + 1, 2, none⟩ (.int .u32 (M : Int))).heap.size) := ((frm_setCell w7 ⟨w.heap.size + 1, 5, none⟩ (.int .i64 (P : Int))).trans (frm_setCell _ ⟨w.heap.size + 1, 2, none⟩ (.int .u32 (M : Int))) (fun _ _ t => t)).size
  have Fv07 := hide (Fv06w.out.trans ((frm_setCell w7 ⟨w.heap.size + 1, 5, none⟩ (.int .i64 (P : Int))).trans (frm_setCell _ ⟨w.heap.size + 1, 2, none⟩ (.int .u32 (M : Int))) (fun _ _ t => t)) (fun _ _ t => t))
  have Fv17 := hide (Fv16w.out.trans ((frm_setCell w7 ⟨w.heap.size + 1, 5, none⟩ (.int .i64 (P : Int))).trans (frm_setCell _ ⟨w.heap.size + 1, 2, none⟩ (.int .u32 (M : Int))) (fun _ _ t => t)) (fun _ _ t => t))
  have Fv27 := hide (Fv26w.out.trans ((frm_setCell w7 ⟨w.heap.size + 1, 5, none⟩ (.int .i64 (P : Int))).trans (frm_setCell _ ⟨w.heap.size + 1, 2, none⟩ (.int .u32 (M : Int))) (fun _ _ t => t)) (fun _ _ t => t))
  have Fv37 := hide (Fv36w.out.trans ((frm_setCell w7 ⟨w.heap.size + 1, 5, none⟩ (.int .i64 (P : Int))).trans (frm_setCell _ ⟨w.heap.size + 1, 2, none⟩ (.int .u32 (M : Int))) (fun _ _ t => t)) (fun _ _ t => t))
  go_upto_region 9 with fail
  clear xc60 xf60 xc61 xf61
  generalize ((w7.setCell ⟨w.heap.size + 1, 5, none⟩ (.int .i64 (P : Int))).setCell ⟨w.heap.size + 1, 2, none⟩ (.int .u32 (M : Int))) = W7 at *
  have z0 : W7.cell? ⟨w.heap.size + 1, 0, none⟩ = some (.int .u32 ((sumOf l : Nat) : Int)) := H97.out.cell 0 _ rfl
  have z1 : W7.cell? ⟨w.heap.size + 1, 1, none⟩ = some (.int .u32 ((moreOf mask l : Nat) : Int)) := H97.out.cell 1 _ rfl
  have z2 : W7.cell? ⟨w.heap.size + 1, 2, none⟩ = some (.int .u32 (M : Int)) := H97.out.cell 2 _ rfl
  have z3 : W7.cell? ⟨w.heap.size + 1, 3, none⟩ = some (.int .u32 0) := H97.out.cell 3 _ rfl
  have z4 : W7.cell? ⟨w.heap.size + 1, 4, none⟩ = some (.int .u32 0) := H97.out.cell 4 _ rfl
  have z5 : W7.cell? ⟨w.heap.size + 1, 5, none⟩ = some (.int .i64 (P : Int)) := H97.out.cell 5 _ rfl
  have z6 : W7.cell? ⟨w.heap.size + 1, 6, none⟩ = some (.slice av0 nv0 cv0) := H97.out.cell 6 _ rfl
  have z7 : W7.cell? ⟨w.heap.size + 1, 7, none⟩ = some (.slice av1 nv1 cv1) := H97.out.cell 7 _ rfl
  have z8 : W7.cell? ⟨w.heap.size + 1, 8, none⟩ = some (.slice av2 nv2 cv2) := H97.out.cell 8 _ rfl
  have z9 : W7.cell? ⟨w.heap.size + 1, 9, none⟩ = some (.slice av3 nv3 cv3) := H97.out.cell 9 _ rfl
  have y0 : W7.cell? ⟨w.heap.size, 0, none⟩ = some (.int .u32 0) := H87.out.cell 0 _ rfl
  have y1 : W7.cell? ⟨w.heap.size, 1, none⟩ = some (.int .u32 0) := H87.out.cell 1 _ rfl
  have y2 : W7.cell? ⟨w.heap.size, 2, none⟩ = some (.int .u32 0) := H87.out.cell 2 _ rfl
  have y3 : W7.cell? ⟨w.heap.size, 3, none⟩ = some (.int .u32 0) := H87.out.cell 3 _ rfl
  have y4 : W7.cell? ⟨w.heap.size, 4, none⟩ = some (.int .u32 0) := H87.out.cell 4 _ rfl
  have y5 : W7.cell? ⟨w.heap.size, 5, none⟩ = some (.int .i64 0) := H87.out.cell 5 _ rfl
  have y6 : W7.cell? ⟨w.heap.size, 6, none⟩ = some (.slice none 0 0) := H87.out.cell 6 _ rfl
  have y7 : W7.cell? ⟨w.heap.size, 7, none⟩ = some (.slice none 0 0) := H87.out.cell 7 _ rfl
  have y8 : W7.cell? ⟨w.heap.size, 8, none⟩ = some (.slice none 0 0) := H87.out.cell 8 _ rfl
  have y9 : W7.cell? ⟨w.heap.size, 9, none⟩ = some (.slice none 0 0) := H87.out.cell 9 _ rfl
  have ff := H87.out.free
  have Q8 := hide (H87.out.set10 (by simp) (.int .u32 ((sumOf l : Nat) : Int)) (.int .u32 ((moreOf mask l : Nat) : Int)) (.int .u32 (M : Int)) (.int .u32 0) (.int .u32 0) (.int .i64 (P : Int)) (.slice av0 nv0 cv0) (.slice av1 nv1 cv1) (.slice av2 nv2 cv2) (.slice av3 nv3 cv3))
  have FR := hide (frm_set10 W7 w.heap.size (.int .u32 ((sumOf l : Nat) : Int)) (.int .u32 ((moreOf mask l : Nat) : Int)) (.int .u32 (M : Int)) (.int .u32 0) (.int .u32 0) (.int .i64 (P : Int)) (.slice av0 nv0 cv0) (.slice av1 nv1 cv1) (.slice av2 nv2 cv2) (.slice av3 nv3 cv3))
  unfold set10 at Q8 FR
  go_wp2
  generalize ((((((((((W7.setCell ⟨w.heap.size, 0, none⟩ (.int .u32 ((sumOf l : Nat) : Int))).setCell ⟨w.heap.size, 1, none⟩ (.int .u32 ((moreOf mask l : Nat) : Int))).setCell ⟨w.heap.size, 2, none⟩ (.int .u32 (M : Int))).setCell ⟨w.heap.size, 3, none⟩ (.int .u32 0)).setCell ⟨w.heap.size, 4, none⟩ (.int .u32 0)).setCell ⟨w.heap.size, 5, none⟩ (.int .i64 (P : Int))).setCell ⟨w.heap.size, 6, none⟩ (.slice av0 nv0 cv0)).setCell ⟨w.heap.size, 7, none⟩ (.slice av1 nv1 cv1)).setCell ⟨w.heap.size, 8, none⟩ (.slice av2 nv2 cv2)).setCell ⟨w.heap.size, 9, none⟩ (.slice av3 nv3 cv3)) = WZ at *
  have e0 : WZ.cell? ⟨w.heap.size, 0, none⟩ = some (.int .u32 ((sumOf l : Nat) : Int)) := Q8.out.cell 0 _ rfl
  have e1 : WZ.cell? ⟨w.heap.size, 1, none⟩ = some (.int .u32 ((moreOf mask l : Nat) : Int)) := Q8.out.cell 1 _ rfl
  have e2 : WZ.cell? ⟨w.heap.size, 2, none⟩ = some (.int .u32 (M : Int)) := Q8.out.cell 2 _ rfl
  have e3 : WZ.cell? ⟨w.heap.size, 3, none⟩ = some (.int .u32 0) := Q8.out.cell 3 _ rfl
  have e4 : WZ.cell? ⟨w.heap.size, 4, none⟩ = some (.int .u32 0) := Q8.out.cell 4 _ rfl
  have e5 : WZ.cell? ⟨w.heap.size, 5, none⟩ = some (.int .i64 (P : Int)) := Q8.out.cell 5 _ rfl
  have e6 : WZ.cell? ⟨w.heap.size, 6, none⟩ = some (.slice av0 nv0 cv0) := Q8.out.cell 6 _ rfl
  have e7 : WZ.cell? ⟨w.heap.size, 7, none⟩ = some (.slice av1 nv1 cv1) := Q8.out.cell 7 _ rfl
  have e8 : WZ.cell? ⟨w.heap.size, 8, none⟩ = some (.slice av2 nv2 cv2) := Q8.out.cell 8 _ rfl
  have e9 : WZ.cell? ⟨w.heap.size, 9, none⟩ = some (.slice av3 nv3 cv3) := Q8.out.cell 9 _ rfl
  (try simp only [Exit.inBlock, Exit.then])
  refine bodyPost_ret (v := .agg (askC (sumOf l) (moreOf mask l) M (P : Int) (.slice av0 nv0 cv0) (.slice av1 nv1 cv1) (.slice av2 nv2 cv2) (.slice av3 nv3 cv3)).toArray) (by simp [results, Tryd.results12, go_sem, e0, e1, e2, e3, e4, e5, e6, e7, e8, e9, askC]) rfl ?_
  have hz : W0.heap.size ≤ w1.heap.size ∧ w1.heap.size ≤ W1.heap.size ∧ W1.heap.size ≤ w2.heap.size ∧ w2.heap.size ≤ W2.heap.size ∧ W2.heap.size ≤ w3.heap.size ∧ w3.heap.size ≤ W3.heap.size ∧ W3.heap.size ≤ w4.heap.size ∧ w4.heap.size ≤ W4.heap.size ∧ W4.heap.size ≤ w5.heap.size ∧ w5.heap.size ≤ W5.heap.size ∧ W5.heap.size ≤ w6.heap.size := ⟨HW0.out.size, HZ1.out, HW1.out.size, HZ2.out, HW2.out.size, HZ3.out, HW3.out.size, HZ4.out, HW4.out.size, HZ5.out, HW5.out.size⟩
  have hg := HG0.out
  have gv0 := (HOv0.out.frm Fv07.out (fun q hq (e : q = w.heap.size + 1) => by have := HSv0.out q hq; omega)).frm FR.out (fun q hq (e : q = w.heap.size) => by have := HSv0.out q hq; omega)
  have gv1 := (HOv1.out.frm Fv17.out (fun q hq (e : q = w.heap.size + 1) => by have := HSv1.out q hq; omega)).frm FR.out (fun q hq (e : q = w.heap.size) => by have := HSv1.out q hq; omega)
  have gv2 := (HOv2.out.frm Fv27.out (fun q hq (e : q = w.heap.size + 1) => by have := HSv2.out q hq; omega)).frm FR.out (fun q hq (e : q = w.heap.size) => by have := HSv2.out q hq; omega)
  have gv3 := (HOv3.out.frm Fv37.out (fun q hq (e : q = w.heap.size + 1) => by have := HSv3.out q hq; omega)).frm FR.out (fun q hq (e : q = w.heap.size) => by have := HSv3.out q hq; omega)
  refine ⟨_, _, _, _, rfl, gv0.wk (by omega), gv1.wk (by omega), gv2.wk (by omega), gv3.wk (by omega), ⟨fun q h1 h2 => ?_, fun q h1 h2 => ?_, fun q h1 h2 => ?_, fun q h1 h2 => ?_, fun q h1 h2 => ?_, fun q h1 h2 => ?_⟩, HB7.out.trans (FR.out.below HB7.out.size (fun q (e : q = w.heap.size) => by omega))⟩
  · have := HSv0.out q h1; have := HSv1.out q h2; omega
  · have := HSv0.out q h1; have := HSv2.out q h2; omega
  · have := HSv0.out q h1; have := HSv3.out q h2; omega
  · have := HSv1.out q h1; have := HSv2.out q h2; omega
  · have := HSv1.out q h1; have := HSv3.out q h2; omega
  · have := HSv2.out q h1; have := HSv3.out q h2; omega
end Go.Proofs.YtchmfjendnaflaaDoor
