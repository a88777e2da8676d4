/-
  The document's copied: a table as new memory.
-/
import Derived.Test.YtgbckpojoagbnaaGreatDoorWkInv
namespace Go.Proofs.YtgbckpojoagbnaaGreatDoor
open Go.RowKit
set_option linter.unusedVariables false
set_option linter.unusedSimpArgs false

def cpOps : Array Oper := #[{ dst := some 3, op := Op.buildSlice 22 0 #[], type := 22, pos := "ref.go:45", after := #[], guard := none }, { dst := some 4, op := Op.fieldAddr 26 (Operand.tmp 1) 0, type := 0, pos := "ref.go:45", after := #[], guard := none }, { dst := some 5, op := Op.load 22 (Operand.tmp 4), type := 22, pos := "ref.go:45", after := #[{ on := 1, ground := Ground.data }], guard := none }, { dst := some 6, op := Op.call { callee := Callee.builtin Builtin.append, args := #[Operand.tmp 3, Operand.tmp 5], argTypes := #[22, 22] }, type := 22, pos := "ref.go:45", after := #[{ on := 0, ground := Ground.data }, { on := 2, ground := Ground.data }], guard := none }, { dst := some 7, op := Op.buildSlice 23 0 #[], type := 23, pos := "ref.go:45", after := #[], guard := none }, { dst := some 8, op := Op.fieldAddr 26 (Operand.tmp 1) 1, type := 0, pos := "ref.go:45", after := #[], guard := none }, { dst := some 9, op := Op.load 23 (Operand.tmp 8), type := 23, pos := "ref.go:45", after := #[{ on := 5, ground := Ground.data }], guard := none }, { dst := some 10, op := Op.call { callee := Callee.builtin Builtin.append, args := #[Operand.tmp 7, Operand.tmp 9], argTypes := #[23, 23] }, type := 23, pos := "ref.go:45", after := #[{ on := 4, ground := Ground.data }, { on := 6, ground := Ground.data }, { on := 3, ground := Ground.chain }], guard := none }, { dst := some 11, op := Op.buildSlice 24 0 #[], type := 24, pos := "ref.go:45", after := #[], guard := none }, { dst := some 12, op := Op.fieldAddr 26 (Operand.tmp 1) 2, type := 0, pos := "ref.go:45", after := #[], guard := none }, { dst := some 13, op := Op.load 24 (Operand.tmp 12), type := 24, pos := "ref.go:45", after := #[{ on := 9, ground := Ground.data }], guard := none }, { dst := some 14, op := Op.call { callee := Callee.builtin Builtin.append, args := #[Operand.tmp 11, Operand.tmp 13], argTypes := #[24, 24] }, type := 24, pos := "ref.go:45", after := #[{ on := 8, ground := Ground.data }, { on := 10, ground := Ground.data }, { on := 7, ground := Ground.chain }], guard := none }, { dst := some 15, op := Op.build 26 #[(0, Operand.tmp 6), (1, Operand.tmp 10), (2, Operand.tmp 14)], type := 26, pos := "ref.go:45", after := #[{ on := 3, ground := Ground.data }, { on := 7, ground := Ground.data }, { on := 11, ground := Ground.data }], guard := none }, { dst := none, op := Op.store 26 (Operand.tmp 2) (Operand.tmp 15), type := 0, pos := "ref.go:45", after := #[{ on := 12, ground := Ground.data }, { on := 11, ground := Ground.chain }, { on := 0, ground := Ground.phase }, { on := 1, ground := Ground.phase }, { on := 2, ground := Ground.phase }, { on := 3, ground := Ground.phase }, { on := 4, ground := Ground.phase }, { on := 5, ground := Ground.phase }, { on := 6, ground := Ground.phase }, { on := 7, ground := Ground.phase }, { on := 8, ground := Ground.phase }, { on := 9, ground := Ground.phase }, { on := 10, ground := Ground.phase }, { on := 11, ground := Ground.phase }, { on := 12, ground := Ground.phase }], guard := none }]
def cpL (b1 c1 b2 c2 b3 c3 : Bool) : Array Bool := #[b1, true, true, c1, b2, true, true, c2, b3, true, true, c3, false, false]
theorem cp_some : ∀ b1 c1 b2 c2 b3 c3 : Bool, (c1 = true → b1 = true) → (c2 = true → b2 = true) → (c3 = true → b3 = true) → (c2 = true → c1 = true) → (c3 = true → c2 = true) → (b1 && c1 && b2 && c2 && b3 && c3) = false → Region.ready .any cpOps (cpL b1 c1 b2 c2 b3 c3) ≠ [] := by decide +kernel
set_option maxRecDepth 100000 in
set_option maxHeartbeats 4000000 in
theorem cp_three {Q : Exit → Act → World → Prop} {S : World → Prop} {a0 : Act} {W : World} (pa : Option Addr) (pn pc : Nat) (l : List Pro) (hp : Pros W pa pn pc l) (ra : Option Addr) (rn rc : Nat) (r : List Int) (hr : Is W ra rn rc r) (ta : Option Addr) (tn tc : Nat) (t : List Tm) (ht : Tms W ta tn tc t) (hmp : pn ≤ 1048576) (hmr : rn ≤ 1048576) (hmt : tn ≤ 1048576)
    (hsz : 14 < a0.tmps.size) (x1 : a0.tmps[5]? = some (.slice pa pn pc)) (x2 : a0.tmps[9]? = some (.slice ra rn rc)) (x3 : a0.tmps[13]? = some (.slice ta tn tc))
    (hS : ∀ w', Below W.heap.size W w' → S w')
    (h : ∀ u1 u2 u3 a1 n1 a2 n2 a3 n3 w', Tab w' W.heap.size (.slice a1 l.length n1) (.slice a2 r.length n2) (.slice a3 t.length n3) l r t → Below W.heap.size W w' →
      wpAnyH Tryz.prog .any cpOps Q S 2 (cpL true true true true true true) ((((((a0.put (some 3) u1).put (some 6) (.slice a1 l.length n1)).put (some 7) u2).put (some 10) (.slice a2 r.length n2)).put (some 11) u3).put (some 14) (.slice a3 t.length n3)) w') :
    wpAnyH Tryz.prog .any cpOps Q S 8 (cpL false false false false false false) a0 W := by
  have z1 := hp.size
  have z2 := hr.size
  have z3 := ht.size
  refine wpAnyH_inv 2 (fun n listed a w => ∃ (b1 c1 b2 c2 b3 c3 : Bool) (ts : Array Value), n + b1.toNat + c1.toNat + b2.toNat + c2.toNat + b3.toNat + c3.toNat = 6 ∧ listed = cpL b1 c1 b2 c2 b3 c3 ∧ a = { a0 with tmps := ts } ∧ Ag [3, 6, 7, 10, 11, 14] a0.tmps ts ∧ Lst w W.heap.size 59 21 b1 c1 ts[3]? ts[6]? l.length (l.flatMap Pro.cells) ∧ Lst w W.heap.size 3 1 b2 c2 ts[7]? ts[10]? r.length (r.flatMap ci) ∧ Lst w W.heap.size 61 2 b3 c3 ts[11]? ts[14]? t.length (t.flatMap Tm.cells) ∧ (c2 = true → c1 = true) ∧ (c3 = true → c2 = true) ∧ Below W.heap.size W w) ?_ ?_ ?_ 6 _ _ _ ⟨false, false, false, false, false, false, a0.tmps, rfl, rfl, rfl, ag_refl _ _, lst_none, lst_none, lst_none, fun e => by simp at e, fun e => by simp at e, Below.refl _ _⟩
  · rintro n listed a w i ⟨b1, c1, b2, c2, b3, c3, ts, hn, rfl, rfl, hag, q1, q2, q3, k2, k3, hb⟩ hi
    obtain ⟨hl, o, ho, hd⟩ := mem_ready.1 hi
    have hiN : i < 14 := (Array.getElem?_eq_some_iff.1 ho).1
    clear hi
    match i, hiN with
    | 0, _ =>
      clear ho hd
      obtain rfl : b1 = false := by simpa [cpL] using hl
      obtain rfl : c1 = false := by cases c1 with | false => rfl | true => exact absurd (q1.dep rfl) (by simp)
      refine wpOp_of (o := { dst := some 3, op := Op.buildSlice 22 0 #[], type := 22, pos := "ref.go:45", after := #[], guard := none }) rfl rfl (wp_empty 22 59 rfl Tryz.underlying22 infoProc (by decide) ?_)
      have X := new_below w (.cells #[] 59)
      refine ⟨hS _ (chain hb X), true, false, b2, c2, b3, c3, ts.setIfInBounds 3 (.slice (some ⟨w.heap.size, 0, none⟩) 0 0), by simp at hn ⊢; omega, rfl, rfl, hag.set (by simp) _, ?_, ?_, ?_, k2, k3, chain hb X⟩
      · rw [set_at hag (by omega)]; exact lst_made (World.ownsRow_lit w #[] 0 hb.size (by decide) rfl)
      · rw [set_ne (by decide), set_ne (by decide)]; exact q2.below X
      · rw [set_ne (by decide), set_ne (by decide)]; exact q3.below X
    | 1, _ =>
      exact absurd hl (by simp [cpL])
    | 2, _ =>
      exact absurd hl (by simp [cpL])
    | 3, _ =>
      obtain rfl : c1 = false := by simpa [cpL] using hl
      obtain rfl : o = { dst := some 6, op := Op.call { callee := Callee.builtin Builtin.append, args := #[Operand.tmp 3, Operand.tmp 5], argTypes := #[22, 22] }, type := 22, pos := "ref.go:45", after := #[{ on := 0, ground := Ground.data }, { on := 2, ground := Ground.data }], guard := none } := (Option.some.inj ((show cpOps[3]? = some { dst := some 6, op := Op.call { callee := Callee.builtin Builtin.append, args := #[Operand.tmp 3, Operand.tmp 5], argTypes := #[22, 22] }, type := 22, pos := "ref.go:45", after := #[{ on := 0, ground := Ground.data }, { on := 2, ground := Ground.data }], guard := none } from rfl).symm.trans ho)).symm
      obtain rfl : b1 = true := by simpa [cpL] using hd ⟨0, Ground.data⟩ (by simp) rfl
      clear ho hd
      obtain ⟨v, hv, own⟩ := q1.made rfl rfl
      refine wpOp_of (o := { dst := some 6, op := Op.call { callee := Callee.builtin Builtin.append, args := #[Operand.tmp 3, Operand.tmp 5], argTypes := #[22, 22] }, type := 22, pos := "ref.go:45", after := #[{ on := 0, ground := Ground.data }, { on := 2, ground := Ground.data }], guard := none }) rfl rfl (wp_append_row (.tmp 3) (.tmp 5) 22 59 rfl Tryz.underlying22 infoProc (by decide) W.heap.size v 0 [] (getD_of hv) own pa pn pc (l.flatMap Pro.cells) (getD_of ((hag.same 5 (by decide)).trans x1)) ((hp.below hb).row) (pro_one l) (by unfold maxLen; omega) (by omega) hb.size ?_)
      intro v' w' ho' hg
      rw [List.nil_append, Nat.zero_add, ← z1] at ho'
      have hb' : Below W.heap.size W w' := hb.grown hg hb.size (fun j e => (own.lt j e).1)
      refine ⟨hS _ hb', true, true, b2, c2, b3, c3, ts.setIfInBounds 6 v', by simp at hn ⊢; omega, rfl, rfl, hag.set (by simp) _, ?_, ?_, ?_, fun _ => rfl, k3, hb'⟩
      · rw [set_at hag (by omega)]; exact lst_full ho'
      · rw [set_ne (by decide), set_ne (by decide)]; exact q2.grown own (by decide) hg
      · rw [set_ne (by decide), set_ne (by decide)]; exact q3.grown own (by decide) hg
    | 4, _ =>
      clear ho hd
      obtain rfl : b2 = false := by simpa [cpL] using hl
      obtain rfl : c2 = false := by cases c2 with | false => rfl | true => exact absurd (q2.dep rfl) (by simp)
      refine wpOp_of (o := { dst := some 7, op := Op.buildSlice 23 0 #[], type := 23, pos := "ref.go:45", after := #[], guard := none }) rfl rfl (wp_empty 23 3 rfl Tryz.underlying23 infoInt (by decide) ?_)
      have X := new_below w (.cells #[] 3)
      refine ⟨hS _ (chain hb X), b1, c1, true, false, b3, c3, ts.setIfInBounds 7 (.slice (some ⟨w.heap.size, 0, none⟩) 0 0), by simp at hn ⊢; omega, rfl, rfl, hag.set (by simp) _, ?_, ?_, ?_, k2, k3, chain hb X⟩
      · rw [set_ne (by decide), set_ne (by decide)]; exact q1.below X
      · rw [set_at hag (by omega)]; exact lst_made (World.ownsRow_lit w #[] 0 hb.size (by decide) rfl)
      · rw [set_ne (by decide), set_ne (by decide)]; exact q3.below X
    | 5, _ =>
      exact absurd hl (by simp [cpL])
    | 6, _ =>
      exact absurd hl (by simp [cpL])
    | 7, _ =>
      obtain rfl : c2 = false := by simpa [cpL] using hl
      obtain rfl : o = { dst := some 10, op := Op.call { callee := Callee.builtin Builtin.append, args := #[Operand.tmp 7, Operand.tmp 9], argTypes := #[23, 23] }, type := 23, pos := "ref.go:45", after := #[{ on := 4, ground := Ground.data }, { on := 6, ground := Ground.data }, { on := 3, ground := Ground.chain }], guard := none } := (Option.some.inj ((show cpOps[7]? = some { dst := some 10, op := Op.call { callee := Callee.builtin Builtin.append, args := #[Operand.tmp 7, Operand.tmp 9], argTypes := #[23, 23] }, type := 23, pos := "ref.go:45", after := #[{ on := 4, ground := Ground.data }, { on := 6, ground := Ground.data }, { on := 3, ground := Ground.chain }], guard := none } from rfl).symm.trans ho)).symm
      obtain rfl : b2 = true := by simpa [cpL] using hd ⟨4, Ground.data⟩ (by simp) rfl
      have cc : c1 = true := by simpa [cpL] using hd ⟨3, Ground.chain⟩ (by simp) rfl
      clear ho hd
      obtain ⟨v, hv, own⟩ := q2.made rfl rfl
      refine wpOp_of (o := { dst := some 10, op := Op.call { callee := Callee.builtin Builtin.append, args := #[Operand.tmp 7, Operand.tmp 9], argTypes := #[23, 23] }, type := 23, pos := "ref.go:45", after := #[{ on := 4, ground := Ground.data }, { on := 6, ground := Ground.data }, { on := 3, ground := Ground.chain }], guard := none }) rfl rfl (wp_append_row (.tmp 7) (.tmp 9) 23 3 rfl Tryz.underlying23 infoInt (by decide) W.heap.size v 0 [] (getD_of hv) own ra rn rc (r.flatMap ci) (getD_of ((hag.same 9 (by decide)).trans x2)) ((hr.below hb).row) (ci_one r) (by unfold maxLen; omega) (by omega) hb.size ?_)
      intro v' w' ho' hg
      rw [List.nil_append, Nat.zero_add, ← z2] at ho'
      have hb' : Below W.heap.size W w' := hb.grown hg hb.size (fun j e => (own.lt j e).1)
      refine ⟨hS _ hb', b1, c1, true, true, b3, c3, ts.setIfInBounds 10 v', by simp at hn ⊢; omega, rfl, rfl, hag.set (by simp) _, ?_, ?_, ?_, fun _ => cc, fun _ => rfl, hb'⟩
      · rw [set_ne (by decide), set_ne (by decide)]; exact q1.grown own (by decide) hg
      · rw [set_at hag (by omega)]; exact lst_full ho'
      · rw [set_ne (by decide), set_ne (by decide)]; exact q3.grown own (by decide) hg
    | 8, _ =>
      clear ho hd
      obtain rfl : b3 = false := by simpa [cpL] using hl
      obtain rfl : c3 = false := by cases c3 with | false => rfl | true => exact absurd (q3.dep rfl) (by simp)
      refine wpOp_of (o := { dst := some 11, op := Op.buildSlice 24 0 #[], type := 24, pos := "ref.go:45", after := #[], guard := none }) rfl rfl (wp_empty 24 61 rfl Tryz.underlying24 infoTimer (by decide) ?_)
      have X := new_below w (.cells #[] 61)
      refine ⟨hS _ (chain hb X), b1, c1, b2, c2, true, false, ts.setIfInBounds 11 (.slice (some ⟨w.heap.size, 0, none⟩) 0 0), by simp at hn ⊢; omega, rfl, rfl, hag.set (by simp) _, ?_, ?_, ?_, k2, k3, chain hb X⟩
      · rw [set_ne (by decide), set_ne (by decide)]; exact q1.below X
      · rw [set_ne (by decide), set_ne (by decide)]; exact q2.below X
      · rw [set_at hag (by omega)]; exact lst_made (World.ownsRow_lit w #[] 0 hb.size (by decide) rfl)
    | 9, _ =>
      exact absurd hl (by simp [cpL])
    | 10, _ =>
      exact absurd hl (by simp [cpL])
    | 11, _ =>
      obtain rfl : c3 = false := by simpa [cpL] using hl
      obtain rfl : o = { dst := some 14, op := Op.call { callee := Callee.builtin Builtin.append, args := #[Operand.tmp 11, Operand.tmp 13], argTypes := #[24, 24] }, type := 24, pos := "ref.go:45", after := #[{ on := 8, ground := Ground.data }, { on := 10, ground := Ground.data }, { on := 7, ground := Ground.chain }], guard := none } := (Option.some.inj ((show cpOps[11]? = some { dst := some 14, op := Op.call { callee := Callee.builtin Builtin.append, args := #[Operand.tmp 11, Operand.tmp 13], argTypes := #[24, 24] }, type := 24, pos := "ref.go:45", after := #[{ on := 8, ground := Ground.data }, { on := 10, ground := Ground.data }, { on := 7, ground := Ground.chain }], guard := none } from rfl).symm.trans ho)).symm
      obtain rfl : b3 = true := by simpa [cpL] using hd ⟨8, Ground.data⟩ (by simp) rfl
      have cc : c2 = true := by simpa [cpL] using hd ⟨7, Ground.chain⟩ (by simp) rfl
      clear ho hd
      obtain ⟨v, hv, own⟩ := q3.made rfl rfl
      refine wpOp_of (o := { dst := some 14, op := Op.call { callee := Callee.builtin Builtin.append, args := #[Operand.tmp 11, Operand.tmp 13], argTypes := #[24, 24] }, type := 24, pos := "ref.go:45", after := #[{ on := 8, ground := Ground.data }, { on := 10, ground := Ground.data }, { on := 7, ground := Ground.chain }], guard := none }) rfl rfl (wp_append_row (.tmp 11) (.tmp 13) 24 61 rfl Tryz.underlying24 infoTimer (by decide) W.heap.size v 0 [] (getD_of hv) own ta tn tc (t.flatMap Tm.cells) (getD_of ((hag.same 13 (by decide)).trans x3)) ((ht.below hb).row) (tm_one t) (by unfold maxLen; omega) (by omega) hb.size ?_)
      intro v' w' ho' hg
      rw [List.nil_append, Nat.zero_add, ← z3] at ho'
      have hb' : Below W.heap.size W w' := hb.grown hg hb.size (fun j e => (own.lt j e).1)
      refine ⟨hS _ hb', b1, c1, b2, c2, true, true, ts.setIfInBounds 14 v', by simp at hn ⊢; omega, rfl, rfl, hag.set (by simp) _, ?_, ?_, ?_, k2, fun _ => cc, hb'⟩
      · rw [set_ne (by decide), set_ne (by decide)]; exact q1.grown own (by decide) hg
      · rw [set_ne (by decide), set_ne (by decide)]; exact q2.grown own (by decide) hg
      · rw [set_at hag (by omega)]; exact lst_full ho'
    | 12, _ =>
      obtain rfl : o = { dst := some 15, op := Op.build 26 #[(0, Operand.tmp 6), (1, Operand.tmp 10), (2, Operand.tmp 14)], type := 26, pos := "ref.go:45", after := #[{ on := 3, ground := Ground.data }, { on := 7, ground := Ground.data }, { on := 11, ground := Ground.data }], guard := none } := (Option.some.inj ((show cpOps[12]? = some { dst := some 15, op := Op.build 26 #[(0, Operand.tmp 6), (1, Operand.tmp 10), (2, Operand.tmp 14)], type := 26, pos := "ref.go:45", after := #[{ on := 3, ground := Ground.data }, { on := 7, ground := Ground.data }, { on := 11, ground := Ground.data }], guard := none } from rfl).symm.trans ho)).symm
      obtain rfl : c1 = true := by simpa [cpL] using hd ⟨3, Ground.data⟩ (by simp) rfl
      obtain rfl : c2 = true := by simpa [cpL] using hd ⟨7, Ground.data⟩ (by simp) rfl
      obtain rfl : c3 = true := by simpa [cpL] using hd ⟨11, Ground.data⟩ (by simp) rfl
      exfalso
      rw [q1.dep rfl, q2.dep rfl, q3.dep rfl] at hn
      simp at hn
    | 13, _ =>
      obtain rfl : o = { dst := none, op := Op.store 26 (Operand.tmp 2) (Operand.tmp 15), type := 0, pos := "ref.go:45", after := #[{ on := 12, ground := Ground.data }, { on := 11, ground := Ground.chain }, { on := 0, ground := Ground.phase }, { on := 1, ground := Ground.phase }, { on := 2, ground := Ground.phase }, { on := 3, ground := Ground.phase }, { on := 4, ground := Ground.phase }, { on := 5, ground := Ground.phase }, { on := 6, ground := Ground.phase }, { on := 7, ground := Ground.phase }, { on := 8, ground := Ground.phase }, { on := 9, ground := Ground.phase }, { on := 10, ground := Ground.phase }, { on := 11, ground := Ground.phase }, { on := 12, ground := Ground.phase }], guard := none } := (Option.some.inj ((show cpOps[13]? = some { dst := none, op := Op.store 26 (Operand.tmp 2) (Operand.tmp 15), type := 0, pos := "ref.go:45", after := #[{ on := 12, ground := Ground.data }, { on := 11, ground := Ground.chain }, { on := 0, ground := Ground.phase }, { on := 1, ground := Ground.phase }, { on := 2, ground := Ground.phase }, { on := 3, ground := Ground.phase }, { on := 4, ground := Ground.phase }, { on := 5, ground := Ground.phase }, { on := 6, ground := Ground.phase }, { on := 7, ground := Ground.phase }, { on := 8, ground := Ground.phase }, { on := 9, ground := Ground.phase }, { on := 10, ground := Ground.phase }, { on := 11, ground := Ground.phase }, { on := 12, ground := Ground.phase }], guard := none } from rfl).symm.trans ho)).symm
      exact absurd (hd ⟨12, Ground.data⟩ (by simp) rfl) (by simp [cpL])
    | i + 14, hc => exact absurd hc (by omega)
  · rintro n listed a w ⟨b1, c1, b2, c2, b3, c3, ts, hn, rfl, rfl, hag, q1, q2, q3, k2, k3, hb⟩
    refine cp_some b1 c1 b2 c2 b3 c3 q1.dep q2.dep q3.dep k2 k3 ?_
    cases hx : (b1 && c1 && b2 && c2 && b3 && c3) with
    | false => rfl
    | true =>
      simp only [Bool.and_eq_true] at hx
      obtain ⟨⟨⟨⟨⟨rfl, rfl⟩, rfl⟩, rfl⟩, rfl⟩, rfl⟩ := hx
      simp at hn
  · rintro listed a w ⟨b1, c1, b2, c2, b3, c3, ts, hn, rfl, rfl, hag, q1, q2, q3, k2, k3, hb⟩
    have t1 := Bool.toNat_le b1
    have t2 := Bool.toNat_le c1
    have t3 := Bool.toNat_le b2
    have t4 := Bool.toNat_le c2
    have t5 := Bool.toNat_le b3
    have t6 := Bool.toNat_le c3
    obtain rfl : b1 = true := by cases b1 with | true => rfl | false => simp at hn; omega
    obtain rfl : c1 = true := by cases c1 with | true => rfl | false => simp at hn; omega
    obtain rfl : b2 = true := by cases b2 with | true => rfl | false => simp at hn; omega
    obtain rfl : c2 = true := by cases c2 with | true => rfl | false => simp at hn; omega
    obtain rfl : b3 = true := by cases b3 with | true => rfl | false => simp at hn; omega
    obtain rfl : c3 = true := by cases c3 with | true => rfl | false => simp at hn
    obtain ⟨v1, y1, o1⟩ := q1.full rfl
    obtain ⟨v2, y2, o2⟩ := q2.full rfl
    obtain ⟨v3, y3, o3⟩ := q3.full rfl
    obtain ⟨a1, n1, rfl, -⟩ := prown_pros o1
    obtain ⟨a2, n2, rfl, -⟩ := iown_is o2
    obtain ⟨a3, n3, rfl, -⟩ := town_tms o3
    have T : Tab w W.heap.size (.slice a1 l.length n1) (.slice a2 r.length n2) (.slice a3 t.length n3) l r t := ⟨o1, o2, o3, own_sep o1 o2 (by decide), own_sep o1 o3 (by decide), own_sep o2 o3 (by decide)⟩
    have g := (((((hag.step (by omega)).step (by simp; omega)).step (by simp; omega)).step (by simp; omega)).step (by simp; omega)).step (by simp; omega)
    rw [getD_of y1, getD_of y2, getD_of y3] at g
    have hh := h (ts.getD 3 undef) (ts.getD 7 undef) (ts.getD 11 undef) a1 n1 a2 n2 a3 n3 w T hb
    rw [show ({ a0 with tmps := ts } : Act) = (((((a0.put (some 3) (ts.getD 3 undef)).put (some 6) (.slice a1 l.length n1)).put (some 7) (ts.getD 7 undef)).put (some 10) (.slice a2 r.length n2)).put (some 11) (ts.getD 11 undef)).put (some 14) (.slice a3 t.length n3) from congrArg (fun z => ({ a0 with tmps := z } : Act)) g.eq]
    exact hh


set_option maxRecDepth 100000 in
set_option maxHeartbeats 4000000 in
theorem rcopied_any (w : World) (pa : Option Addr) (pn pc : Nat) (l : List Pro) (hp : Pros w pa pn pc l) (ra : Option Addr) (rn rc : Nat) (r : List Int) (hr : Is w ra rn rc r) (ta : Option Addr) (tn tc : Nat) (t : List Tm) (ht : Tms w ta tn tc t) (hmp : pn ≤ 1048576) (hmr : rn ≤ 1048576) (hmt : tn ≤ 1048576) :
    Calls Tryz.prog 24 #[.agg #[.slice pa pn pc, .slice ra rn rc, .slice ta tn tc]] w fun e w' => ∃ a1 c1 a2 c2 a3 c3, e = .returned (.agg #[.slice a1 l.length c1, .slice a2 r.length c2, .slice a3 t.length c3]) ∧ Tab w' w.heap.size (.slice a1 l.length c1) (.slice a2 r.length c2) (.slice a3 t.length c3) l r t ∧ Below w.heap.size w w' := by
  have X1 := new_below w (.cells #[.slice pa pn pc, .slice ra rn rc, .slice ta tn tc] 26)
  have X2 := new_below (w.alloc (.cells #[.slice pa pn pc, .slice ra rn rc, .slice ta tn tc] 26)) (.cells #[.slice none 0 0, .slice none 0 0, .slice none 0 0] 26)
  have BX0 : Bl (w.alloc (.cells #[.slice pa pn pc, .slice ra rn rc, .slice ta tn tc] 26)) w.heap.size [.slice pa pn pc, .slice ra rn rc, .slice ta tn tc] := bl_alloc w #[.slice pa pn pc, .slice ra rn rc, .slice ta tn tc] 26
  have BX := hide (BX0.below (by simp) X2)
  have BG : Hid (Bl ((w.alloc (.cells #[.slice pa pn pc, .slice ra rn rc, .slice ta tn tc] 26)).alloc (.cells #[.slice none 0 0, .slice none 0 0, .slice none 0 0] 26)) (w.heap.size + 1) [.slice none 0 0, .slice none 0 0, .slice none 0 0]) := by
    have := bl_alloc (w.alloc (.cells #[.slice pa pn pc, .slice ra rn rc, .slice ta tn tc] 26)) #[.slice none 0 0, .slice none 0 0, .slice none 0 0] 26
    rw [show (w.alloc (.cells #[.slice pa pn pc, .slice ra rn rc, .slice ta tn tc] 26)).heap.size = w.heap.size + 1 by simp] at this
    exact this
  have HB0 := hide (chain X1 X2)
  have hz : ((w.alloc (.cells #[.slice pa pn pc, .slice ra rn rc, .slice ta tn tc] 26)).alloc (.cells #[.slice none 0 0, .slice none 0 0, .slice none 0 0] 26)).heap.size = w.heap.size + 2 := by simp
  have HS := hide (hp.below HB0.out)
  have HI := hide (hr.below HB0.out)
  have HT := hide (ht.below HB0.out)
  clear X1 X2 BX0 hp hr ht
  go_enter Tryz.func24, Tryz.ntmps24
  go_upto_region 1 with fail
  generalize (w.alloc (.cells #[.slice pa pn pc, .slice ra rn rc, .slice ta tn tc] 26)).alloc (.cells #[.slice none 0 0, .slice none 0 0, .slice none 0 0] 26) = W0 at *
  have HZ := hide hz
  clear hz
  have hl1 : Hid (w.heap.size < W0.heap.size) := by unfold Hid; rw [HZ.out]; omega
  have hl2 : Hid (w.heap.size + 1 < W0.heap.size) := by unfold Hid; rw [HZ.out]; omega
  have HW := hide (Below.refl W0.heap.size W0)
  have Z0 := hide (Nat.le_refl W0.heap.size)
  refine wp_region_held_drew (S := fun wz => wz.cell? ⟨w.heap.size, 0, none⟩ = some (.slice pa pn pc) ∧ wz.cell? ⟨w.heap.size, 1, none⟩ = some (.slice ra rn rc) ∧ wz.cell? ⟨w.heap.size, 2, none⟩ = some (.slice ta tn tc)) (by kernel_rfl) (heldC BX.out hl1.out HW.out.drew) (fun hHeld => ?_)
  refine wpAnyH_take (i := 1) (oi := { dst := some 4, op := Go.Op.fieldAddr 26 (Go.Operand.tmp 1) 0, type := 0, pos := "ref.go:45", after := #[], guard := none }) (v := ?_) rfl (by kernel_rfl) (by kernel_rfl) (by kernel_rfl) (fun _ _ _ h => h) (Or.inl ⟨by rfl, ?_⟩) (by assumption) ?_
  rotate_left
  · intro w hSw
    try dsimp only at hSw
    go_simp
    try with_reducible rfl
  simp only [Act.put, List.setIfInBounds_toArray, List.set_cons_zero, List.set_cons_succ]
  refine wpAnyH_take (i := 2) (oi := { dst := some 5, op := Go.Op.load 22 (Go.Operand.tmp 4), type := 22, pos := "ref.go:45", after := #[{ on := 1, ground := Go.Ground.data }], guard := none }) (v := ?_) rfl (by kernel_rfl) (by kernel_rfl) (by kernel_rfl) (fun _ _ _ h => h) (Or.inl ⟨by rfl, ?_⟩) (by assumption) ?_
  rotate_left
  · intro w hSw
    try dsimp only at hSw
    go_simp
    try with_reducible rfl
  simp only [Act.put, List.setIfInBounds_toArray, List.set_cons_zero, List.set_cons_succ]
  refine wpAnyH_take (i := 5) (oi := { dst := some 8, op := Go.Op.fieldAddr 26 (Go.Operand.tmp 1) 1, type := 0, pos := "ref.go:45", after := #[], guard := none }) (v := ?_) rfl (by kernel_rfl) (by kernel_rfl) (by kernel_rfl) (fun _ _ _ h => h) (Or.inl ⟨by rfl, ?_⟩) (by assumption) ?_
  rotate_left
  · intro w hSw
    try dsimp only at hSw
    go_simp
    try with_reducible rfl
  simp only [Act.put, List.setIfInBounds_toArray, List.set_cons_zero, List.set_cons_succ]
  refine wpAnyH_take (i := 6) (oi := { dst := some 9, op := Go.Op.load 23 (Go.Operand.tmp 8), type := 23, pos := "ref.go:45", after := #[{ on := 5, ground := Go.Ground.data }], guard := none }) (v := ?_) rfl (by kernel_rfl) (by kernel_rfl) (by kernel_rfl) (fun _ _ _ h => h) (Or.inl ⟨by rfl, ?_⟩) (by assumption) ?_
  rotate_left
  · intro w hSw
    try dsimp only at hSw
    go_simp
    try with_reducible rfl
  simp only [Act.put, List.setIfInBounds_toArray, List.set_cons_zero, List.set_cons_succ]
  refine wpAnyH_take (i := 9) (oi := { dst := some 12, op := Go.Op.fieldAddr 26 (Go.Operand.tmp 1) 2, type := 0, pos := "ref.go:45", after := #[], guard := none }) (v := ?_) rfl (by kernel_rfl) (by kernel_rfl) (by kernel_rfl) (fun _ _ _ h => h) (Or.inl ⟨by rfl, ?_⟩) (by assumption) ?_
  rotate_left
  · intro w hSw
    try dsimp only at hSw
    go_simp
    try with_reducible rfl
  simp only [Act.put, List.setIfInBounds_toArray, List.set_cons_zero, List.set_cons_succ]
  refine wpAnyH_take (i := 10) (oi := { dst := some 13, op := Go.Op.load 24 (Go.Operand.tmp 12), type := 24, pos := "ref.go:45", after := #[{ on := 9, ground := Go.Ground.data }], guard := none }) (v := ?_) rfl (by kernel_rfl) (by kernel_rfl) (by kernel_rfl) (fun _ _ _ h => h) (Or.inl ⟨by rfl, ?_⟩) (by assumption) ?_
  rotate_left
  · intro w hSw
    try dsimp only at hSw
    go_simp
    try with_reducible rfl
  simp only [Act.put, List.setIfInBounds_toArray, List.set_cons_zero, List.set_cons_succ]
  refine cp_three (W := W0.drew) pa pn pc l (HS.out.below HW.out.drew) ra rn rc r (HI.out.below HW.out.drew) ta tn tc t (HT.out.below HW.out.drew) hmp hmr hmt (by simp) rfl rfl rfl (fun w' b => heldC BX.out hl1.out (HW.out.trans (undrewB b))) ?_
  intro u1 u2 u3 a1 n1 a2 n2 a3 n3 w9 htab b9
  have hHeld := heldC BX.out hl1.out (HW.out.trans (undrewB b9))
  have T0 := hide htab
  have HW9 := hide (HW.out.trans (undrewB b9))
  clear htab b9
  simp only [Act.put, List.setIfInBounds_toArray, List.set_cons_zero, List.set_cons_succ]
  refine wpAnyH_take (i := 12) (oi := { dst := some 15, op := Go.Op.build 26 #[(0, Go.Operand.tmp 6), (1, Go.Operand.tmp 10), (2, Go.Operand.tmp 14)], type := 26, pos := "ref.go:45", after := #[{ on := 3, ground := Go.Ground.data }, { on := 7, ground := Go.Ground.data }, { on := 11, ground := Go.Ground.data }], guard := none }) (v := ?_) rfl (by kernel_rfl) (by kernel_rfl) (by kernel_rfl) (fun _ _ _ h => h) (Or.inl ⟨by rfl, ?_⟩) (by assumption) ?_
  rotate_left
  · intro w hSw
    try dsimp only at hSw
    go_simp
    try with_reducible rfl
  simp only [Act.put, List.setIfInBounds_toArray, List.set_cons_zero, List.set_cons_succ]
  have T1 := hide ((T0.out.three (g := w.heap.size + 1) hl2.out (.slice a1 l.length n1) (.slice a2 r.length n2) (.slice a3 t.length n3)).weaken HB0.out.size)
  have G9 := hide (BG.out.below hl2.out HW9.out)
  have G1 := hide (bl_three G9.out (.slice a1 l.length n1) (.slice a2 r.length n2) (.slice a3 t.length n3))
  have B1 := hide (below3 (g := w.heap.size + 1) (.slice a1 l.length n1) (.slice a2 r.length n2) (.slice a3 t.length n3) (HB0.out.trans (HW9.out.mono HB0.out.size)) (by omega))
  have g0 := G9.out.cell 0 _ rfl
  have g1 := G9.out.cell 1 _ rfl
  have g2 := G9.out.cell 2 _ rfl
  have f0 := G9.out.free 0
  have f1 := G9.out.free 1
  have f2 := G9.out.free 2
  refine wpAnyH_ready (rs := [13]) (by kernel_rfl) (by simp) ?_
  refine AllReadyH.cons (o := { dst := none, op := Go.Op.store 26 (Go.Operand.tmp 2) (Go.Operand.tmp 15), type := 0, pos := "ref.go:45", after := #[{ on := 12, ground := Go.Ground.data }, { on := 11, ground := Go.Ground.chain }, { on := 0, ground := Go.Ground.phase }, { on := 1, ground := Go.Ground.phase }, { on := 2, ground := Go.Ground.phase }, { on := 3, ground := Go.Ground.phase }, { on := 4, ground := Go.Ground.phase }, { on := 5, ground := Go.Ground.phase }, { on := 6, ground := Go.Ground.phase }, { on := 7, ground := Go.Ground.phase }, { on := 8, ground := Go.Ground.phase }, { on := 9, ground := Go.Ground.phase }, { on := 10, ground := Go.Ground.phase }, { on := 11, ground := Go.Ground.phase }, { on := 12, ground := Go.Ground.phase }], guard := none }) rfl (fun K hK => ?_) AllReadyH.nil
  go_simp
  try go_wp2_with fail
  clear g0 g1 g2 f0 f1 f2
  refine hK.out _ _ (heldS BX.out hl1.out HW9.out (by omega)) (fun hHeld2 => ?_)
  clear hK K hHeld
  have hHeld := hHeld2
  clear hHeld2
  generalize ((w9.setCell ⟨w.heap.size + 1, 0, none⟩ (.slice a1 l.length n1)).setCell ⟨w.heap.size + 1, 1, none⟩ (.slice a2 r.length n2)).setCell ⟨w.heap.size + 1, 2, none⟩ (.slice a3 t.length n3) = W9 at *
  try simp only [Act.put, List.setIfInBounds_toArray, List.set_cons_zero, List.set_cons_succ]
  refine wpAnyH_done (by kernel_rfl) ?_ _
  go_wp2
  have e0 := G1.out.cell 0 _ rfl
  have e1 := G1.out.cell 1 _ rfl
  have e2 := G1.out.cell 2 _ rfl
  (try simp only [Exit.inBlock, Exit.then])
  refine bodyPost_ret (v := .agg #[.slice a1 l.length n1, .slice a2 r.length n2, .slice a3 t.length n3]) (by simp [results, Tryz.results24, go_sem, e0, e1, e2]) rfl ?_
  exact ⟨_, _, _, _, _, _, rfl, T1.out, B1.out⟩
end Go.Proofs.YtgbckpojoagbnaaGreatDoor
