/-
  ferrytop's moved: the table that is handed on is a copy: three lists and a box, made in whatever order.
-/
import Derived.Test.YtnjabidelpafgaaDoorWkInv
namespace Go.Proofs.YtnjabidelpafgaaDoor
open Go.RowKit
set_option linter.unusedVariables false
set_option linter.unusedSimpArgs false

theorem box_apart {w : World} {base : Nat} {e ty : TypeId} {sz : Nat} {v : Value} {n : Nat} {cs : List Value} {g : Nat} {c : Array Value} (h : w.ownsRow base e sz v n cs) (hg : w.heap[g]? = some (.cells c ty)) (hne : e ≠ ty) : some g ≠ v.ownBlock := by
  rcases h.2 with ⟨rfl, _⟩ | ⟨g', cap, cur, rfl, _, hg', _⟩
  · simp [Value.ownBlock]
  · intro e1
    have e2 : g = g' := Option.some.inj e1
    subst e2
    rw [hg] at hg'
    simp only [Option.some.injEq, Obj.cells.injEq] at hg'
    exact hne hg'.2.1.symm
theorem build_tab (a1 : Option Addr) (n1 c1 : Nat) (a2 : Option Addr) (n2 c2 : Nat) (a3 : Option Addr) (n3 c3 : Nat) (w : World) : (Instr.build 28 #[(0, .slice a1 n1 c1), (1, .slice a2 n2 c2), (2, .slice a3 n3 c3)]).run Tryd.prog w = .ok (.agg #[.slice a1 n1 c1, .slice a2 n2 c2, .slice a3 n3 c3]) w := by kernel_rfl
theorem wp_alloc_tab {o : Oper} {a : Act} {w : World} {K : Act → World → Prop} {Q : Exit → Act → World → Prop} (ho : o.op = .alloc 28) (h : K (a.put o.dst (.pointer (some ⟨w.heap.size, 0, none⟩))) (w.alloc (.cells #[.slice none 0 0, .slice none 0 0, .slice none 0 0] 28))) : o.wp Tryd.prog a w K Q := by
  have hrun : (Instr.alloc 28 true (.tuple #[])).run Tryd.prog w = .ok (.pointer (some ⟨w.heap.size, 0, none⟩)) (w.alloc (.cells #[.slice none 0 0, .slice none 0 0, .slice none 0 0] 28)) := by kernel_rfl
  unfold Oper.wp execOp
  simp only [ho, Sem.run_bind, hrun, Result.andThen_ok, Sem.run_pure]
  exact h
def mvOps : Array Oper := #[{ dst := some 10, op := Op.buildSlice 23 0 #[], type := 23, pos := "top04.go:35", after := #[], guard := none }, { dst := some 11, op := Op.fieldAddr 28 (Operand.tmp 2) 0, type := 0, pos := "top04.go:35", after := #[], guard := none }, { dst := some 12, op := Op.load 23 (Operand.tmp 11), type := 23, pos := "top04.go:35", after := #[{ on := 1, ground := Ground.data }], guard := none }, { dst := some 13, op := Op.call { callee := Callee.builtin Builtin.append, args := #[Operand.tmp 10, Operand.tmp 12], argTypes := #[23, 23] }, type := 23, pos := "top04.go:35", after := #[{ on := 0, ground := Ground.data }, { on := 2, ground := Ground.data }], guard := none }, { dst := some 14, op := Op.buildSlice 25 0 #[], type := 25, pos := "top04.go:35", after := #[], guard := none }, { dst := some 15, op := Op.fieldAddr 28 (Operand.tmp 2) 1, type := 0, pos := "top04.go:35", after := #[], guard := none }, { dst := some 16, op := Op.load 25 (Operand.tmp 15), type := 25, pos := "top04.go:35", after := #[{ on := 5, ground := Ground.data }], guard := none }, { dst := some 17, op := Op.call { callee := Callee.builtin Builtin.append, args := #[Operand.tmp 14, Operand.tmp 16], argTypes := #[25, 25] }, type := 25, pos := "top04.go:35", after := #[{ on := 4, ground := Ground.data }, { on := 6, ground := Ground.data }, { on := 3, ground := Ground.chain }], guard := none }, { dst := some 18, op := Op.buildSlice 26 0 #[], type := 26, pos := "top04.go:35", after := #[], guard := none }, { dst := some 19, op := Op.fieldAddr 28 (Operand.tmp 2) 2, type := 0, pos := "top04.go:35", after := #[], guard := none }, { dst := some 20, op := Op.load 26 (Operand.tmp 19), type := 26, pos := "top04.go:35", after := #[{ on := 9, ground := Ground.data }], guard := none }, { dst := some 21, op := Op.call { callee := Callee.builtin Builtin.append, args := #[Operand.tmp 18, Operand.tmp 20], argTypes := #[26, 26] }, type := 26, pos := "top04.go:35", after := #[{ on := 8, ground := Ground.data }, { on := 10, ground := Ground.data }, { on := 7, ground := Ground.chain }], guard := none }, { dst := some 22, op := Op.build 28 #[(0, Operand.tmp 13), (1, Operand.tmp 17), (2, Operand.tmp 21)], type := 28, pos := "top04.go:35", after := #[{ on := 3, ground := Ground.data }, { on := 7, ground := Ground.data }, { on := 11, ground := Ground.data }], guard := none }, { dst := some 6, op := Op.alloc 28, type := 0, pos := "top04.go:35", after := #[], guard := none }, { dst := none, op := Op.store 28 (Operand.tmp 6) (Operand.tmp 22), type := 0, pos := "top04.go:35", after := #[{ on := 13, ground := Ground.data }, { on := 12, ground := Ground.data }, { on := 11, ground := Ground.chain }, { on := 0, ground := Ground.phase }, { on := 1, ground := Ground.phase }, { on := 2, ground := Ground.phase }, { on := 3, ground := Ground.phase }, { on := 4, ground := Ground.phase }, { on := 5, ground := Ground.phase }, { on := 6, ground := Ground.phase }, { on := 7, ground := Ground.phase }, { on := 8, ground := Ground.phase }, { on := 9, ground := Ground.phase }, { on := 10, ground := Ground.phase }, { on := 11, ground := Ground.phase }, { on := 12, ground := Ground.phase }, { on := 13, ground := Ground.phase }], guard := none }]
def mvL (b1 c1 b2 c2 b3 c3 z y : Bool) : Array Bool := #[b1, true, true, c1, b2, true, true, c2, b3, true, true, c3, y, z, false]
theorem mv_some : ∀ b1 c1 b2 c2 b3 c3 z y : Bool, (c1 = true → b1 = true) → (c2 = true → b2 = true) → (c3 = true → b3 = true) → (c2 = true → c1 = true) → (c3 = true → c2 = true) → (b1 && c1 && b2 && c2 && b3 && c3 && z && y) = false → Region.ready .any mvOps (mvL b1 c1 b2 c2 b3 c3 z y) ≠ [] := by decide +kernel
set_option maxRecDepth 100000 in
set_option maxHeartbeats 4000000 in
theorem mv_three {Q : Exit → Act → World → Prop} {S : World → Prop} {a0 : Act} {W : World} (pa : Option Addr) (pn pc : Nat) (l : List Pro) (hp : Pros W pa pn pc l) (ra : Option Addr) (rn rc : Nat) (r : List Int) (hr : Is W ra rn rc r) (ta : Option Addr) (tn tc : Nat) (t : List Tm) (ht : Tms W ta tn tc t) (hmp : pn ≤ 1048576) (hmr : rn ≤ 1048576) (hmt : tn ≤ 1048576)
    (hsz : 22 < a0.tmps.size) (x1 : a0.tmps[12]? = some (.slice pa pn pc)) (x2 : a0.tmps[16]? = some (.slice ra rn rc)) (x3 : a0.tmps[20]? = some (.slice ta tn tc))
    (hS : ∀ w', Below W.heap.size W w' → S w')
    (h : ∀ u1 u2 u3 a1 n1 a2 n2 a3 n3 gz w', Tab w' W.heap.size (.slice a1 l.length n1) (.slice a2 r.length n2) (.slice a3 t.length n3) l r t → Below W.heap.size W w' → W.heap.size ≤ gz → w'.heap[gz]? = some (.cells #[.slice none 0 0, .slice none 0 0, .slice none 0 0] 28) →
      wpAnyH Tryd.prog .any mvOps Q S 1 (mvL true true true true true true true true) ((((((((a0.put (some 10) u1).put (some 13) (.slice a1 l.length n1)).put (some 14) u2).put (some 17) (.slice a2 r.length n2)).put (some 18) u3).put (some 21) (.slice a3 t.length n3)).put (some 22) (.agg #[.slice a1 l.length n1, .slice a2 r.length n2, .slice a3 t.length n3])).put (some 6) (.pointer (some ⟨gz, 0, none⟩))) w') :
    wpAnyH Tryd.prog .any mvOps Q S 9 (mvL false false false false false false false false) a0 W := by
  have z1 := hp.size
  have z2 := hr.size
  have z3 := ht.size
  refine wpAnyH_inv 1 (fun n listed a w => ∃ (b1 c1 b2 c2 b3 c3 z y : Bool) (ts : Array Value), n + b1.toNat + c1.toNat + b2.toNat + c2.toNat + b3.toNat + c3.toNat + z.toNat + y.toNat = 8 ∧ listed = mvL b1 c1 b2 c2 b3 c3 z y ∧ a = { a0 with tmps := ts } ∧ Ag [10, 13, 14, 17, 18, 21, 22, 6] a0.tmps ts ∧ Lst w W.heap.size 37 21 b1 c1 ts[10]? ts[13]? l.length (l.flatMap Pro.cells) ∧ Lst w W.heap.size 3 1 b2 c2 ts[14]? ts[17]? r.length (r.flatMap ci) ∧ Lst w W.heap.size 54 2 b3 c3 ts[18]? ts[21]? t.length (t.flatMap Tm.cells) ∧ (c2 = true → c1 = true) ∧ (c3 = true → c2 = true) ∧ Below W.heap.size W w ∧ (z = true → ∃ g, ts[6]? = some (.pointer (some ⟨g, 0, none⟩)) ∧ W.heap.size ≤ g ∧ w.heap[g]? = some (.cells #[.slice none 0 0, .slice none 0 0, .slice none 0 0] 28)) ∧ (y = true → c1 = true ∧ c2 = true ∧ c3 = true ∧ ∃ v1 v2 v3, ts[13]? = some v1 ∧ ts[17]? = some v2 ∧ ts[21]? = some v3 ∧ ts[22]? = some (.agg #[v1, v2, v3]))) ?_ ?_ ?_ 8 _ _ _ ⟨false, false, false, false, false, false, false, false, a0.tmps, rfl, rfl, rfl, ag_refl _ _, lst_none, lst_none, lst_none, fun e => by simp at e, fun e => by simp at e, Below.refl _ _, fun e => by simp at e, fun e => by simp at e⟩
  · rintro n listed a w i ⟨b1, c1, b2, c2, b3, c3, z, y, ts, hn, rfl, rfl, hag, q1, q2, q3, k2, k3, hb, qz, qy⟩ hi
    obtain ⟨hl, o, ho, hd⟩ := mem_ready.1 hi
    have hiN : i < 15 := (Array.getElem?_eq_some_iff.1 ho).1
    clear hi
    match i, hiN with
    | 0, _ =>
      clear ho hd
      obtain rfl : b1 = false := by simpa [mvL] using hl
      obtain rfl : c1 = false := by cases c1 with | false => rfl | true => exact absurd (q1.dep rfl) (by simp)
      obtain rfl : y = false := by cases y with | false => rfl | true => exact absurd ((qy rfl).1) (by simp)
      refine wpOp_of (o := { dst := some 10, op := Op.buildSlice 23 0 #[], type := 23, pos := "top04.go:35", after := #[], guard := none }) rfl rfl (wp_empty 23 37 rfl Tryd.underlying23 infoProc (by decide) ?_)
      have X := new_below w (.cells #[] 37)
      refine ⟨hS _ (chain hb X), true, false, b2, c2, b3, c3, z, false, ts.setIfInBounds 10 (.slice (some ⟨w.heap.size, 0, none⟩) 0 0), by simp at hn ⊢; omega, rfl, rfl, hag.set (by simp) _, ?_, ?_, ?_, k2, k3, chain hb X, ?_, fun e => by simp at e⟩
      · rw [set_at hag (by omega)]; exact lst_made (World.ownsRow_lit w #[] 0 hb.size (by decide) rfl)
      · rw [set_ne (by decide), set_ne (by decide)]; exact q2.below X
      · rw [set_ne (by decide), set_ne (by decide)]; exact q3.below X
      · exact fun e => by
          obtain ⟨g, hx, hg, hh⟩ := qz e
          exact ⟨g, by rw [set_ne (by decide)]; exact hx, hg, (X.block g (Array.getElem?_eq_some_iff.1 hh).1).trans hh⟩
    | 1, _ =>
      exact absurd hl (by simp [mvL])
    | 2, _ =>
      exact absurd hl (by simp [mvL])
    | 3, _ =>
      obtain rfl : c1 = false := by simpa [mvL] using hl
      obtain rfl : o = { dst := some 13, op := Op.call { callee := Callee.builtin Builtin.append, args := #[Operand.tmp 10, Operand.tmp 12], argTypes := #[23, 23] }, type := 23, pos := "top04.go:35", after := #[{ on := 0, ground := Ground.data }, { on := 2, ground := Ground.data }], guard := none } := (Option.some.inj ((show mvOps[3]? = some { dst := some 13, op := Op.call { callee := Callee.builtin Builtin.append, args := #[Operand.tmp 10, Operand.tmp 12], argTypes := #[23, 23] }, type := 23, pos := "top04.go:35", after := #[{ on := 0, ground := Ground.data }, { on := 2, ground := Ground.data }], guard := none } from rfl).symm.trans ho)).symm
      obtain rfl : b1 = true := by simpa [mvL] using hd ⟨0, Ground.data⟩ (by simp) rfl
      clear ho hd
      obtain rfl : y = false := by cases y with | false => rfl | true => exact absurd ((qy rfl).1) (by simp)
      obtain ⟨v, hv, own⟩ := q1.made rfl rfl
      refine wpOp_of (o := { dst := some 13, op := Op.call { callee := Callee.builtin Builtin.append, args := #[Operand.tmp 10, Operand.tmp 12], argTypes := #[23, 23] }, type := 23, pos := "top04.go:35", after := #[{ on := 0, ground := Ground.data }, { on := 2, ground := Ground.data }], guard := none }) rfl rfl (wp_append_row (.tmp 10) (.tmp 12) 23 37 rfl Tryd.underlying23 infoProc (by decide) W.heap.size v 0 [] (getD_of hv) own pa pn pc (l.flatMap Pro.cells) (getD_of ((hag.same 12 (by decide)).trans x1)) ((hp.below hb).row) (pro_one l) (by unfold maxLen; omega) (by omega) hb.size ?_)
      intro v' w' ho' hg
      rw [List.nil_append, Nat.zero_add, ← z1] at ho'
      have hb' : Below W.heap.size W w' := hb.grown hg hb.size (fun j e => (own.lt j e).1)
      refine ⟨hS _ hb', true, true, b2, c2, b3, c3, z, false, ts.setIfInBounds 13 v', by simp at hn ⊢; omega, rfl, rfl, hag.set (by simp) _, ?_, ?_, ?_, fun _ => rfl, k3, hb', ?_, fun e => by simp at e⟩
      · rw [set_at hag (by omega)]; exact lst_full ho'
      · rw [set_ne (by decide), set_ne (by decide)]; exact q2.grown own (by decide) hg
      · rw [set_ne (by decide), set_ne (by decide)]; exact q3.grown own (by decide) hg
      · exact fun e => by
          obtain ⟨g, hx, hg9, hh⟩ := qz e
          exact ⟨g, by rw [set_ne (by decide)]; exact hx, hg9, (hg.block g (Array.getElem?_eq_some_iff.1 hh).1 (box_apart own hh (by decide))).trans hh⟩
    | 4, _ =>
      clear ho hd
      obtain rfl : b2 = false := by simpa [mvL] using hl
      obtain rfl : c2 = false := by cases c2 with | false => rfl | true => exact absurd (q2.dep rfl) (by simp)
      obtain rfl : y = false := by cases y with | false => rfl | true => exact absurd ((qy rfl).2.1) (by simp)
      refine wpOp_of (o := { dst := some 14, op := Op.buildSlice 25 0 #[], type := 25, pos := "top04.go:35", after := #[], guard := none }) rfl rfl (wp_empty 25 3 rfl Tryd.underlying25 infoInt (by decide) ?_)
      have X := new_below w (.cells #[] 3)
      refine ⟨hS _ (chain hb X), b1, c1, true, false, b3, c3, z, false, ts.setIfInBounds 14 (.slice (some ⟨w.heap.size, 0, none⟩) 0 0), by simp at hn ⊢; omega, rfl, rfl, hag.set (by simp) _, ?_, ?_, ?_, k2, k3, chain hb X, ?_, fun e => by simp at e⟩
      · rw [set_ne (by decide), set_ne (by decide)]; exact q1.below X
      · rw [set_at hag (by omega)]; exact lst_made (World.ownsRow_lit w #[] 0 hb.size (by decide) rfl)
      · rw [set_ne (by decide), set_ne (by decide)]; exact q3.below X
      · exact fun e => by
          obtain ⟨g, hx, hg, hh⟩ := qz e
          exact ⟨g, by rw [set_ne (by decide)]; exact hx, hg, (X.block g (Array.getElem?_eq_some_iff.1 hh).1).trans hh⟩
    | 5, _ =>
      exact absurd hl (by simp [mvL])
    | 6, _ =>
      exact absurd hl (by simp [mvL])
    | 7, _ =>
      obtain rfl : c2 = false := by simpa [mvL] using hl
      obtain rfl : o = { dst := some 17, op := Op.call { callee := Callee.builtin Builtin.append, args := #[Operand.tmp 14, Operand.tmp 16], argTypes := #[25, 25] }, type := 25, pos := "top04.go:35", after := #[{ on := 4, ground := Ground.data }, { on := 6, ground := Ground.data }, { on := 3, ground := Ground.chain }], guard := none } := (Option.some.inj ((show mvOps[7]? = some { dst := some 17, op := Op.call { callee := Callee.builtin Builtin.append, args := #[Operand.tmp 14, Operand.tmp 16], argTypes := #[25, 25] }, type := 25, pos := "top04.go:35", after := #[{ on := 4, ground := Ground.data }, { on := 6, ground := Ground.data }, { on := 3, ground := Ground.chain }], guard := none } from rfl).symm.trans ho)).symm
      obtain rfl : b2 = true := by simpa [mvL] using hd ⟨4, Ground.data⟩ (by simp) rfl
      have cc : c1 = true := by simpa [mvL] using hd ⟨3, Ground.chain⟩ (by simp) rfl
      clear ho hd
      obtain rfl : y = false := by cases y with | false => rfl | true => exact absurd ((qy rfl).2.1) (by simp)
      obtain ⟨v, hv, own⟩ := q2.made rfl rfl
      refine wpOp_of (o := { dst := some 17, op := Op.call { callee := Callee.builtin Builtin.append, args := #[Operand.tmp 14, Operand.tmp 16], argTypes := #[25, 25] }, type := 25, pos := "top04.go:35", after := #[{ on := 4, ground := Ground.data }, { on := 6, ground := Ground.data }, { on := 3, ground := Ground.chain }], guard := none }) rfl rfl (wp_append_row (.tmp 14) (.tmp 16) 25 3 rfl Tryd.underlying25 infoInt (by decide) W.heap.size v 0 [] (getD_of hv) own ra rn rc (r.flatMap ci) (getD_of ((hag.same 16 (by decide)).trans x2)) ((hr.below hb).row) (ci_one r) (by unfold maxLen; omega) (by omega) hb.size ?_)
      intro v' w' ho' hg
      rw [List.nil_append, Nat.zero_add, ← z2] at ho'
      have hb' : Below W.heap.size W w' := hb.grown hg hb.size (fun j e => (own.lt j e).1)
      refine ⟨hS _ hb', b1, c1, true, true, b3, c3, z, false, ts.setIfInBounds 17 v', by simp at hn ⊢; omega, rfl, rfl, hag.set (by simp) _, ?_, ?_, ?_, fun _ => cc, fun _ => rfl, hb', ?_, fun e => by simp at e⟩
      · rw [set_ne (by decide), set_ne (by decide)]; exact q1.grown own (by decide) hg
      · rw [set_at hag (by omega)]; exact lst_full ho'
      · rw [set_ne (by decide), set_ne (by decide)]; exact q3.grown own (by decide) hg
      · exact fun e => by
          obtain ⟨g, hx, hg9, hh⟩ := qz e
          exact ⟨g, by rw [set_ne (by decide)]; exact hx, hg9, (hg.block g (Array.getElem?_eq_some_iff.1 hh).1 (box_apart own hh (by decide))).trans hh⟩
    | 8, _ =>
      clear ho hd
      obtain rfl : b3 = false := by simpa [mvL] using hl
      obtain rfl : c3 = false := by cases c3 with | false => rfl | true => exact absurd (q3.dep rfl) (by simp)
      obtain rfl : y = false := by cases y with | false => rfl | true => exact absurd ((qy rfl).2.2.1) (by simp)
      refine wpOp_of (o := { dst := some 18, op := Op.buildSlice 26 0 #[], type := 26, pos := "top04.go:35", after := #[], guard := none }) rfl rfl (wp_empty 26 54 rfl Tryd.underlying26 infoTimer (by decide) ?_)
      have X := new_below w (.cells #[] 54)
      refine ⟨hS _ (chain hb X), b1, c1, b2, c2, true, false, z, false, ts.setIfInBounds 18 (.slice (some ⟨w.heap.size, 0, none⟩) 0 0), by simp at hn ⊢; omega, rfl, rfl, hag.set (by simp) _, ?_, ?_, ?_, k2, k3, chain hb X, ?_, fun e => by simp at e⟩
      · rw [set_ne (by decide), set_ne (by decide)]; exact q1.below X
      · rw [set_ne (by decide), set_ne (by decide)]; exact q2.below X
      · rw [set_at hag (by omega)]; exact lst_made (World.ownsRow_lit w #[] 0 hb.size (by decide) rfl)
      · exact fun e => by
          obtain ⟨g, hx, hg, hh⟩ := qz e
          exact ⟨g, by rw [set_ne (by decide)]; exact hx, hg, (X.block g (Array.getElem?_eq_some_iff.1 hh).1).trans hh⟩
    | 9, _ =>
      exact absurd hl (by simp [mvL])
    | 10, _ =>
      exact absurd hl (by simp [mvL])
    | 11, _ =>
      obtain rfl : c3 = false := by simpa [mvL] using hl
      obtain rfl : o = { dst := some 21, op := Op.call { callee := Callee.builtin Builtin.append, args := #[Operand.tmp 18, Operand.tmp 20], argTypes := #[26, 26] }, type := 26, pos := "top04.go:35", after := #[{ on := 8, ground := Ground.data }, { on := 10, ground := Ground.data }, { on := 7, ground := Ground.chain }], guard := none } := (Option.some.inj ((show mvOps[11]? = some { dst := some 21, op := Op.call { callee := Callee.builtin Builtin.append, args := #[Operand.tmp 18, Operand.tmp 20], argTypes := #[26, 26] }, type := 26, pos := "top04.go:35", after := #[{ on := 8, ground := Ground.data }, { on := 10, ground := Ground.data }, { on := 7, ground := Ground.chain }], guard := none } from rfl).symm.trans ho)).symm
      obtain rfl : b3 = true := by simpa [mvL] using hd ⟨8, Ground.data⟩ (by simp) rfl
      have cc : c2 = true := by simpa [mvL] using hd ⟨7, Ground.chain⟩ (by simp) rfl
      clear ho hd
      obtain rfl : y = false := by cases y with | false => rfl | true => exact absurd ((qy rfl).2.2.1) (by simp)
      obtain ⟨v, hv, own⟩ := q3.made rfl rfl
      refine wpOp_of (o := { dst := some 21, op := Op.call { callee := Callee.builtin Builtin.append, args := #[Operand.tmp 18, Operand.tmp 20], argTypes := #[26, 26] }, type := 26, pos := "top04.go:35", after := #[{ on := 8, ground := Ground.data }, { on := 10, ground := Ground.data }, { on := 7, ground := Ground.chain }], guard := none }) rfl rfl (wp_append_row (.tmp 18) (.tmp 20) 26 54 rfl Tryd.underlying26 infoTimer (by decide) W.heap.size v 0 [] (getD_of hv) own ta tn tc (t.flatMap Tm.cells) (getD_of ((hag.same 20 (by decide)).trans x3)) ((ht.below hb).row) (tm_one t) (by unfold maxLen; omega) (by omega) hb.size ?_)
      intro v' w' ho' hg
      rw [List.nil_append, Nat.zero_add, ← z3] at ho'
      have hb' : Below W.heap.size W w' := hb.grown hg hb.size (fun j e => (own.lt j e).1)
      refine ⟨hS _ hb', b1, c1, b2, c2, true, true, z, false, ts.setIfInBounds 21 v', by simp at hn ⊢; omega, rfl, rfl, hag.set (by simp) _, ?_, ?_, ?_, k2, fun _ => cc, hb', ?_, fun e => by simp at e⟩
      · rw [set_ne (by decide), set_ne (by decide)]; exact q1.grown own (by decide) hg
      · rw [set_ne (by decide), set_ne (by decide)]; exact q2.grown own (by decide) hg
      · rw [set_at hag (by omega)]; exact lst_full ho'
      · exact fun e => by
          obtain ⟨g, hx, hg9, hh⟩ := qz e
          exact ⟨g, by rw [set_ne (by decide)]; exact hx, hg9, (hg.block g (Array.getElem?_eq_some_iff.1 hh).1 (box_apart own hh (by decide))).trans hh⟩
    | 12, _ =>
      obtain rfl : y = false := by simpa [mvL] using hl
      obtain rfl : o = { dst := some 22, op := Op.build 28 #[(0, Operand.tmp 13), (1, Operand.tmp 17), (2, Operand.tmp 21)], type := 28, pos := "top04.go:35", after := #[{ on := 3, ground := Ground.data }, { on := 7, ground := Ground.data }, { on := 11, ground := Ground.data }], guard := none } := (Option.some.inj ((show mvOps[12]? = some { dst := some 22, op := Op.build 28 #[(0, Operand.tmp 13), (1, Operand.tmp 17), (2, Operand.tmp 21)], type := 28, pos := "top04.go:35", after := #[{ on := 3, ground := Ground.data }, { on := 7, ground := Ground.data }, { on := 11, ground := Ground.data }], guard := none } from rfl).symm.trans ho)).symm
      obtain rfl : c1 = true := by simpa [mvL] using hd ⟨3, Ground.data⟩ (by simp) rfl
      obtain rfl : c2 = true := by simpa [mvL] using hd ⟨7, Ground.data⟩ (by simp) rfl
      obtain rfl : c3 = true := by simpa [mvL] using hd ⟨11, Ground.data⟩ (by simp) rfl
      clear ho hd
      obtain ⟨v1, y1, o1⟩ := q1.full rfl
      obtain ⟨v2, y2, o2⟩ := q2.full rfl
      obtain ⟨v3, y3, o3⟩ := q3.full rfl
      obtain ⟨a1, n1, rfl, -⟩ := prown_pros o1
      obtain ⟨a2, n2, rfl, -⟩ := iown_is o2
      obtain ⟨a3, n3, rfl, -⟩ := town_tms o3
      have hrun : (execOp ({ a0 with tmps := ts } : Act).eval { dst := some 22, op := Op.build 28 #[(0, Operand.tmp 13), (1, Operand.tmp 17), (2, Operand.tmp 21)], type := 28, pos := "top04.go:35", after := #[{ on := 3, ground := Ground.data }, { on := 7, ground := Ground.data }, { on := 11, ground := Ground.data }], guard := none }).run Tryd.prog w = .ok (.value (.agg #[.slice a1 l.length n1, .slice a2 r.length n2, .slice a3 t.length n3])) w := by
        have ev1 : ({ a0 with tmps := ts } : Act).eval (.tmp 13) = .slice a1 l.length n1 := getD_of y1
        have ev2 : ({ a0 with tmps := ts } : Act).eval (.tmp 17) = .slice a2 r.length n2 := getD_of y2
        have ev3 : ({ a0 with tmps := ts } : Act).eval (.tmp 21) = .slice a3 t.length n3 := getD_of y3
        unfold execOp
        simp only [List.map_toArray, List.map_cons, List.map_nil, ev1, ev2, ev3, Sem.run_bind, build_tab, Result.andThen_ok, Sem.run_pure]
      refine wpOp_of (o := { dst := some 22, op := Op.build 28 #[(0, Operand.tmp 13), (1, Operand.tmp 17), (2, Operand.tmp 21)], type := 28, pos := "top04.go:35", after := #[{ on := 3, ground := Ground.data }, { on := 7, ground := Ground.data }, { on := 11, ground := Ground.data }], guard := none }) rfl rfl ?_
      unfold Oper.wp
      rw [hrun]
      refine ⟨hS _ hb, b1, true, b2, true, b3, true, z, true, ts.setIfInBounds 22 (.agg #[.slice a1 l.length n1, .slice a2 r.length n2, .slice a3 t.length n3]), by simp at hn ⊢; omega, rfl, rfl, hag.set (by simp) _, ?_, ?_, ?_, k2, k3, hb, ?_, fun _ => ⟨rfl, rfl, rfl, _, _, _, (set_ne (by decide) _).trans y1, (set_ne (by decide) _).trans y2, (set_ne (by decide) _).trans y3, set_at hag (by omega) _⟩⟩
      · rw [set_ne (by decide), set_ne (by decide)]; exact q1
      · rw [set_ne (by decide), set_ne (by decide)]; exact q2
      · rw [set_ne (by decide), set_ne (by decide)]; exact q3
      · rw [set_ne (by decide)]; exact qz
    | 13, _ =>
      clear ho hd
      obtain rfl : z = false := by simpa [mvL] using hl
      refine wpOp_of (o := { dst := some 6, op := Op.alloc 28, type := 0, pos := "top04.go:35", after := #[], guard := none }) rfl rfl (wp_alloc_tab rfl ?_)
      have X := new_below w (.cells #[.slice none 0 0, .slice none 0 0, .slice none 0 0] 28)
      refine ⟨hS _ (chain hb X), b1, c1, b2, c2, b3, c3, true, y, ts.setIfInBounds 6 (.pointer (some ⟨w.heap.size, 0, none⟩)), by simp at hn ⊢; omega, rfl, rfl, hag.set (by simp) _, ?_, ?_, ?_, k2, k3, chain hb X, fun _ => ⟨w.heap.size, set_at hag (by omega) _, hb.size, heap_alloc_new w _⟩, ?_⟩
      · rw [set_ne (by decide), set_ne (by decide)]; exact q1.below X
      · rw [set_ne (by decide), set_ne (by decide)]; exact q2.below X
      · rw [set_ne (by decide), set_ne (by decide)]; exact q3.below X
      · rw [set_ne (by decide), set_ne (by decide), set_ne (by decide), set_ne (by decide)]; exact qy
    | 14, _ =>
      obtain rfl : o = { dst := none, op := Op.store 28 (Operand.tmp 6) (Operand.tmp 22), type := 0, pos := "top04.go:35", after := #[{ on := 13, ground := Ground.data }, { on := 12, ground := Ground.data }, { on := 11, ground := Ground.chain }, { on := 0, ground := Ground.phase }, { on := 1, ground := Ground.phase }, { on := 2, ground := Ground.phase }, { on := 3, ground := Ground.phase }, { on := 4, ground := Ground.phase }, { on := 5, ground := Ground.phase }, { on := 6, ground := Ground.phase }, { on := 7, ground := Ground.phase }, { on := 8, ground := Ground.phase }, { on := 9, ground := Ground.phase }, { on := 10, ground := Ground.phase }, { on := 11, ground := Ground.phase }, { on := 12, ground := Ground.phase }, { on := 13, ground := Ground.phase }], guard := none } := (Option.some.inj ((show mvOps[14]? = some { dst := none, op := Op.store 28 (Operand.tmp 6) (Operand.tmp 22), type := 0, pos := "top04.go:35", after := #[{ on := 13, ground := Ground.data }, { on := 12, ground := Ground.data }, { on := 11, ground := Ground.chain }, { on := 0, ground := Ground.phase }, { on := 1, ground := Ground.phase }, { on := 2, ground := Ground.phase }, { on := 3, ground := Ground.phase }, { on := 4, ground := Ground.phase }, { on := 5, ground := Ground.phase }, { on := 6, ground := Ground.phase }, { on := 7, ground := Ground.phase }, { on := 8, ground := Ground.phase }, { on := 9, ground := Ground.phase }, { on := 10, ground := Ground.phase }, { on := 11, ground := Ground.phase }, { on := 12, ground := Ground.phase }, { on := 13, ground := Ground.phase }], guard := none } from rfl).symm.trans ho)).symm
      obtain rfl : c1 = true := by simpa [mvL] using hd ⟨3, Ground.phase⟩ (by simp) rfl
      obtain rfl : c2 = true := by simpa [mvL] using hd ⟨7, Ground.phase⟩ (by simp) rfl
      obtain rfl : c3 = true := by simpa [mvL] using hd ⟨11, Ground.chain⟩ (by simp) rfl
      obtain rfl : z = true := by simpa [mvL] using hd ⟨13, Ground.data⟩ (by simp) rfl
      obtain rfl : y = true := by simpa [mvL] using hd ⟨12, Ground.data⟩ (by simp) rfl
      exfalso
      rw [q1.dep rfl, q2.dep rfl, q3.dep rfl] at hn
      simp at hn
    | i + 15, hc => exact absurd hc (by omega)
  · rintro n listed a w ⟨b1, c1, b2, c2, b3, c3, z, y, ts, hn, rfl, rfl, hag, q1, q2, q3, k2, k3, hb, qz, qy⟩
    refine mv_some b1 c1 b2 c2 b3 c3 z y q1.dep q2.dep q3.dep k2 k3 ?_
    cases hx : (b1 && c1 && b2 && c2 && b3 && c3 && z && y) with
    | false => rfl
    | true =>
      simp only [Bool.and_eq_true] at hx
      obtain ⟨⟨⟨⟨⟨⟨⟨rfl, rfl⟩, rfl⟩, rfl⟩, rfl⟩, rfl⟩, rfl⟩, rfl⟩ := hx
      simp at hn
  · rintro listed a w ⟨b1, c1, b2, c2, b3, c3, z, y, ts, hn, rfl, rfl, hag, q1, q2, q3, k2, k3, hb, qz, qy⟩
    have t1 := Bool.toNat_le b1
    have t2 := Bool.toNat_le c1
    have t3 := Bool.toNat_le b2
    have t4 := Bool.toNat_le c2
    have t5 := Bool.toNat_le b3
    have t6 := Bool.toNat_le c3
    have t7 := Bool.toNat_le z
    have t8 := Bool.toNat_le y
    obtain rfl : b1 = true := by cases b1 with | true => rfl | false => simp at hn; omega
    obtain rfl : c1 = true := by cases c1 with | true => rfl | false => simp at hn; omega
    obtain rfl : b2 = true := by cases b2 with | true => rfl | false => simp at hn; omega
    obtain rfl : c2 = true := by cases c2 with | true => rfl | false => simp at hn; omega
    obtain rfl : b3 = true := by cases b3 with | true => rfl | false => simp at hn; omega
    obtain rfl : c3 = true := by cases c3 with | true => rfl | false => simp at hn; omega
    obtain rfl : z = true := by cases z with | true => rfl | false => simp at hn; omega
    obtain rfl : y = true := by cases y with | true => rfl | false => simp at hn
    obtain ⟨gz, yz, lz, hz⟩ := qz rfl
    obtain ⟨v1, y1, o1⟩ := q1.full rfl
    obtain ⟨v2, y2, o2⟩ := q2.full rfl
    obtain ⟨v3, y3, o3⟩ := q3.full rfl
    obtain ⟨a1, n1, rfl, -⟩ := prown_pros o1
    obtain ⟨a2, n2, rfl, -⟩ := iown_is o2
    obtain ⟨a3, n3, rfl, -⟩ := town_tms o3
    have T : Tab w W.heap.size (.slice a1 l.length n1) (.slice a2 r.length n2) (.slice a3 t.length n3) l r t := ⟨o1, o2, o3, own_sep o1 o2 (by decide), own_sep o1 o3 (by decide), own_sep o2 o3 (by decide)⟩
    have g := (((((((hag.step (by omega)).step (by simp; omega)).step (by simp; omega)).step (by simp; omega)).step (by simp; omega)).step (by simp; omega)).step (by simp; omega)).step (by simp; omega)
    obtain ⟨-, -, -, x1, x2, x3, e1, e2, e3, yy⟩ := qy rfl
    obtain rfl := Option.some.inj (e1.symm.trans y1)
    obtain rfl := Option.some.inj (e2.symm.trans y2)
    obtain rfl := Option.some.inj (e3.symm.trans y3)
    rw [getD_of y1, getD_of y2, getD_of y3, getD_of yy, getD_of yz] at g
    have hh := h (ts.getD 10 undef) (ts.getD 14 undef) (ts.getD 18 undef) a1 n1 a2 n2 a3 n3 gz w T hb lz hz
    have he9 : ({ a0 with tmps := ts } : Act) = ((((((((a0.put (some 10) (ts.getD 10 undef)).put (some 13) (.slice a1 l.length n1)).put (some 14) (ts.getD 14 undef)).put (some 17) (.slice a2 r.length n2)).put (some 18) (ts.getD 18 undef)).put (some 21) (.slice a3 t.length n3)).put (some 22) (.agg #[.slice a1 l.length n1, .slice a2 r.length n2, .slice a3 t.length n3])).put (some 6) (.pointer (some ⟨gz, 0, none⟩))) := by
      simp only [Act.put, Act.mk.injEq, and_true]
      exact g.eq
    rw [he9]
    exact hh


end Go.Proofs.YtnjabidelpafgaaDoor
