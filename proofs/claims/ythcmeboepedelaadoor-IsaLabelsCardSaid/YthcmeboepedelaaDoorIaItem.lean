/-
  The assembler's items: what is put, and what is read back.
-/
import Derived.Test.YthcmeboepedelaaDoorIaApp
import Derived.Test.YthcmeboepedelaaDoorIaMap
import Derived.Test.YthcmeboepedelaaDoorIaName
import Derived.Test.YthcmeboepedelaaDoorIsEnc
namespace Go.Proofs.YthcmeboepedelaaDoor
open Go.RowKit FerryCrc
set_option linter.unusedVariables false
set_option linter.unusedSimpArgs false
/-- A word to be. -/
structure It where
  op : Int
  a : Int
  b : Int
  c : Int
  imm : Int
  plain : Int
  label : ByteArray
  line : Int
def itC (x : It) : List Value := [.int .i64 x.op, .int .i64 x.a, .int .i64 x.b, .int .i64 x.c, .int .i64 x.imm, .int .u32 x.plain, .string x.label, .int .i64 x.line]
theorem it8 (x : It) : (itC x).length = 8 := rfl
def itZ : It := ⟨0, 0, 0, 0, 0, 0, ⟨#[]⟩, 0⟩
theorem infoIt : (Tryd.prog.info? 77).map (fun i => (i.size, i.bytes, i.zero.map (·.cells))) = some (8, 72, some (itC itZ).toArray) := by kernel_rfl
theorem it_one (x : It) : ∀ u ∈ itC x, u.oneCell' = true := by
  intro u hu
  simp only [itC, List.mem_cons, List.not_mem_nil, or_false] at hu
  rcases hu with rfl | rfl | rfl | rfl | rfl | rfl | rfl | rfl <;> rfl
/-- append of one item. -/
theorem step_it {w : World} {ops : Array Oper} {rest : List Oper} {o : Oper} {a : Act} {Q : Exit → Act → World → Prop} (hgd : o.guard = none) (s x : Operand)
    (ho : o.op = .call { callee := .builtin .append, args := #[s, x], argTypes := #[73, 73] })
    (base : Nat) (v : Value) (I : List It) (hs : a.eval s = v) (hown : LOwn itC 8 77 w base v I) (g c : Nat) (y : It) (hx : a.eval x = .slice (some ⟨g, 0, none⟩) 1 c) (hB : Bk w g (itC y) 77)
    (hby : I.length + 1 ≤ 1000000) (hbase : base ≤ w.heap.size)
    (h : ∀ g' c' w', LOwn itC 8 77 w' base (.slice (some ⟨g', 0, none⟩) (I.length + 1) c') (I ++ [y]) → w.grownBy w' v.ownBlock → (v.ownBlock = some g' ∨ w.heap.size ≤ g') → wpList Tryd.prog ops Q rest (a.put o.dst (.slice (some ⟨g', 0, none⟩) (I.length + 1) c')) w') : wpList Tryd.prog ops Q (o :: rest) a w := by
  obtain ⟨i, zz, hi, hz, hsz, hb, hzc⟩ := info_open infoIt
  refine append_at w hgd s x 73 ho base 77 i zz 8 72 Tryd.underlying73 hi hz hsz hb (by rw [hzc]; rfl) (by decide) v I.length (I.flatMap itC) hs hown ⟨g, 0, none⟩ 1 c (itC y) hx rfl (fun j u hu => by rw [add_lit', Nat.zero_add]; exact hB.cell j hu) (it_one y) (by unfold maxLen; omega) (by omega) hbase (by decide) ?_
  intro g' c' w' k1 k2 k3
  refine h g' c' w' ?_ k2 k3
  unfold LOwn
  rw [List.length_append, List.flatMap_append]
  simpa using k1
/-- What the assembler holds: the line's number, the items. -/
structure Asm (w : World) (base nb ib : Nat) (v : Value) (num : Int) (I : List It) : Prop where
  num : Bk w nb [.int .i64 num] 3
  it : Bk w ib [v] 73
  own : LOwn itC 8 77 w base v I
  le : base ≤ ib
theorem Asm.below {w w' : World} {base nb ib : Nat} {v : Value} {num : Int} {I : List It} (h : Asm w base nb ib v num I) (hb : Below w.heap.size w w') : Asm w' base nb ib v num I := ⟨h.num.below hb, h.it.below hb, h.own.below hb, h.le⟩
theorem Asm.ne {w : World} {base nb ib : Nat} {v : Value} {num : Int} {I : List It} (h : Asm w base nb ib v num I) : nb ≠ ib := fun e => by
  have h1 := h.num
  have h2 := h.it
  subst e
  unfold Bk at h1 h2
  rw [h1] at h2
  have h3 := Option.some.inj h2
  injection h3 with h4 h5
  exact absurd h5 (by decide)
/-- What a put may write to. -/
def PutS (ib : Nat) (v : Value) (k : Nat) : Prop := k = ib ∨ v.ownBlock = some k
set_option maxRecDepth 100000 in
set_option maxHeartbeats 4000000 in
theorem put_any (x : It) (w : World) {base nb ib : Nat} {v : Value} {num : Int} {I : List It} (h : Asm w base nb ib v num I) (hI : I.length + 1 ≤ 1000000) :
    Calls Tryd.prog 31 #[.agg (itC x).toArray, .pointer (some ⟨nb, 0, none⟩), .pointer (some ⟨ib, 0, none⟩)] w fun e w' => e = .returned (.tuple #[]) ∧ ∃ v', Asm w' base nb ib v' num (I ++ [{ x with line := num }]) ∧ Frm (PutS ib v) w w' ∧ (∀ b, v'.ownBlock = some b → v.ownBlock = some b ∨ w.heap.size ≤ b) := by
  have HH := hide h
  have HI := hide hI
  obtain ⟨op, a, b, c, imm, plain, label, line⟩ := x
  unfold itC
  dsimp only
  obtain ⟨W, hW, B0, D0⟩ := box1 w [.int .i64 op, .int .i64 a, .int .i64 b, .int .i64 c, .int .i64 imm, .int .u32 plain, .string label, .int .i64 line] 77
  obtain ⟨q, hq⟩ : ∃ q, w.heap.size = q := ⟨_, rfl⟩
  have HQ := hide hq
  rw [hq] at B0
  have HW := hide hW
  have H1 := hide (HH.out.below D0)
  have HD := hide D0
  have n0 := H1.out.num.cell 0 rfl
  have f7 := B0.frozen 7
  have c7 := B0.cell 7 rfl
  have HB := hide B0
  clear h hI B0 D0
  go_enter Tryd.func31, Tryd.ntmps31
  go_upto_region 1 with fail
  try simp only [hW, hq]
  clear hW hq
  obtain ⟨W2, hW2⟩ : ∃ z, z = W.setCell ⟨q, 7, none⟩ (.int .i64 num) := ⟨_, rfl⟩
  have D2 : Below w.heap.size w W2 := by rw [hW2]; exact HD.out.setCell (p := ⟨q, 7, none⟩) (by rw [HQ.out]; exact Nat.le_refl _) _
  have B2 : Bk W2 q [.int .i64 op, .int .i64 a, .int .i64 b, .int .i64 c, .int .i64 imm, .int .u32 plain, .string label, .int .i64 num] 77 := by rw [hW2]; exact HB.out.set 7 _
  go_upto_region 2 with fail
  rw [← hW2]
  clear hW2 n0 f7 c7
  have H2 := hide (HH.out.below D2)
  have HD2 := hide D2
  have x0 := B2.cell 0 rfl
  have x1 := B2.cell 1 rfl
  have x2 := B2.cell 2 rfl
  have x3 := B2.cell 3 rfl
  have x4 := B2.cell 4 rfl
  have x5 := B2.cell 5 rfl
  have x6 := B2.cell 6 rfl
  have x7 := B2.cell 7 rfl
  have y0 := H2.out.it.cell 0 rfl
  clear B2 D2
  go_wp2_with (at_builtin; (refine step_it rfl (.tmp 6) (.tmp 8) rfl base v I rfl (H2.out.own.below (xnew W2 _)) W2.heap.size 1 ⟨op, a, b, c, imm, plain, label, num⟩ rfl (Bk.new W2 (itC ⟨op, a, b, c, imm, plain, label, num⟩) _) HI.out (Nat.le_trans (Nat.le_trans HH.out.le (Nat.le_of_lt HH.out.it.lt)) (Nat.le_trans HD2.out.size (xnew W2 _).size)) ?_; intro g' c' W3 k1 k2 k3; have K1 := hide k1; have K2 := hide k2; have K3 := hide k3; have i3 := (step_box (by decide) (H2.out.own.below (xnew W2 _)) (H2.out.it.below (xnew W2 _)) k2); have I3 := hide i3; have z0 := i3.cell 0 rfl; have zf := i3.frozen 0; clear k1 k2 k3 i3 x0 x1 x2 x3 x4 x5 x6 x7 y0))
  first | refine bodyPost_end (v := .tuple #[]) (results_none rfl _ _ _) rfl ?_ | refine bodyPost_ret (v := .tuple #[]) (results_none rfl _ _ _) rfl ?_
  refine ⟨rfl, .slice (some ⟨g', 0, none⟩) (I.length + 1) c', ⟨?_, ?_, ?_, HH.out.le⟩, ?_, fun b e => ?_⟩
  · have h1 := step_box (by decide) (H2.out.own.below (xnew W2 _)) (H2.out.num.below (xnew W2 _)) K2.out
    exact h1.other _ _ HH.out.ne
  · exact I3.out.set 0 _
  · exact K1.out.far (p := ⟨ib, 0, none⟩) (fun e => own_box (by decide) K1.out I3.out e) _
  · have h1 : Frm (PutS ib v) w (W2.alloc (.cells (itC ⟨op, a, b, c, imm, plain, label, num⟩).toArray 77)) := Frm.ofBelow (chain HD2.out (xnew W2 _))
    have h2 := h1.trans (frm_grown K2.out) (fun j hj e => .inr e)
    exact h2.trans (frm_setCell W3 ⟨ib, 0, none⟩ _) (fun j hj e => .inl e)
  · obtain rfl := Option.some.inj e
    rcases K3.out with h1 | h1
    · exact .inl h1
    · exact .inr (Nat.le_trans (chain HD2.out (xnew W2 (.cells (itC ⟨op, a, b, c, imm, plain, label, num⟩).toArray 77))).size h1)
end Go.Proofs.YthcmeboepedelaaDoor
