/-
  Two pointers are appended to the law's two lists: the order is drawn.
  The law's record: a new pair of cursors over a record's body.
  The law's own open, with the document's cursor: the last statement.
-/
import Derived.Test.YtkkogkdalcigkaaDoorRdSt
import Derived.Test.YtkkogkdalcigkaaDoorRgK
import Derived.Test.YtkkogkdalcigkaaDoorWOpen
namespace Go.Proofs.YtkkogkdalcigkaaDoor
open Go.RowKit FerryCrc
set_option linter.unusedVariables false
set_option linter.unusedSimpArgs false

/-- The operations of that statement. -/
def ops13 : Array Oper := #[{ dst := some 63, op := Go.Op.move (Go.Operand.tmp 0), type := 24, pos := "law.go:184", after := #[], guard := none },
    { dst := some 64, op := Go.Op.move (Go.Operand.tmp 0), type := 24, pos := "law.go:184", after := #[{ on := 18, ground := Go.Ground.gcOnly Go.Departure.lateStores }], guard := none },
    { dst := some 65, op := Go.Op.move (Go.Operand.tmp 0), type := 24, pos := "law.go:184", after := #[], guard := none },
    { dst := some 66, op := Go.Op.nilCheck (Go.Operand.tmp 65), type := 0, pos := "law.go:184", after := #[{ on := 2, ground := Go.Ground.data }], guard := none },
    { dst := some 67, op := Go.Op.fieldAddr 28 (Go.Operand.tmp 66) 0, type := 0, pos := "law.go:184", after := #[{ on := 3, ground := Go.Ground.data }], guard := none },
    { dst := some 68, op := Go.Op.load 25 (Go.Operand.tmp 67), type := 25, pos := "law.go:184", after := #[{ on := 4, ground := Go.Ground.data }], guard := none },
    { dst := some 69, op := Go.Op.move (Go.Operand.tmp 11), type := 32, pos := "law.go:184", after := #[], guard := none },
    { dst := some 70, op := Go.Op.buildSlice 25 1 #[(0, Go.Operand.tmp 69)], type := 25, pos := "law.go:184", after := #[{ on := 6, ground := Go.Ground.data }], guard := none },
    { dst := some 71, op := Go.Op.call { callee := Go.Callee.builtin Go.Builtin.append, args := #[Go.Operand.tmp 68, Go.Operand.tmp 70], argTypes := #[25, 25] }, type := 25, pos := "law.go:184", after := #[{ on := 5, ground := Go.Ground.data }, { on := 7, ground := Go.Ground.data }], guard := none },
    { dst := some 72, op := Go.Op.move (Go.Operand.tmp 0), type := 24, pos := "law.go:184", after := #[], guard := none },
    { dst := some 73, op := Go.Op.nilCheck (Go.Operand.tmp 72), type := 0, pos := "law.go:184", after := #[{ on := 9, ground := Go.Ground.data }], guard := none },
    { dst := some 74, op := Go.Op.fieldAddr 28 (Go.Operand.tmp 73) 1, type := 0, pos := "law.go:184", after := #[{ on := 10, ground := Go.Ground.data }], guard := none },
    { dst := some 75, op := Go.Op.load 26 (Go.Operand.tmp 74), type := 26, pos := "law.go:184", after := #[{ on := 11, ground := Go.Ground.data }], guard := none },
    { dst := some 76, op := Go.Op.move (Go.Operand.tmp 14), type := 87, pos := "law.go:184", after := #[], guard := none },
    { dst := some 77, op := Go.Op.buildSlice 26 1 #[(0, Go.Operand.tmp 76)], type := 26, pos := "law.go:184", after := #[{ on := 13, ground := Go.Ground.data }], guard := none },
    { dst := some 78, op := Go.Op.call { callee := Go.Callee.builtin Go.Builtin.append, args := #[Go.Operand.tmp 75, Go.Operand.tmp 77], argTypes := #[26, 26] }, type := 26, pos := "law.go:184", after := #[{ on := 12, ground := Go.Ground.data }, { on := 14, ground := Go.Ground.data }, { on := 8, ground := Go.Ground.chain }], guard := none },
    { dst := some 79, op := Go.Op.nilCheck (Go.Operand.tmp 63), type := 0, pos := "law.go:184", after := #[{ on := 0, ground := Go.Ground.data }, { on := 0, ground := Go.Ground.phase }, { on := 1, ground := Go.Ground.textOnly Go.Departure.lateStores }, { on := 2, ground := Go.Ground.phase }, { on := 3, ground := Go.Ground.phase }, { on := 4, ground := Go.Ground.phase }, { on := 5, ground := Go.Ground.phase }, { on := 6, ground := Go.Ground.phase }, { on := 7, ground := Go.Ground.phase }, { on := 8, ground := Go.Ground.phase }, { on := 9, ground := Go.Ground.textOnly Go.Departure.lateStores }, { on := 10, ground := Go.Ground.textOnly Go.Departure.lateStoresUnsure }, { on := 11, ground := Go.Ground.textOnly Go.Departure.lateStoresUnsure }, { on := 12, ground := Go.Ground.phase }, { on := 13, ground := Go.Ground.textOnly Go.Departure.lateStores }, { on := 14, ground := Go.Ground.textOnly Go.Departure.lateStoresUnsure }, { on := 15, ground := Go.Ground.phase }], guard := none },
    { dst := some 80, op := Go.Op.fieldAddr 28 (Go.Operand.tmp 79) 0, type := 0, pos := "law.go:184", after := #[{ on := 16, ground := Go.Ground.data }, { on := 0, ground := Go.Ground.phase }, { on := 1, ground := Go.Ground.textOnly Go.Departure.lateStores }, { on := 2, ground := Go.Ground.phase }, { on := 3, ground := Go.Ground.phase }, { on := 4, ground := Go.Ground.phase }, { on := 5, ground := Go.Ground.phase }, { on := 6, ground := Go.Ground.phase }, { on := 7, ground := Go.Ground.phase }, { on := 8, ground := Go.Ground.phase }, { on := 9, ground := Go.Ground.textOnly Go.Departure.lateStores }, { on := 10, ground := Go.Ground.textOnly Go.Departure.lateStoresUnsure }, { on := 11, ground := Go.Ground.textOnly Go.Departure.lateStoresUnsure }, { on := 12, ground := Go.Ground.phase }, { on := 13, ground := Go.Ground.textOnly Go.Departure.lateStores }, { on := 14, ground := Go.Ground.textOnly Go.Departure.lateStoresUnsure }, { on := 15, ground := Go.Ground.phase }], guard := none },
    { dst := none, op := Go.Op.store 25 (Go.Operand.tmp 80) (Go.Operand.tmp 71), type := 0, pos := "law.go:184", after := #[{ on := 17, ground := Go.Ground.data }, { on := 8, ground := Go.Ground.data }, { on := 15, ground := Go.Ground.chain }, { on := 0, ground := Go.Ground.phase }, { on := 1, ground := Go.Ground.textOnly Go.Departure.lateStores }, { on := 2, ground := Go.Ground.phase }, { on := 3, ground := Go.Ground.phase }, { on := 4, ground := Go.Ground.phase }, { on := 5, ground := Go.Ground.phase }, { on := 6, ground := Go.Ground.phase }, { on := 7, ground := Go.Ground.phase }, { on := 8, ground := Go.Ground.phase }, { on := 9, ground := Go.Ground.textOnly Go.Departure.lateStores }, { on := 10, ground := Go.Ground.textOnly Go.Departure.lateStoresUnsure }, { on := 11, ground := Go.Ground.textOnly Go.Departure.lateStoresUnsure }, { on := 12, ground := Go.Ground.phase }, { on := 13, ground := Go.Ground.textOnly Go.Departure.lateStores }, { on := 14, ground := Go.Ground.textOnly Go.Departure.lateStoresUnsure }, { on := 15, ground := Go.Ground.phase }], guard := none },
    { dst := some 81, op := Go.Op.nilCheck (Go.Operand.tmp 64), type := 0, pos := "law.go:184", after := #[{ on := 1, ground := Go.Ground.data }, { on := 0, ground := Go.Ground.phase }, { on := 1, ground := Go.Ground.phase }, { on := 2, ground := Go.Ground.phase }, { on := 3, ground := Go.Ground.phase }, { on := 4, ground := Go.Ground.phase }, { on := 5, ground := Go.Ground.phase }, { on := 6, ground := Go.Ground.phase }, { on := 7, ground := Go.Ground.phase }, { on := 8, ground := Go.Ground.phase }, { on := 9, ground := Go.Ground.phase }, { on := 10, ground := Go.Ground.phase }, { on := 11, ground := Go.Ground.phase }, { on := 12, ground := Go.Ground.phase }, { on := 13, ground := Go.Ground.phase }, { on := 14, ground := Go.Ground.phase }, { on := 15, ground := Go.Ground.phase }, { on := 16, ground := Go.Ground.phase }, { on := 17, ground := Go.Ground.phase }, { on := 18, ground := Go.Ground.phase }], guard := none },
    { dst := some 82, op := Go.Op.fieldAddr 28 (Go.Operand.tmp 81) 1, type := 0, pos := "law.go:184", after := #[{ on := 19, ground := Go.Ground.data }, { on := 0, ground := Go.Ground.phase }, { on := 1, ground := Go.Ground.phase }, { on := 2, ground := Go.Ground.phase }, { on := 3, ground := Go.Ground.phase }, { on := 4, ground := Go.Ground.phase }, { on := 5, ground := Go.Ground.phase }, { on := 6, ground := Go.Ground.phase }, { on := 7, ground := Go.Ground.phase }, { on := 8, ground := Go.Ground.phase }, { on := 9, ground := Go.Ground.phase }, { on := 10, ground := Go.Ground.phase }, { on := 11, ground := Go.Ground.phase }, { on := 12, ground := Go.Ground.phase }, { on := 13, ground := Go.Ground.phase }, { on := 14, ground := Go.Ground.phase }, { on := 15, ground := Go.Ground.phase }, { on := 16, ground := Go.Ground.phase }, { on := 17, ground := Go.Ground.phase }, { on := 18, ground := Go.Ground.phase }], guard := none },
    { dst := none, op := Go.Op.store 26 (Go.Operand.tmp 82) (Go.Operand.tmp 78), type := 0, pos := "law.go:184", after := #[{ on := 20, ground := Go.Ground.data }, { on := 15, ground := Go.Ground.data }, { on := 18, ground := Go.Ground.chain }, { on := 0, ground := Go.Ground.phase }, { on := 1, ground := Go.Ground.phase }, { on := 2, ground := Go.Ground.phase }, { on := 3, ground := Go.Ground.phase }, { on := 4, ground := Go.Ground.phase }, { on := 5, ground := Go.Ground.phase }, { on := 6, ground := Go.Ground.phase }, { on := 7, ground := Go.Ground.phase }, { on := 8, ground := Go.Ground.phase }, { on := 9, ground := Go.Ground.phase }, { on := 10, ground := Go.Ground.phase }, { on := 11, ground := Go.Ground.phase }, { on := 12, ground := Go.Ground.phase }, { on := 13, ground := Go.Ground.phase }, { on := 14, ground := Go.Ground.phase }, { on := 15, ground := Go.Ground.phase }, { on := 16, ground := Go.Ground.phase }, { on := 17, ground := Go.Ground.phase }, { on := 18, ground := Go.Ground.phase }], guard := none }]

/-- The lists behind the last stores. -/
theorem app_fin {wc w5 w7 : World} {B C D g5 c5 g7 c7 : Nat} {v1 v2 : Value} {cs ds : List Nat} (HCS : Csr wc B v1 v2 cs ds)
    (HO57 : w7.ownsRow (B + 1) 32 1 (.slice (some ⟨g5, 0, none⟩) (cs.length + 1) c5) (cs ++ [C]).length ((cs ++ [C]).map ptr)) (HQ5 : v1.ownBlock = some g5 ∨ (wc.heap.size ≤ g5 ∧ g5 < w5.heap.size))
    (HO7 : w7.ownsRow (B + 1) 87 1 (.slice (some ⟨g7, 0, none⟩) (ds.length + 1) c7) (ds ++ [D]).length ((ds ++ [D]).map ptr)) (HQ7 : v2.ownBlock = some g7 ∨ w5.heap.size ≤ g7) (hsz : wc.heap.size ≤ w5.heap.size)
    (HT7 : Two w7 B v1 v2) (HFW7 : Frm (fun k => v1.ownBlock = some k ∨ v2.ownBlock = some k) wc w7) :
    ∃ v1' v2', Csr ((w7.setCell ⟨B, 0, none⟩ (.slice (some ⟨g5, 0, none⟩) (cs.length + 1) c5)).setCell ⟨B, 1, none⟩ (.slice (some ⟨g7, 0, none⟩) (ds.length + 1) c7)) B v1' v2' (cs ++ [C]) (ds ++ [D]) ∧ Frm (fun k => k = B ∨ v1.ownBlock = some k ∨ v2.ownBlock = some k) wc ((w7.setCell ⟨B, 0, none⟩ (.slice (some ⟨g5, 0, none⟩) (cs.length + 1) c5)).setCell ⟨B, 1, none⟩ (.slice (some ⟨g7, 0, none⟩) (ds.length + 1) c7)) ∧ (∀ k, v1'.ownBlock = some k → v1.ownBlock = some k ∨ wc.heap.size ≤ k) ∧ (∀ k, v2'.ownBlock = some k → v2.ownBlock = some k ∨ wc.heap.size ≤ k) := by
  refine ⟨_, _, ⟨HT7.set _ _, ownsRow_setCell_below (ownsRow_setCell_below HO57 (by show B < B + 1; omega) _) (by show B < B + 1; omega) _, ownsRow_setCell_below (ownsRow_setCell_below HO7 (by show B < B + 1; omega) _) (by show B < B + 1; omega) _, ?_⟩, ?_, ?_, ?_⟩
  · intro k hk e
    simp only [Value.ownBlock, Option.some.injEq] at hk e
    subst hk
    subst e
    rcases HQ5 with a | a <;> rcases HQ7 with b | b
    · exact HCS.ne _ a b
    · have := (World.ownsRow.lt HCS.r1 _ a).2
      omega
    · have := (World.ownsRow.lt HCS.r2 _ b).2
      omega
    · omega
  · exact (HFW7.mono (T := fun k => k = B ∨ v1.ownBlock = some k ∨ v2.ownBlock = some k) (fun j _ t => Or.inr t)).trans ((frm_setCell w7 ⟨B, 0, none⟩ _).trans (frm_setCell _ ⟨B, 1, none⟩ _) (fun j _ t => t)) (fun j _ t => Or.inl t)
  · intro k hk
    simp only [Value.ownBlock, Option.some.injEq] at hk
    subst hk
    rcases HQ5 with a | a
    · exact .inl a
    · exact .inr a.1
  · intro k hk
    simp only [Value.ownBlock, Option.some.injEq] at hk
    subst hk
    rcases HQ7 with b | b
    · exact .inl b
    · exact .inr (by omega)
/-- What stands behind the first append, whatever came besides. -/
theorem mid13 {W0 X Y Z : World} {B C g5 c5 : Nat} {v1 v2 : Value} {cs ds : List Nat} (HC0 : Csr W0 B v1 v2 cs ds) (b0 : Below W0.heap.size W0 X)
    (ho : Y.ownsRow (B + 1) 32 1 (.slice (some ⟨g5, 0, none⟩) (cs.length + 1) c5) (cs ++ [C]).length ((cs ++ [C]).map ptr)) (hf : Frm (fun k => v1.ownBlock = some k) X Y) (hq : v1.ownBlock = some g5 ∨ g5 = X.heap.size) (b1 : Below Y.heap.size Y Z) :
    Two Z B v1 v2 ∧ Z.ownsRow (B + 1) 32 1 (.slice (some ⟨g5, 0, none⟩) (cs.length + 1) c5) (cs ++ [C]).length ((cs ++ [C]).map ptr) ∧ Z.ownsRow (B + 1) 87 1 v2 ds.length (ds.map ptr) ∧ (v1.ownBlock = some g5 ∨ (W0.heap.size ≤ g5 ∧ g5 < Z.heap.size)) ∧ Frm (fun k => v1.ownBlock = some k) W0 Z := by
  refine ⟨((HC0.two.below b0).frm hf (fun e => by have := (World.ownsRow.lt HC0.r1 _ e).1; omega)).below b1, ownsRow_below ho b1, ownsRow_below (row_frm (ownsRow_below HC0.r2 b0) hf (fun k hk e => HC0.ne k e hk)) b1, ?_, ((Frm.ofBelow (S := fun k => v1.ownBlock = some k) b0).trans hf (fun j _ t => t)).trans (Frm.ofBelow b1) (fun j _ t => t)⟩
  rcases hq with hq | hq
  · exact .inl hq
  · exact .inr ⟨by rw [hq]; exact b0.size, Nat.lt_of_lt_of_le (World.ownsRow.lt ho _ rfl).2 b1.size⟩

set_option maxRecDepth 100000 in
set_option maxHeartbeats 4000000 in
theorem r13b {wc : World} {B C D : Nat} {v1 v2 : Value} {cs ds : List Nat} (u1 u2 u3 u4 u5 u6 u7 u8 u9 u10 u12 u13 u15 u16 u17 u18 u19 u20 u21 u22 u23 u24 u25 u26 u27 u28 u29 u30 u31 u32 u33 u34 u35 u36 u37 u38 u39 u40 u41 u42 u43 u44 u45 u46 u47 u48 u49 u50 u51 u52 u53 u54 u55 u56 u57 u58 u59 u60 u61 u62 : Value) (h1 : cs.length + 1 ≤ 17592186044416) (h2 : ds.length + 1 ≤ 17592186044416) (HCS : Hid (Csr wc B v1 v2 cs ds)) (Q : Act → World → Prop)
    (fin : Hid (∀ (y63 y64 y65 y66 y67 y68 y69 y70 y71 y72 y73 y74 y75 y76 y77 y78 y79 y80 y81 y82 : Value) (w' : World), (∃ v1' v2', Csr w' B v1' v2' (cs ++ [C]) (ds ++ [D]) ∧ Frm (fun k => k = B ∨ v1.ownBlock = some k ∨ v2.ownBlock = some k) wc w' ∧ (∀ k, v1'.ownBlock = some k → v1.ownBlock = some k ∨ wc.heap.size ≤ k) ∧ (∀ k, v2'.ownBlock = some k → v2.ownBlock = some k ∨ wc.heap.size ≤ k)) → Q { tmps := #[.pointer (some ⟨B, 0, none⟩), u1, u2, u3, u4, u5, u6, u7, u8, u9, u10, .pointer (some ⟨C, 0, none⟩), u12, u13, .pointer (some ⟨D, 0, none⟩), u15, u16, u17, u18, u19, u20, u21, u22, u23, u24, u25, u26, u27, u28, u29, u30, u31, u32, u33, u34, u35, u36, u37, u38, u39, u40, u41, u42, u43, u44, u45, u46, u47, u48, u49, u50, u51, u52, u53, u54, u55, u56, u57, u58, u59, u60, u61, u62, y63, y64, y65, y66, y67, y68, y69, y70, y71, y72, y73, y74, y75, y76, y77, y78, y79, y80, y81, y82], defers := [] } w'))
    (g5 c5 gx : Nat) (y65 y66 y67 y68 y69 y70 y72 y73 y74 y76 : Value) (w5 : World) (HT5 : Hid (Two w5 B v1 v2))
    (HO5 : Hid (w5.ownsRow (B + 1) 32 1 (.slice (some ⟨g5, 0, none⟩) (cs.length + 1) c5) (cs ++ [C]).length ((cs ++ [C]).map ptr))) (HR5 : Hid (w5.ownsRow (B + 1) 87 1 v2 ds.length (ds.map ptr)))
    (HX5 : Hid (w5.cell? ⟨gx, 0, none⟩ = some (ptr D))) (HQ5 : Hid (v1.ownBlock = some g5 ∨ (wc.heap.size ≤ g5 ∧ g5 < w5.heap.size))) (HFW5 : Hid (Frm (fun k => v1.ownBlock = some k) wc w5)) :
    AnyK Tryd.prog .any ops13 (OnlyN Q) (fun wz => wz.cell? ⟨B, 0, none⟩ = some v1 ∧ wz.cell? ⟨B, 1, none⟩ = some v2) 16 7 #[true, true, true, true, true, true, true, true, true, true, true, true, true, true, true, false, false, false, false, false, false, false] { tmps := #[.pointer (some ⟨B, 0, none⟩), u1, u2, u3, u4, u5, u6, u7, u8, u9, u10, .pointer (some ⟨C, 0, none⟩), u12, u13, .pointer (some ⟨D, 0, none⟩), u15, u16, u17, u18, u19, u20, u21, u22, u23, u24, u25, u26, u27, u28, u29, u30, u31, u32, u33, u34, u35, u36, u37, u38, u39, u40, u41, u42, u43, u44, u45, u46, u47, u48, u49, u50, u51, u52, u53, u54, u55, u56, u57, u58, u59, u60, u61, u62, .pointer (some ⟨B, 0, none⟩), .pointer (some ⟨B, 0, none⟩), y65, y66, y67, y68, y69, y70, .slice (some ⟨g5, 0, none⟩) (cs.length + 1) c5, y72, y73, y74, v2, y76, .slice (some ⟨gx, 0, none⟩) 1 1, undef, undef, undef, undef, undef], defers := [] } w5 := by
  have HSZ : Hid (wc.heap.size ≤ w5.heap.size) := HFW5.out.size
  have jl : B < w5.heap.size := block_lt_of_cell HT5.out.c0
  refine anyK_one (i := 15) (o := { dst := some 78, op := Go.Op.call { callee := Go.Callee.builtin Go.Builtin.append, args := #[Go.Operand.tmp 75, Go.Operand.tmp 77], argTypes := #[26, 26] }, type := 26, pos := "law.go:184", after := #[{ on := 12, ground := Go.Ground.data }, { on := 14, ground := Go.Ground.data }, { on := 8, ground := Go.Ground.chain }], guard := none }) (by kernel_rfl) rfl (fun K hK => ?_)
  refine step_ptr 26 87 Tryd.underlying26 infoD rfl (.tmp 75) (.tmp 77) rfl (B + 1) v2 ds rfl HR5.out gx D rfl HX5.out h2 (show B + 1 ≤ w5.heap.size from jl) ?_
  intro g7 c7 w7 ho hf hq
  have HO7 := hide ho
  have HQ7 : Hid (v2.ownBlock = some g7 ∨ w5.heap.size ≤ g7) := (by
    rcases hq with hq | hq
    · exact Or.inl hq
    · exact Or.inr (by rw [hq]; exact Nat.le_refl _))
  have HT7 := hide (HT5.out.frm hf (fun e => by have := (World.ownsRow.lt HCS.out.r2 _ e).1; omega))
  have HO57 := hide (row_frm HO5.out hf (fun k hk e => by
    simp only [Value.ownBlock, Option.some.injEq] at hk
    subst hk
    rcases HQ5.out with h8 | h8
    · exact HCS.out.ne _ h8 e
    · have h9 := (World.ownsRow.lt HCS.out.r2 _ e).2; omega))
  have HFW7 := hide ((HFW5.out.mono (T := fun k => v1.ownBlock = some k ∨ v2.ownBlock = some k) (fun j _ t => Or.inl t)).trans hf (fun j _ t => Or.inr t))
  have y0 := HT7.out.c0
  have y1 := HT7.out.c1
  have z0 := HT7.out.f0
  have z1 := HT7.out.f1
  clear ho hf hq
  refine hK.out _ _ (fun _ => ⟨HT7.out.c0, HT7.out.c1⟩) ?_
  clear hK K
  try simp only [Act.put, List.setIfInBounds_toArray, List.set_cons_zero, List.set_cons_succ]
  refine anyK_one (i := 16) (o := { dst := some 79, op := Go.Op.nilCheck (Go.Operand.tmp 63), type := 0, pos := "law.go:184", after := #[{ on := 0, ground := Go.Ground.data }, { on := 0, ground := Go.Ground.phase }, { on := 1, ground := Go.Ground.textOnly Go.Departure.lateStores }, { on := 2, ground := Go.Ground.phase }, { on := 3, ground := Go.Ground.phase }, { on := 4, ground := Go.Ground.phase }, { on := 5, ground := Go.Ground.phase }, { on := 6, ground := Go.Ground.phase }, { on := 7, ground := Go.Ground.phase }, { on := 8, ground := Go.Ground.phase }, { on := 9, ground := Go.Ground.textOnly Go.Departure.lateStores }, { on := 10, ground := Go.Ground.textOnly Go.Departure.lateStoresUnsure }, { on := 11, ground := Go.Ground.textOnly Go.Departure.lateStoresUnsure }, { on := 12, ground := Go.Ground.phase }, { on := 13, ground := Go.Ground.textOnly Go.Departure.lateStores }, { on := 14, ground := Go.Ground.textOnly Go.Departure.lateStoresUnsure }, { on := 15, ground := Go.Ground.phase }], guard := none }) (by kernel_rfl) rfl (fun K hK => ?_)
  go_simp
  try go_wp2_with fail
  refine hK.out _ _ (fun h => absurd h (by decide)) ?_
  clear hK K
  try simp only [Act.put, List.setIfInBounds_toArray, List.set_cons_zero, List.set_cons_succ]
  refine anyK_one (i := 17) (o := { dst := some 80, op := Go.Op.fieldAddr 28 (Go.Operand.tmp 79) 0, type := 0, pos := "law.go:184", after := #[{ on := 16, ground := Go.Ground.data }, { on := 0, ground := Go.Ground.phase }, { on := 1, ground := Go.Ground.textOnly Go.Departure.lateStores }, { on := 2, ground := Go.Ground.phase }, { on := 3, ground := Go.Ground.phase }, { on := 4, ground := Go.Ground.phase }, { on := 5, ground := Go.Ground.phase }, { on := 6, ground := Go.Ground.phase }, { on := 7, ground := Go.Ground.phase }, { on := 8, ground := Go.Ground.phase }, { on := 9, ground := Go.Ground.textOnly Go.Departure.lateStores }, { on := 10, ground := Go.Ground.textOnly Go.Departure.lateStoresUnsure }, { on := 11, ground := Go.Ground.textOnly Go.Departure.lateStoresUnsure }, { on := 12, ground := Go.Ground.phase }, { on := 13, ground := Go.Ground.textOnly Go.Departure.lateStores }, { on := 14, ground := Go.Ground.textOnly Go.Departure.lateStoresUnsure }, { on := 15, ground := Go.Ground.phase }], guard := none }) (by kernel_rfl) rfl (fun K hK => ?_)
  go_simp
  try go_wp2_with fail
  refine hK.out _ _ (fun h => absurd h (by decide)) ?_
  clear hK K
  try simp only [Act.put, List.setIfInBounds_toArray, List.set_cons_zero, List.set_cons_succ]
  refine anyK_one (i := 18) (o := { dst := none, op := Go.Op.store 25 (Go.Operand.tmp 80) (Go.Operand.tmp 71), type := 0, pos := "law.go:184", after := #[{ on := 17, ground := Go.Ground.data }, { on := 8, ground := Go.Ground.data }, { on := 15, ground := Go.Ground.chain }, { on := 0, ground := Go.Ground.phase }, { on := 1, ground := Go.Ground.textOnly Go.Departure.lateStores }, { on := 2, ground := Go.Ground.phase }, { on := 3, ground := Go.Ground.phase }, { on := 4, ground := Go.Ground.phase }, { on := 5, ground := Go.Ground.phase }, { on := 6, ground := Go.Ground.phase }, { on := 7, ground := Go.Ground.phase }, { on := 8, ground := Go.Ground.phase }, { on := 9, ground := Go.Ground.textOnly Go.Departure.lateStores }, { on := 10, ground := Go.Ground.textOnly Go.Departure.lateStoresUnsure }, { on := 11, ground := Go.Ground.textOnly Go.Departure.lateStoresUnsure }, { on := 12, ground := Go.Ground.phase }, { on := 13, ground := Go.Ground.textOnly Go.Departure.lateStores }, { on := 14, ground := Go.Ground.textOnly Go.Departure.lateStoresUnsure }, { on := 15, ground := Go.Ground.phase }], guard := none }) (by kernel_rfl) rfl (fun K hK => ?_)
  go_simp
  try go_wp2_with fail
  refine hK.out _ _ (fun h => absurd h (by decide)) ?_
  clear hK K
  try simp only [Act.put, List.setIfInBounds_toArray, List.set_cons_zero, List.set_cons_succ]
  refine anyK_one (i := 19) (o := { dst := some 81, op := Go.Op.nilCheck (Go.Operand.tmp 64), type := 0, pos := "law.go:184", after := #[{ on := 1, ground := Go.Ground.data }, { on := 0, ground := Go.Ground.phase }, { on := 1, ground := Go.Ground.phase }, { on := 2, ground := Go.Ground.phase }, { on := 3, ground := Go.Ground.phase }, { on := 4, ground := Go.Ground.phase }, { on := 5, ground := Go.Ground.phase }, { on := 6, ground := Go.Ground.phase }, { on := 7, ground := Go.Ground.phase }, { on := 8, ground := Go.Ground.phase }, { on := 9, ground := Go.Ground.phase }, { on := 10, ground := Go.Ground.phase }, { on := 11, ground := Go.Ground.phase }, { on := 12, ground := Go.Ground.phase }, { on := 13, ground := Go.Ground.phase }, { on := 14, ground := Go.Ground.phase }, { on := 15, ground := Go.Ground.phase }, { on := 16, ground := Go.Ground.phase }, { on := 17, ground := Go.Ground.phase }, { on := 18, ground := Go.Ground.phase }], guard := none }) (by kernel_rfl) rfl (fun K hK => ?_)
  go_simp
  try go_wp2_with fail
  refine hK.out _ _ (fun h => absurd h (by decide)) ?_
  clear hK K
  try simp only [Act.put, List.setIfInBounds_toArray, List.set_cons_zero, List.set_cons_succ]
  refine anyK_one (i := 20) (o := { dst := some 82, op := Go.Op.fieldAddr 28 (Go.Operand.tmp 81) 1, type := 0, pos := "law.go:184", after := #[{ on := 19, ground := Go.Ground.data }, { on := 0, ground := Go.Ground.phase }, { on := 1, ground := Go.Ground.phase }, { on := 2, ground := Go.Ground.phase }, { on := 3, ground := Go.Ground.phase }, { on := 4, ground := Go.Ground.phase }, { on := 5, ground := Go.Ground.phase }, { on := 6, ground := Go.Ground.phase }, { on := 7, ground := Go.Ground.phase }, { on := 8, ground := Go.Ground.phase }, { on := 9, ground := Go.Ground.phase }, { on := 10, ground := Go.Ground.phase }, { on := 11, ground := Go.Ground.phase }, { on := 12, ground := Go.Ground.phase }, { on := 13, ground := Go.Ground.phase }, { on := 14, ground := Go.Ground.phase }, { on := 15, ground := Go.Ground.phase }, { on := 16, ground := Go.Ground.phase }, { on := 17, ground := Go.Ground.phase }, { on := 18, ground := Go.Ground.phase }], guard := none }) (by kernel_rfl) rfl (fun K hK => ?_)
  go_simp
  try go_wp2_with fail
  refine hK.out _ _ (fun h => absurd h (by decide)) ?_
  clear hK K
  try simp only [Act.put, List.setIfInBounds_toArray, List.set_cons_zero, List.set_cons_succ]
  refine anyK_one (i := 21) (o := { dst := none, op := Go.Op.store 26 (Go.Operand.tmp 82) (Go.Operand.tmp 78), type := 0, pos := "law.go:184", after := #[{ on := 20, ground := Go.Ground.data }, { on := 15, ground := Go.Ground.data }, { on := 18, ground := Go.Ground.chain }, { on := 0, ground := Go.Ground.phase }, { on := 1, ground := Go.Ground.phase }, { on := 2, ground := Go.Ground.phase }, { on := 3, ground := Go.Ground.phase }, { on := 4, ground := Go.Ground.phase }, { on := 5, ground := Go.Ground.phase }, { on := 6, ground := Go.Ground.phase }, { on := 7, ground := Go.Ground.phase }, { on := 8, ground := Go.Ground.phase }, { on := 9, ground := Go.Ground.phase }, { on := 10, ground := Go.Ground.phase }, { on := 11, ground := Go.Ground.phase }, { on := 12, ground := Go.Ground.phase }, { on := 13, ground := Go.Ground.phase }, { on := 14, ground := Go.Ground.phase }, { on := 15, ground := Go.Ground.phase }, { on := 16, ground := Go.Ground.phase }, { on := 17, ground := Go.Ground.phase }, { on := 18, ground := Go.Ground.phase }], guard := none }) (by kernel_rfl) rfl (fun K hK => ?_)
  go_simp
  try go_wp2_with fail
  refine hK.out _ _ (fun h => absurd h (by decide)) ?_
  clear hK K
  try simp only [Act.put, List.setIfInBounds_toArray, List.set_cons_zero, List.set_cons_succ]
  refine anyK_done (by kernel_rfl) ?_ _
  exact fin.out _ _ _ _ _ _ _ _ _ _ _ _ _ _ _ _ _ _ _ _ _ (app_fin HCS.out HO57.out HQ5.out HO7.out HQ7.out HSZ.out HT7.out HFW7.out)

set_option maxRecDepth 100000 in
set_option maxHeartbeats 4000000 in
theorem r13 {wc : World} {B C D : Nat} {v1 v2 : Value} {cs ds : List Nat} (u1 u2 u3 u4 u5 u6 u7 u8 u9 u10 u12 u13 u15 u16 u17 u18 u19 u20 u21 u22 u23 u24 u25 u26 u27 u28 u29 u30 u31 u32 u33 u34 u35 u36 u37 u38 u39 u40 u41 u42 u43 u44 u45 u46 u47 u48 u49 u50 u51 u52 u53 u54 u55 u56 u57 u58 u59 u60 u61 u62 : Value) (h1 : cs.length + 1 ≤ 17592186044416) (h2 : ds.length + 1 ≤ 17592186044416) (HCS : Hid (Csr wc B v1 v2 cs ds)) (Q : Act → World → Prop)
    (fin : Hid (∀ (y63 y64 y65 y66 y67 y68 y69 y70 y71 y72 y73 y74 y75 y76 y77 y78 y79 y80 y81 y82 : Value) (w' : World), (∃ v1' v2', Csr w' B v1' v2' (cs ++ [C]) (ds ++ [D]) ∧ Frm (fun k => k = B ∨ v1.ownBlock = some k ∨ v2.ownBlock = some k) wc w' ∧ (∀ k, v1'.ownBlock = some k → v1.ownBlock = some k ∨ wc.heap.size ≤ k) ∧ (∀ k, v2'.ownBlock = some k → v2.ownBlock = some k ∨ wc.heap.size ≤ k)) → Q { tmps := #[.pointer (some ⟨B, 0, none⟩), u1, u2, u3, u4, u5, u6, u7, u8, u9, u10, .pointer (some ⟨C, 0, none⟩), u12, u13, .pointer (some ⟨D, 0, none⟩), u15, u16, u17, u18, u19, u20, u21, u22, u23, u24, u25, u26, u27, u28, u29, u30, u31, u32, u33, u34, u35, u36, u37, u38, u39, u40, u41, u42, u43, u44, u45, u46, u47, u48, u49, u50, u51, u52, u53, u54, u55, u56, u57, u58, u59, u60, u61, u62, y63, y64, y65, y66, y67, y68, y69, y70, y71, y72, y73, y74, y75, y76, y77, y78, y79, y80, y81, y82], defers := [] } w')) :
    Code.wp Tryd.prog (Code.region 13 ops13 true) (OnlyN Q) { tmps := #[.pointer (some ⟨B, 0, none⟩), u1, u2, u3, u4, u5, u6, u7, u8, u9, u10, .pointer (some ⟨C, 0, none⟩), u12, u13, .pointer (some ⟨D, 0, none⟩), u15, u16, u17, u18, u19, u20, u21, u22, u23, u24, u25, u26, u27, u28, u29, u30, u31, u32, u33, u34, u35, u36, u37, u38, u39, u40, u41, u42, u43, u44, u45, u46, u47, u48, u49, u50, u51, u52, u53, u54, u55, u56, u57, u58, u59, u60, u61, u62, undef, undef, undef, undef, undef, undef, undef, undef, undef, undef, undef, undef, undef, undef, undef, undef, undef, undef, undef, undef], defers := [] } wc := by
  have k0 := HCS.out.two.c0
  have k1 := HCS.out.two.c1
  have HBL : Hid (B + 1 ≤ wc.heap.size) := by unfold Hid; exact block_lt_of_cell HCS.out.two.c0
  have hH : wc.drew.cell? ⟨B, 0, none⟩ = some v1 ∧ wc.drew.cell? ⟨B, 1, none⟩ = some v2 := ⟨k0, k1⟩
  refine region_anyK (S := (fun wz => wz.cell? ⟨B, 0, none⟩ = some v1 ∧ wz.cell? ⟨B, 1, none⟩ = some v2)) (k := 16) (by kernel_rfl) ?_
  show AnyK Tryd.prog .any ops13 (OnlyN Q) (fun wz => wz.cell? ⟨B, 0, none⟩ = some v1 ∧ wz.cell? ⟨B, 1, none⟩ = some v2) 16 22 #[false, false, false, false, false, false, false, false, false, false, false, false, false, false, false, false, false, false, false, false, false, false] _ _
  refine anyK_takeP (i := 0) (oi := { dst := some 63, op := Go.Op.move (Go.Operand.tmp 0), type := 24, pos := "law.go:184", after := #[], guard := none }) (v := ?_) rfl (by kernel_rfl) (by kernel_rfl) (by kernel_rfl) (fun _ _ _ h => h) (by rfl) (fun _ => hH) (Or.inl ⟨by rfl, ?_⟩) ?_
  rotate_left
  · intro wz
    go_simp
    try with_reducible rfl
  try simp only [Act.put, List.setIfInBounds_toArray, List.set_cons_zero, List.set_cons_succ]
  refine anyK_takeP (i := 1) (oi := { dst := some 64, op := Go.Op.move (Go.Operand.tmp 0), type := 24, pos := "law.go:184", after := #[{ on := 18, ground := Go.Ground.gcOnly Go.Departure.lateStores }], guard := none }) (v := ?_) rfl (by kernel_rfl) (by kernel_rfl) (by kernel_rfl) (fun _ _ _ h => h) (by rfl) (fun _ => hH) (Or.inl ⟨by rfl, ?_⟩) ?_
  rotate_left
  · intro wz
    go_simp
    try with_reducible rfl
  try simp only [Act.put, List.setIfInBounds_toArray, List.set_cons_zero, List.set_cons_succ]
  refine anyK_takeP (i := 2) (oi := { dst := some 65, op := Go.Op.move (Go.Operand.tmp 0), type := 24, pos := "law.go:184", after := #[], guard := none }) (v := ?_) rfl (by kernel_rfl) (by kernel_rfl) (by kernel_rfl) (fun _ _ _ h => h) (by rfl) (fun _ => hH) (Or.inl ⟨by rfl, ?_⟩) ?_
  rotate_left
  · intro wz
    go_simp
    try with_reducible rfl
  try simp only [Act.put, List.setIfInBounds_toArray, List.set_cons_zero, List.set_cons_succ]
  refine anyK_takeP (i := 3) (oi := { dst := some 66, op := Go.Op.nilCheck (Go.Operand.tmp 65), type := 0, pos := "law.go:184", after := #[{ on := 2, ground := Go.Ground.data }], guard := none }) (v := ?_) rfl (by kernel_rfl) (by kernel_rfl) (by kernel_rfl) (fun _ _ _ h => h) (by rfl) (fun _ => hH) (Or.inl ⟨by rfl, ?_⟩) ?_
  rotate_left
  · intro wz
    go_simp
    try with_reducible rfl
  try simp only [Act.put, List.setIfInBounds_toArray, List.set_cons_zero, List.set_cons_succ]
  refine anyK_takeP (i := 4) (oi := { dst := some 67, op := Go.Op.fieldAddr 28 (Go.Operand.tmp 66) 0, type := 0, pos := "law.go:184", after := #[{ on := 3, ground := Go.Ground.data }], guard := none }) (v := ?_) rfl (by kernel_rfl) (by kernel_rfl) (by kernel_rfl) (fun _ _ _ h => h) (by rfl) (fun _ => hH) (Or.inl ⟨by rfl, ?_⟩) ?_
  rotate_left
  · intro wz
    go_simp
    try with_reducible rfl
  try simp only [Act.put, List.setIfInBounds_toArray, List.set_cons_zero, List.set_cons_succ]
  refine anyK_takeL (i := 5) (oi := { dst := some 68, op := Go.Op.load 25 (Go.Operand.tmp 67), type := 25, pos := "law.go:184", after := #[{ on := 4, ground := Go.Ground.data }], guard := none }) (ok := { dst := some 79, op := Go.Op.nilCheck (Go.Operand.tmp 63), type := 0, pos := "law.go:184", after := #[{ on := 0, ground := Go.Ground.data }, { on := 0, ground := Go.Ground.phase }, { on := 1, ground := Go.Ground.textOnly Go.Departure.lateStores }, { on := 2, ground := Go.Ground.phase }, { on := 3, ground := Go.Ground.phase }, { on := 4, ground := Go.Ground.phase }, { on := 5, ground := Go.Ground.phase }, { on := 6, ground := Go.Ground.phase }, { on := 7, ground := Go.Ground.phase }, { on := 8, ground := Go.Ground.phase }, { on := 9, ground := Go.Ground.textOnly Go.Departure.lateStores }, { on := 10, ground := Go.Ground.textOnly Go.Departure.lateStoresUnsure }, { on := 11, ground := Go.Ground.textOnly Go.Departure.lateStoresUnsure }, { on := 12, ground := Go.Ground.phase }, { on := 13, ground := Go.Ground.textOnly Go.Departure.lateStores }, { on := 14, ground := Go.Ground.textOnly Go.Departure.lateStoresUnsure }, { on := 15, ground := Go.Ground.phase }], guard := none }) (v := ?_) rfl rfl (by kernel_rfl) (by kernel_rfl) (by kernel_rfl) (by kernel_rfl) (by kernel_rfl) (fun _ _ _ h => h) (by rfl) hH (Or.inl ⟨by rfl, ?_⟩) ?_
  rotate_left
  · intro wz hSw
    obtain ⟨q0, q1⟩ := hSw
    go_simp
    try with_reducible rfl
  try simp only [Act.put, List.setIfInBounds_toArray, List.set_cons_zero, List.set_cons_succ]
  refine anyK_takeP (i := 6) (oi := { dst := some 69, op := Go.Op.move (Go.Operand.tmp 11), type := 32, pos := "law.go:184", after := #[], guard := none }) (v := ?_) rfl (by kernel_rfl) (by kernel_rfl) (by kernel_rfl) (fun _ _ _ h => h) (by rfl) (fun _ => hH) (Or.inl ⟨by rfl, ?_⟩) ?_
  rotate_left
  · intro wz
    go_simp
    try with_reducible rfl
  try simp only [Act.put, List.setIfInBounds_toArray, List.set_cons_zero, List.set_cons_succ]
  refine anyK_takeP (i := 9) (oi := { dst := some 72, op := Go.Op.move (Go.Operand.tmp 0), type := 24, pos := "law.go:184", after := #[], guard := none }) (v := ?_) rfl (by kernel_rfl) (by kernel_rfl) (by kernel_rfl) (fun _ _ _ h => h) (by rfl) (fun _ => hH) (Or.inl ⟨by rfl, ?_⟩) ?_
  rotate_left
  · intro wz
    go_simp
    try with_reducible rfl
  try simp only [Act.put, List.setIfInBounds_toArray, List.set_cons_zero, List.set_cons_succ]
  refine anyK_takeP (i := 10) (oi := { dst := some 73, op := Go.Op.nilCheck (Go.Operand.tmp 72), type := 0, pos := "law.go:184", after := #[{ on := 9, ground := Go.Ground.data }], guard := none }) (v := ?_) rfl (by kernel_rfl) (by kernel_rfl) (by kernel_rfl) (fun _ _ _ h => h) (by rfl) (fun _ => hH) (Or.inl ⟨by rfl, ?_⟩) ?_
  rotate_left
  · intro wz
    go_simp
    try with_reducible rfl
  try simp only [Act.put, List.setIfInBounds_toArray, List.set_cons_zero, List.set_cons_succ]
  refine anyK_takeP (i := 11) (oi := { dst := some 74, op := Go.Op.fieldAddr 28 (Go.Operand.tmp 73) 1, type := 0, pos := "law.go:184", after := #[{ on := 10, ground := Go.Ground.data }], guard := none }) (v := ?_) rfl (by kernel_rfl) (by kernel_rfl) (by kernel_rfl) (fun _ _ _ h => h) (by rfl) (fun _ => hH) (Or.inl ⟨by rfl, ?_⟩) ?_
  rotate_left
  · intro wz
    go_simp
    try with_reducible rfl
  try simp only [Act.put, List.setIfInBounds_toArray, List.set_cons_zero, List.set_cons_succ]
  refine anyK_takeL (i := 12) (oi := { dst := some 75, op := Go.Op.load 26 (Go.Operand.tmp 74), type := 26, pos := "law.go:184", after := #[{ on := 11, ground := Go.Ground.data }], guard := none }) (ok := { dst := some 79, op := Go.Op.nilCheck (Go.Operand.tmp 63), type := 0, pos := "law.go:184", after := #[{ on := 0, ground := Go.Ground.data }, { on := 0, ground := Go.Ground.phase }, { on := 1, ground := Go.Ground.textOnly Go.Departure.lateStores }, { on := 2, ground := Go.Ground.phase }, { on := 3, ground := Go.Ground.phase }, { on := 4, ground := Go.Ground.phase }, { on := 5, ground := Go.Ground.phase }, { on := 6, ground := Go.Ground.phase }, { on := 7, ground := Go.Ground.phase }, { on := 8, ground := Go.Ground.phase }, { on := 9, ground := Go.Ground.textOnly Go.Departure.lateStores }, { on := 10, ground := Go.Ground.textOnly Go.Departure.lateStoresUnsure }, { on := 11, ground := Go.Ground.textOnly Go.Departure.lateStoresUnsure }, { on := 12, ground := Go.Ground.phase }, { on := 13, ground := Go.Ground.textOnly Go.Departure.lateStores }, { on := 14, ground := Go.Ground.textOnly Go.Departure.lateStoresUnsure }, { on := 15, ground := Go.Ground.phase }], guard := none }) (v := ?_) rfl rfl (by kernel_rfl) (by kernel_rfl) (by kernel_rfl) (by kernel_rfl) (by kernel_rfl) (fun _ _ _ h => h) (by rfl) hH (Or.inl ⟨by rfl, ?_⟩) ?_
  rotate_left
  · intro wz hSw
    obtain ⟨q0, q1⟩ := hSw
    go_simp
    try with_reducible rfl
  try simp only [Act.put, List.setIfInBounds_toArray, List.set_cons_zero, List.set_cons_succ]
  refine anyK_takeP (i := 13) (oi := { dst := some 76, op := Go.Op.move (Go.Operand.tmp 14), type := 87, pos := "law.go:184", after := #[], guard := none }) (v := ?_) rfl (by kernel_rfl) (by kernel_rfl) (by kernel_rfl) (fun _ _ _ h => h) (by rfl) (fun _ => hH) (Or.inl ⟨by rfl, ?_⟩) ?_
  rotate_left
  · intro wz
    go_simp
    try with_reducible rfl
  try simp only [Act.put, List.setIfInBounds_toArray, List.set_cons_zero, List.set_cons_succ]
  have HC0 := hide (HCS.out.frmB (bel_dr (Below.refl wc.heap.size wc)))
  have HF0 : Hid (∀ (S : Nat → Prop) (w' : World), Frm S wc.drew w' → Frm S wc w') := fun S w' h => ⟨h.os, h.tape, h.output, h.size, h.block⟩
  have HFIN : Hid (∀ (y63 y64 y65 y66 y67 y68 y69 y70 y71 y72 y73 y74 y75 y76 y77 y78 y79 y80 y81 y82 : Value) (w' : World), (∃ v1' v2', Csr w' B v1' v2' (cs ++ [C]) (ds ++ [D]) ∧ Frm (fun k => k = B ∨ v1.ownBlock = some k ∨ v2.ownBlock = some k) wc.drew w' ∧ (∀ k, v1'.ownBlock = some k → v1.ownBlock = some k ∨ wc.drew.heap.size ≤ k) ∧ (∀ k, v2'.ownBlock = some k → v2.ownBlock = some k ∨ wc.drew.heap.size ≤ k)) → Q { tmps := #[.pointer (some ⟨B, 0, none⟩), u1, u2, u3, u4, u5, u6, u7, u8, u9, u10, .pointer (some ⟨C, 0, none⟩), u12, u13, .pointer (some ⟨D, 0, none⟩), u15, u16, u17, u18, u19, u20, u21, u22, u23, u24, u25, u26, u27, u28, u29, u30, u31, u32, u33, u34, u35, u36, u37, u38, u39, u40, u41, u42, u43, u44, u45, u46, u47, u48, u49, u50, u51, u52, u53, u54, u55, u56, u57, u58, u59, u60, u61, u62, y63, y64, y65, y66, y67, y68, y69, y70, y71, y72, y73, y74, y75, y76, y77, y78, y79, y80, y81, y82], defers := [] } w') := fun y63 y64 y65 y66 y67 y68 y69 y70 y71 y72 y73 y74 y75 y76 y77 y78 y79 y80 y81 y82 w' ⟨a, b, c, d, e, f⟩ => fin.out y63 y64 y65 y66 y67 y68 y69 y70 y71 y72 y73 y74 y75 y76 y77 y78 y79 y80 y81 y82 w' ⟨a, b, c, HF0.out _ _ d, e, f⟩
  have HBL0 : Hid (B + 1 ≤ wc.drew.heap.size) := HBL.out
  clear hH k0 k1 HCS HBL HF0 fin
  generalize wc.drew = W0 at *
  refine anyK_two (i := 7) (j := 14) (o := { dst := some 70, op := Go.Op.buildSlice 25 1 #[(0, Go.Operand.tmp 69)], type := 25, pos := "law.go:184", after := #[{ on := 6, ground := Go.Ground.data }], guard := none }) (o' := { dst := some 77, op := Go.Op.buildSlice 26 1 #[(0, Go.Operand.tmp 76)], type := 26, pos := "law.go:184", after := #[{ on := 13, ground := Go.Ground.data }], guard := none }) (by kernel_rfl) rfl rfl (fun K hK => ?_) (fun K hK => ?_)
  · go_simp
    try go_wp2_with fail
    refine hK.out _ _ (fun _ => ⟨cell_below HC0.out.two.c0 (bel_al (Below.refl _ _)), cell_below HC0.out.two.c1 (bel_al (Below.refl _ _))⟩) ?_
    clear hK K
    try simp only [Act.put, List.setIfInBounds_toArray, List.set_cons_zero, List.set_cons_succ]
    change AnyK _ _ _ _ _ _ _ _ _ (W0.alloc (.cells #[ptr C] 32))
    have HB1 : Hid (Below W0.heap.size W0 (W0.alloc (.cells #[ptr C] 32))) := bel_al (Below.refl _ _)
    have HC1 := hide (cell_top W0 (ptr C) 32 _ rfl)
    generalize W0.alloc (.cells #[ptr C] 32) = W1 at *
    refine anyK_two (i := 8) (j := 14) (o := { dst := some 71, op := Go.Op.call { callee := Go.Callee.builtin Go.Builtin.append, args := #[Go.Operand.tmp 68, Go.Operand.tmp 70], argTypes := #[25, 25] }, type := 25, pos := "law.go:184", after := #[{ on := 5, ground := Go.Ground.data }, { on := 7, ground := Go.Ground.data }], guard := none }) (o' := { dst := some 77, op := Go.Op.buildSlice 26 1 #[(0, Go.Operand.tmp 76)], type := 26, pos := "law.go:184", after := #[{ on := 13, ground := Go.Ground.data }], guard := none }) (by kernel_rfl) rfl rfl (fun K hK => ?_) (fun K hK => ?_)
    · refine step_ptr 25 32 Tryd.underlying25 infoC rfl (.tmp 68) (.tmp 70) rfl (B + 1) v1 cs rfl (ownsRow_below HC0.out.r1 HB1.out) W0.heap.size C rfl HC1.out h1 (Nat.le_trans HBL0.out (Below.size HB1.out)) ?_
      intro g5 c5 w5 ho hf hq
      have HM := hide (fun (Z : World) (hz : Below w5.heap.size w5 Z) => mid13 HC0.out HB1.out ho hf hq hz)
      have HT5 := hide (HM.out w5 (Below.refl _ _)).1
      clear ho hf hq
      refine hK.out _ _ (fun _ => ⟨HT5.out.c0, HT5.out.c1⟩) ?_
      clear hK K
      try simp only [Act.put, List.setIfInBounds_toArray, List.set_cons_zero, List.set_cons_succ]
      refine anyK_one (i := 14) (o := { dst := some 77, op := Go.Op.buildSlice 26 1 #[(0, Go.Operand.tmp 76)], type := 26, pos := "law.go:184", after := #[{ on := 13, ground := Go.Ground.data }], guard := none }) (by kernel_rfl) rfl (fun K hK => ?_)
      go_simp
      try go_wp2_with fail
      refine hK.out _ _ (fun _ => ⟨cell_below HT5.out.c0 (bel_al (Below.refl _ _)), cell_below HT5.out.c1 (bel_al (Below.refl _ _))⟩) ?_
      clear hK K
      try simp only [Act.put, List.setIfInBounds_toArray, List.set_cons_zero, List.set_cons_succ]
      obtain ⟨m1, m2, m3, m4, m5⟩ := HM.out (w5.alloc (.cells #[ptr D] 87)) (bel_al (Below.refl _ _))
      exact r13b u1 u2 u3 u4 u5 u6 u7 u8 u9 u10 u12 u13 u15 u16 u17 u18 u19 u20 u21 u22 u23 u24 u25 u26 u27 u28 u29 u30 u31 u32 u33 u34 u35 u36 u37 u38 u39 u40 u41 u42 u43 u44 u45 u46 u47 u48 u49 u50 u51 u52 u53 u54 u55 u56 u57 u58 u59 u60 u61 u62 h1 h2 HC0 Q HFIN g5 c5 w5.heap.size _ _ _ _ _ _ _ _ _ _ _ m1 m2 m3 (cell_top w5 (ptr D) 87 _ rfl) m4 m5
    · go_simp
      try go_wp2_with fail
      refine hK.out _ _ (fun _ => ⟨cell_below (HC0.out.two.below HB1.out).c0 (bel_al (Below.refl _ _)), cell_below (HC0.out.two.below HB1.out).c1 (bel_al (Below.refl _ _))⟩) ?_
      clear hK K
      try simp only [Act.put, List.setIfInBounds_toArray, List.set_cons_zero, List.set_cons_succ]
      change AnyK _ _ _ _ _ _ _ _ _ (W1.alloc (.cells #[ptr D] 87))
      have HB2 : Hid (Below W0.heap.size W0 (W1.alloc (.cells #[ptr D] 87))) := chain HB1.out (bel_al (Below.refl _ _))
      have HC2 := hide (cell_below HC1.out (bel_al (Below.refl _ _) : Below W1.heap.size W1 (W1.alloc (.cells #[ptr D] 87))))
      have HX2 := hide (cell_top W1 (ptr D) 87 _ rfl)
      have HS1 := hide HB1.out.size
      generalize W1.alloc (.cells #[ptr D] 87) = W2 at *
      refine anyK_one (i := 8) (o := { dst := some 71, op := Go.Op.call { callee := Go.Callee.builtin Go.Builtin.append, args := #[Go.Operand.tmp 68, Go.Operand.tmp 70], argTypes := #[25, 25] }, type := 25, pos := "law.go:184", after := #[{ on := 5, ground := Go.Ground.data }, { on := 7, ground := Go.Ground.data }], guard := none }) (by kernel_rfl) rfl (fun K hK => ?_)
      refine step_ptr 25 32 Tryd.underlying25 infoC rfl (.tmp 68) (.tmp 70) rfl (B + 1) v1 cs rfl (ownsRow_below HC0.out.r1 HB2.out) W0.heap.size C rfl HC2.out h1 (Nat.le_trans HBL0.out (Below.size HB2.out)) ?_
      intro g5 c5 w5 ho hf hq
      obtain ⟨m1, m2, m3, m4, m5⟩ := mid13 HC0.out HB2.out ho hf hq (Below.refl _ _)
      have HV5 := hide (hf.cell HX2.out (fun e => by have := (World.ownsRow.lt HC0.out.r1 _ e).2; have h8 := HS1.out; simp only at this; omega))
      refine hK.out _ _ (fun _ => ⟨m1.c0, m1.c1⟩) ?_
      clear hK K ho hf hq
      try simp only [Act.put, List.setIfInBounds_toArray, List.set_cons_zero, List.set_cons_succ]
      exact r13b u1 u2 u3 u4 u5 u6 u7 u8 u9 u10 u12 u13 u15 u16 u17 u18 u19 u20 u21 u22 u23 u24 u25 u26 u27 u28 u29 u30 u31 u32 u33 u34 u35 u36 u37 u38 u39 u40 u41 u42 u43 u44 u45 u46 u47 u48 u49 u50 u51 u52 u53 u54 u55 u56 u57 u58 u59 u60 u61 u62 h1 h2 HC0 Q HFIN g5 c5 W1.heap.size _ _ _ _ _ _ _ _ _ _ _ m1 m2 m3 HV5 m4 m5
  · go_simp
    try go_wp2_with fail
    refine hK.out _ _ (fun _ => ⟨cell_below HC0.out.two.c0 (bel_al (Below.refl _ _)), cell_below HC0.out.two.c1 (bel_al (Below.refl _ _))⟩) ?_
    clear hK K
    try simp only [Act.put, List.setIfInBounds_toArray, List.set_cons_zero, List.set_cons_succ]
    change AnyK _ _ _ _ _ _ _ _ _ (W0.alloc (.cells #[ptr D] 87))
    have HB1 : Hid (Below W0.heap.size W0 (W0.alloc (.cells #[ptr D] 87))) := bel_al (Below.refl _ _)
    have HX1 := hide (cell_top W0 (ptr D) 87 _ rfl)
    generalize W0.alloc (.cells #[ptr D] 87) = W1 at *
    refine anyK_one (i := 7) (o := { dst := some 70, op := Go.Op.buildSlice 25 1 #[(0, Go.Operand.tmp 69)], type := 25, pos := "law.go:184", after := #[{ on := 6, ground := Go.Ground.data }], guard := none }) (by kernel_rfl) rfl (fun K hK => ?_)
    go_simp
    try go_wp2_with fail
    refine hK.out _ _ (fun _ => ⟨cell_below (HC0.out.two.below HB1.out).c0 (bel_al (Below.refl _ _)), cell_below (HC0.out.two.below HB1.out).c1 (bel_al (Below.refl _ _))⟩) ?_
    clear hK K
    try simp only [Act.put, List.setIfInBounds_toArray, List.set_cons_zero, List.set_cons_succ]
    change AnyK _ _ _ _ _ _ _ _ _ (W1.alloc (.cells #[ptr C] 32))
    have HB2 : Hid (Below W0.heap.size W0 (W1.alloc (.cells #[ptr C] 32))) := chain HB1.out (bel_al (Below.refl _ _))
    have HC2 := hide (cell_top W1 (ptr C) 32 _ rfl)
    have HX2 := hide (cell_below HX1.out (bel_al (Below.refl _ _) : Below W1.heap.size W1 (W1.alloc (.cells #[ptr C] 32))))
    generalize W1.alloc (.cells #[ptr C] 32) = W2 at *
    refine anyK_one (i := 8) (o := { dst := some 71, op := Go.Op.call { callee := Go.Callee.builtin Go.Builtin.append, args := #[Go.Operand.tmp 68, Go.Operand.tmp 70], argTypes := #[25, 25] }, type := 25, pos := "law.go:184", after := #[{ on := 5, ground := Go.Ground.data }, { on := 7, ground := Go.Ground.data }], guard := none }) (by kernel_rfl) rfl (fun K hK => ?_)
    refine step_ptr 25 32 Tryd.underlying25 infoC rfl (.tmp 68) (.tmp 70) rfl (B + 1) v1 cs rfl (ownsRow_below HC0.out.r1 HB2.out) W1.heap.size C rfl HC2.out h1 (Nat.le_trans HBL0.out (Below.size HB2.out)) ?_
    intro g5 c5 w5 ho hf hq
    obtain ⟨m1, m2, m3, m4, m5⟩ := mid13 HC0.out HB2.out ho hf hq (Below.refl _ _)
    have HV5 := hide (hf.cell HX2.out (fun e => by have := (World.ownsRow.lt HC0.out.r1 _ e).2; simp only at this; omega))
    refine hK.out _ _ (fun _ => ⟨m1.c0, m1.c1⟩) ?_
    clear hK K ho hf hq
    try simp only [Act.put, List.setIfInBounds_toArray, List.set_cons_zero, List.set_cons_succ]
    exact r13b u1 u2 u3 u4 u5 u6 u7 u8 u9 u10 u12 u13 u15 u16 u17 u18 u19 u20 u21 u22 u23 u24 u25 u26 u27 u28 u29 u30 u31 u32 u33 u34 u35 u36 u37 u38 u39 u40 u41 u42 u43 u44 u45 u46 u47 u48 u49 u50 u51 u52 u53 u54 u55 u56 u57 u58 u59 u60 u61 u62 h1 h2 HC0 Q HFIN g5 c5 W0.heap.size _ _ _ _ _ _ _ _ _ _ _ m1 m2 m3 HV5 m4 m5
end Go.Proofs.YtkkogkdalcigkaaDoor
namespace Go.Proofs.YtkkogkdalcigkaaDoor
open Go.RowKit FerryCrc
set_option linter.unusedVariables false
set_option linter.unusedSimpArgs false

theorem set_old {xs : List RI} {i : Nat} {x : RI} (hx : xs[i]? = some x) {q : Nat} (j : Nat) (y : RI) (hy : (xs.set i (x.to q))[j]? = some y) : ∃ z, xs[j]? = some z ∧ z.c = y.c ∧ z.g = y.g ∧ z.d = y.d ∧ z.h = y.h := by
  by_cases e : j = i
  · subst e
    rw [List.getElem?_set_self (List.getElem?_eq_some_iff.1 hx).1] at hy
    obtain rfl := (Option.some.inj hy).symm
    exact ⟨x, hx, rfl, rfl, rfl, rfl⟩
  · rw [List.getElem?_set_ne (fun h => e h.symm)] at hy
    exact ⟨y, hy, rfl, rfl, rfl, rfl⟩
theorem Rd.body {w w6 w9 : World} {B : Nat} {v1 v2 v1' v2' : Value} {xs : List RI} {i : Nat} {x : RI} {q C D : Nat} {b : Nat × Nat} (h : Rd w B v1 v2 xs) (hx : xs[i]? = some x) (h6 : Rd w6 B v1 v2 (xs.set i (x.to q))) (hC : w.heap.size ≤ C) (hD : w.heap.size ≤ D) (hCD : C ≠ D)
    (hcur : Cur w6 C x.g x.len b.1 b.2 x.L) (hdoc : Doc w6 D x.h x.len x.cap b.1 b.2 x.L) (hc : Csr w9 B v1' v2' ((xs.set i (x.to q)).map RI.c ++ [C]) ((xs.set i (x.to q)).map RI.d ++ [D]))
    (hf : Frm (fun k => k = B ∨ v1.ownBlock = some k ∨ v2.ownBlock = some k) w6 w9) (n1 : ∀ k, v1'.ownBlock = some k → v1.ownBlock = some k ∨ w6.heap.size ≤ k) (n2 : ∀ k, v2'.ownBlock = some k → v2.ownBlock = some k ∨ w6.heap.size ≤ k) :
    Rd w9 B v1' v2' (xs.set i (x.to q) ++ [⟨C, x.g, x.len, b.1, b.2, x.L, D, x.h, x.cap⟩]) := by
  have hB : B < w.heap.size := block_lt_of_cell h.csr.two.c0
  have o1 : ∀ k, v1.ownBlock = some k → k < w.heap.size := fun k hk => (World.ownsRow.lt h.csr.r1 k hk).2
  have o2 : ∀ k, v2.ownBlock = some k → k < w.heap.size := fun k hk => (World.ownsRow.lt h.csr.r2 k hk).2
  have fg := h.far i x x.g hx (.inr (.inr (.inl rfl)))
  have fh := h.far i x x.h hx (.inr (.inr (.inr rfl)))
  have hcl := hcur.lt
  have hdl := hdoc.lt
  have hs6 : w.heap.size ≤ w6.heap.size := by omega
  have nw : ∀ k, w.heap.size ≤ k → ¬ (k = B ∨ v1.ownBlock = some k ∨ v2.ownBlock = some k) := fun k hk e => by
    rcases e with e | e | e
    · omega
    · have := o1 k e; omega
    · have := o2 k e; omega
  have ng : ¬ (x.g = B ∨ v1.ownBlock = some x.g ∨ v2.ownBlock = some x.g) := fun e => by
    rcases e with e | e | e
    · omega
    · exact fg.2.2.1 e
    · exact fg.2.2.2 e
  have nh : ¬ (x.h = B ∨ v1.ownBlock = some x.h ∨ v2.ownBlock = some x.h) := fun e => by
    rcases e with e | e | e
    · omega
    · exact fh.2.2.1 e
    · exact fh.2.2.2 e
  refine h6.more (x := ⟨C, x.g, x.len, b.1, b.2, x.L, D, x.h, x.cap⟩) hc ⟨hcur.frm hf (nw C hC) ng, hdoc.frm hf (nw D hD) nh, (h.is i x hx).sm⟩ ?_ hCD ?_ ?_ ?_ ⟨by show x.g ≠ C; omega, by show x.g ≠ D; omega, by show x.h ≠ C; omega, by show x.h ≠ D; omega⟩ hf n1 n2
  · have s9 := hf.size
    have key : ∀ k, B < k → k < w6.heap.size → ¬ (k = B ∨ v1.ownBlock = some k ∨ v2.ownBlock = some k) → B < k ∧ k < w9.heap.size ∧ v1'.ownBlock ≠ some k ∧ v2'.ownBlock ≠ some k := fun k a b c => ⟨a, by omega, fun e => by
      rcases n1 k e with e | e
      · exact c (.inr (.inl e))
      · omega, fun e => by
      rcases n2 k e with e | e
      · exact c (.inr (.inr e))
      · omega⟩
    intro k hk
    rcases hk with hk | hk | hk | hk
    · have hk : k = C := hk
      subst hk
      exact key k (by omega) hcl (nw k hC)
    · have hk : k = D := hk
      subst hk
      exact key k (by omega) hdl (nw k hD)
    · have hk : k = x.g := hk
      subst hk
      exact key _ fg.1 (by omega) ng
    · have hk : k = x.h := hk
      subst hk
      exact key _ fh.1 (by omega) nh
  · intro j y hy
    obtain ⟨z, hz, e1, e2, e3, e4⟩ := set_old hx j y hy
    have a1 := (h.far j z z.c hz (.inl rfl)).2.1
    have a2 := (h.far j z z.d hz (.inr (.inl rfl))).2.1
    exact ⟨by show C ≠ y.c; omega, by show C ≠ y.d; omega, by show D ≠ y.c; omega, by show D ≠ y.d; omega⟩
  · intro j y hy
    obtain ⟨z, hz, e1, e2, e3, e4⟩ := set_old hx j y hy
    have := h.still i j x z hx hz
    rw [e1, e3] at this
    exact this
  · intro j y hy
    obtain ⟨z, hz, e1, e2, e3, e4⟩ := set_old hx j y hy
    have a1 := (h.far j z z.g hz (.inr (.inr (.inl rfl)))).2.1
    have a2 := (h.far j z z.h hz (.inr (.inr (.inr rfl)))).2.1
    exact ⟨by show y.g ≠ C; omega, by show y.g ≠ D; omega, by show y.h ≠ C; omega, by show y.h ≠ D; omega⟩

/-- What a call of the law on its cursors leaves. -/
def Went (w0 : World) (B n : Nat) (e : Ending) (w' : World) : Prop :=
  e = .returned (.bool true) ∧ ∃ v1 v2 xs, Rd w' B v1 v2 xs ∧ xs.length ≤ n + 1 ∧ Below w0.heap.size w0 w'

set_option maxRecDepth 100000 in
set_option maxHeartbeats 4000000 in
theorem record_next {E : Nat → Addr} (w0 : World) (B : Nat) (v1 v2 : Value) (xs : List RI) (i : Nat) (x : RI) (sec : Bool) (cur n lo hi : Int) (S : ByteArray) (w : World) (hr : Rd w B v1 v2 xs) (hx : xs[i]? = some x) (he : Errs w0 E) (hb0 : Below w0.heap.size w0 w) (hB0 : w0.heap.size ≤ B) (hl : xs.length + 1 ≤ 17592186044416) :
    Calls Tryd.prog 77 #[.pointer (some ⟨B, 0, none⟩), .pointer (some ⟨x.c, 0, none⟩), .pointer (some ⟨x.d, 0, none⟩), .agg #[.int .i64 19, .bool sec, .int .i64 cur, .int .i64 n, .int .i64 lo, .int .i64 hi, .string S]] w fun e w' => Went w0 B xs.length e w' := by
  have HR := hide hr
  have HX := hide hx
  have fc := hr.far i x x.c hx (.inl rfl)
  have fd := hr.far i x x.d hx (.inr (.inl rfl))
  have fh := hr.far i x x.h hx (.inr (.inr (.inr rfl)))
  have hcd := hr.own i x hx
  obtain ⟨hgc, hgd, hhc, hhd⟩ := hr.still i i x x hx hx
  have hk := (hr.is i x hx).cur
  have hd := (hr.is i x hx).doc
  have HEW : Hid (∀ W, Frm (fun k => k = x.c ∨ k = x.d) w W → Errs W E ∧ Below w0.heap.size w0 W) := fun W hf => by
    have := hb0.trans (hf.below hb0.size (fun k e => by rcases e with e | e <;> omega))
    exact ⟨he.below this, this⟩
  have HBV : Hid (w0.heap.size ≤ B ∧ (∀ k, v1.ownBlock = some k → w0.heap.size ≤ k) ∧ (∀ k, v2.ownBlock = some k → w0.heap.size ≤ k)) := ⟨hB0, fun k hk => by have := (World.ownsRow.lt hr.csr.r1 k hk).1; omega, fun k hk => by have := (World.ownsRow.lt hr.csr.r2 k hk).1; omega⟩
  have HIS : Hid (∀ (q : Nat) W, Frm (fun k => k = x.c ∨ k = x.d) w W → Cur W x.c x.g x.len q x.bd x.L → Doc W x.d x.h x.len x.cap q x.bd x.L → Rd W B v1 v2 (xs.set i (x.to q))) := fun q W hf a b => hr.step hx hf ⟨a, b, (hr.is i x hx).sm⟩
  have HLX : Hid (∀ q, ((xs.set i (x.to q)).map RI.c).length + 1 ≤ 17592186044416 ∧ ((xs.set i (x.to q)).map RI.d).length + 1 ≤ 17592186044416 ∧ (xs.set i (x.to q)).length = xs.length) := fun q => by
    rw [List.length_map, List.length_map, List.length_set]
    exact ⟨hl, hl, rfl⟩
  have HK := hide hk
  have HD := hide hd
  have hcl : x.c < w.heap.size := hk.lt
  have hdl : x.d < w.heap.size := hd.lt
  have hhl : x.h < w.heap.size := hd.ne.2
  have HA : Hid (Below w.heap.size w (w.alloc (.cells #[.int .i64 19, .bool sec, .int .i64 cur, .int .i64 n, .int .i64 lo, .int .i64 hi, .string S] 30))) := (Below.refl _ _).alloc (Nat.le_refl _) _
  obtain ⟨t, k, q, p', bo, hq1, hq2, hpc, hdc⟩ := both_next E x.L x.len x.p x.bd hk.le (by rw [hk.bts.size]; exact hk.most)
  have HPC := hide hpc
  have HDC := hide hdc
  have z0 : (w.alloc (.cells #[.int .i64 19, .bool sec, .int .i64 cur, .int .i64 n, .int .i64 lo, .int .i64 hi, .string S] 30)).cell? ⟨w.heap.size, 0, none⟩ = some (.int .i64 19) := (World.cell?_alloc_at _ _ _ _ rfl).trans rfl
  have z3 : (w.alloc (.cells #[.int .i64 19, .bool sec, .int .i64 cur, .int .i64 n, .int .i64 lo, .int .i64 hi, .string S] 30)).cell? ⟨w.heap.size, 3, none⟩ = some (.int .i64 n) := (World.cell?_alloc_at _ _ _ _ rfl).trans rfl
  have HZ1 : Hid (w.heap.size < (w.alloc (.cells #[.int .i64 19, .bool sec, .int .i64 cur, .int .i64 n, .int .i64 lo, .int .i64 hi, .string S] 30)).heap.size) := by unfold Hid; simp
  clear hpc hdc hk hd he hr hx hb0 hB0 hl fc fd fh
  obtain ⟨c, g, len, p, bd, L, d, h, cap⟩ := x
  simp only at HEW HIS HPC HDC HK HD hcd hgc hgd hhc hhd hcl hdl hhl
  go_enter Tryd.func77, Tryd.ntmps77
  go_wp2_with fail
  generalize (w.alloc (.cells #[.int .i64 19, .bool sec, .int .i64 cur, .int .i64 n, .int .i64 lo, .int .i64 hi, .string S] 30)) = W0 at *
  refine Calls.mono (rnone_any W0) ?_
  rintro e w1 ⟨rfl, hb1⟩
  have HB1 := hide (chain HA.out hb1)
  have HZ2 : Hid (w.heap.size < w1.heap.size) := Nat.lt_of_lt_of_le HZ1.out hb1.size
  have y0 := cell_below z0 hb1
  have y3 := cell_below z3 hb1
  clear hb1 z0 z3
  have HB2 : Hid (Below w1.heap.size w1 (w1.alloc (.cells #[.int .i64 0, .int .i64 (-1)] 67))) := (Below.refl _ _).alloc (Nat.le_refl _) _
  have HT2 := hide (two_alloc w1 (.int .i64 0) (.int .i64 (-1)) 67)
  have HB3 := hide (chain HB1.out HB2.out)
  have HZ3 : Hid (w1.heap.size < (w1.alloc (.cells #[.int .i64 0, .int .i64 (-1)] 67)).heap.size) := by unfold Hid; simp
  have u0 := cell_below y0 HB2.out
  have u3 := cell_below y3 HB2.out
  clear y0 y3
  unfold rerr
  go_wp2_with fail
  generalize w1.alloc (.cells #[.int .i64 0, .int .i64 (-1)] 67) = W2 at *
  refine Calls.mono (HDC.out d h cap W2 (HD.out.below HB3.out)) ?_
  rintro e w3 ⟨dv, ⟨rfl, h1, h2⟩, hbo⟩
  have HF3 := hide ((Frm.ofBelow (S := fun j => j = d) HB3.out).trans h2 (fun j _ t => t))
  have HT3 := hide (HT2.out.frm h2 (by show ¬ w1.heap.size = d; have := HZ2.out; omega))
  have H3 := hide h1
  have HBO3 := hide hbo
  have y3 := h2.cell u3 (by show ¬ w.heap.size = d; omega)
  have t0 := HT3.out.c0
  have t1 := HT3.out.c1
  have f0 := HT3.out.f0
  have f1 := HT3.out.f1
  have HS23 := hide h2.size
  clear h1 h2 hbo u0 u3
  unfold rerr
  go_wp2_with fail
  have HT4 := hide (HT3.out.set (.int .i64 (k : Int)) (.int .i64 q))
  have HF4 := hide (frm_two (u := .int .i64 (k : Int)) (v := .int .i64 q) HF3.out (b := w1.heap.size) (by have := HZ2.out; omega))
  have HD4 := hide (H3.out.two (b := w1.heap.size) (u := .int .i64 (k : Int)) (v := .int .i64 q) (by have := HZ2.out; omega) (by have := HZ2.out; omega))
  have HBO4 : Hid (match bo with | none => dv = .pointer none | some b => ∃ D, dv = .pointer (some ⟨D, 0, none⟩) ∧ w.heap.size ≤ D ∧ D < w3.heap.size ∧ Doc ((w3.setCell ⟨w1.heap.size, 0, none⟩ (.int .i64 (k : Int))).setCell ⟨w1.heap.size, 1, none⟩ (.int .i64 q)) D h len cap b.1 b.2 L) := by
    have hbo := HBO3.out
    match bo, hbo with
    | none, hbo => exact hbo
    | some b, ⟨D, e1, e2, e3⟩ => exact ⟨D, e1, by have := HZ2.out; have := HZ3.out; omega, e3.lt, e3.two (by have := HZ3.out; omega) (by have := HZ2.out; omega)⟩
  have HS34 : Hid (w3.heap.size ≤ ((w3.setCell ⟨w1.heap.size, 0, none⟩ (.int .i64 (k : Int))).setCell ⟨w1.heap.size, 1, none⟩ (.int .i64 q)).heap.size) := by unfold Hid; simp [World.setCell]
  clear t0 t1 f0 f1
  generalize (w3.setCell ⟨w1.heap.size, 0, none⟩ (.int .i64 (k : Int))).setCell ⟨w1.heap.size, 1, none⟩ (.int .i64 q) = W4 at *
  have HK4 := hide (HK.out.frm HF4.out hcd hgd)
  have HF4' := hide (HF4.out.mono (T := fun j => j = c ∨ j = d) (fun j _ t => Or.inr t))
  refine Calls.mono (HPC.out c g W4 HK4.out (HEW.out W4 HF4'.out).1) ?_
  rintro e w5 ⟨pv, ev, rfl, h1, h2, h3, hbo5⟩
  have HI5 := hide h1
  have HK5 := hide h2
  have HD5 := hide (HD4.out.frm h3 (fun e => hcd e.symm) hhc)
  have HF5 := hide (HF4'.out.trans h3 (fun j _ t => Or.inl t))
  have HT5 := hide (HT4.out.frm h3 (by show ¬ w1.heap.size = c; have := HZ2.out; omega))
  have HBO5 := hide hbo5
  have H45 := hide h3
  have t0 := HT5.out.c0
  have t1 := HT5.out.c1
  clear h1 h2 h3 hbo5 y3
  cases bo with
  | none =>
    have e1 : dv = .pointer none := HBO4.out
    have e2 : pv = .pointer none := HBO5.out
    subst e1
    subst e2
    go_wp2_with fail
    refine Calls.mono (same_yes ev k q w5 (HEW.out w5 HF5.out).1 HI5.out) ?_
    rintro e w6 ⟨rfl, hb6⟩
    have HB6 := hide hb6
    clear hb6
    go_wp2
    go_ret
    have HF6 := HF5.out.trans (Frm.ofBelow (S := fun _ => False) HB6.out) (fun j _ t => t.elim)
    exact ⟨rfl, v1, v2, _, HIS.out p' w6 HF6 (HK5.out.below HB6.out) (HD5.out.below HB6.out), by rw [(HLX.out p').2.2]; omega, (HEW.out w6 HF6).2⟩
  | some b =>
    obtain ⟨D, e1, hD1, hD2, hD3⟩ := HBO4.out
    obtain ⟨C, e2, hC1, hC2⟩ := HBO5.out
    subst e1
    subst e2
    have HDD := hide (hD3.frm H45.out (by show ¬ D = c; omega) hhc)
    have HCC := hide hC2
    have HCD : Hid (w.heap.size ≤ C ∧ w.heap.size ≤ D ∧ C ≠ D) := ⟨by have := HS34.out; have := HS23.out; have := HZ3.out; have := HZ2.out; omega, hD1, by have := HS34.out; omega⟩
    clear hD1 hD2 hD3 hC1 hC2
    go_wp2_with fail
    refine Calls.mono (same_yes ev k q w5 (HEW.out w5 HF5.out).1 HI5.out) ?_
    rintro e w6 ⟨rfl, hb6⟩
    have HB6 := hide hb6
    clear hb6 t0 t1
    have HF6 := hide (HF5.out.trans (Frm.ofBelow (S := fun _ => False) HB6.out) (fun j _ t => t.elim))
    have HR6 := hide (HIS.out p' w6 HF6.out (HK5.out.below HB6.out) (HD5.out.below HB6.out))
    have HCS6 := hide HR6.out.csr
    have HDD6 := hide (HDD.out.below HB6.out)
    have HCC6 := hide (HCC.out.below HB6.out)
    go_wp2_with fail
    refine wp_onlyN ?_
    refine r13 _ _ _ _ _ _ _ _ _ _ _ _ _ _ _ _ _ _ _ _ _ _ _ _ _ _ _ _ _ _ _ _ _ _ _ _ _ _ _ _ _ _ _ _ _ _ _ _ _ _ _ _ _ _ _ _ _ _ _ _ (HLX.out p').1 (HLX.out p').2.1 HCS6 _ ?hf
    case hf =>
    unfold Hid
    intro y63 y64 y65 y66 y67 y68 y69 y70 y71 y72 y73 y74 y75 y76 y77 y78 y79 y80 y81 y82 w9 hfin
    have HFIN := hide hfin
    clear hfin
    go_wp2
    go_ret
    obtain ⟨v1', v2', q1, q2, q3, q4⟩ := HFIN.out
    refine ⟨rfl, v1', v2', _, HR.out.body HX.out HR6.out HCD.out.1 HCD.out.2.1 HCD.out.2.2 HCC6.out HDD6.out q1 q2 q3 q4, by rw [List.length_append, (HLX.out p').2.2]; exact Nat.le_refl _, ?_⟩
    have hb := (HEW.out w6 HF6.out).2
    exact hb.trans (q2.below hb.size (fun k e => by
      rcases e with e | e | e
      · have := HBV.out.1; omega
      · exact HBV.out.2.1 k e
      · exact HBV.out.2.2 k e))

set_option maxRecDepth 100000 in
set_option maxHeartbeats 4000000 in
theorem record_tag {E : Nat → Addr} (w0 : World) (B : Nat) (v1 v2 : Value) (xs : List RI) (i : Nat) (x : RI) (sec : Bool) (cur n lo hi : Int) (S : ByteArray) (w : World) (hr : Rd w B v1 v2 xs) (hx : xs[i]? = some x) (he : Errs w0 E) (hb0 : Below w0.heap.size w0 w) (hB0 : w0.heap.size ≤ B) (hl : xs.length + 1 ≤ 17592186044416) :
    Calls Tryd.prog 77 #[.pointer (some ⟨B, 0, none⟩), .pointer (some ⟨x.c, 0, none⟩), .pointer (some ⟨x.d, 0, none⟩), .agg #[.int .i64 20, .bool sec, .int .i64 cur, .int .i64 n, .int .i64 lo, .int .i64 hi, .string S]] w fun e w' => Went w0 B xs.length e w' := by
  have HR := hide hr
  have HX := hide hx
  have fc := hr.far i x x.c hx (.inl rfl)
  have fd := hr.far i x x.d hx (.inr (.inl rfl))
  have fh := hr.far i x x.h hx (.inr (.inr (.inr rfl)))
  have hcd := hr.own i x hx
  obtain ⟨hgc, hgd, hhc, hhd⟩ := hr.still i i x x hx hx
  have hk := (hr.is i x hx).cur
  have hd := (hr.is i x hx).doc
  have HEW : Hid (∀ W, Frm (fun k => k = x.c ∨ k = x.d) w W → Errs W E ∧ Below w0.heap.size w0 W) := fun W hf => by
    have := hb0.trans (hf.below hb0.size (fun k e => by rcases e with e | e <;> omega))
    exact ⟨he.below this, this⟩
  have HBV : Hid (w0.heap.size ≤ B ∧ (∀ k, v1.ownBlock = some k → w0.heap.size ≤ k) ∧ (∀ k, v2.ownBlock = some k → w0.heap.size ≤ k)) := ⟨hB0, fun k hk => by have := (World.ownsRow.lt hr.csr.r1 k hk).1; omega, fun k hk => by have := (World.ownsRow.lt hr.csr.r2 k hk).1; omega⟩
  have HIS : Hid (∀ (q : Nat) W, Frm (fun k => k = x.c ∨ k = x.d) w W → Cur W x.c x.g x.len q x.bd x.L → Doc W x.d x.h x.len x.cap q x.bd x.L → Rd W B v1 v2 (xs.set i (x.to q))) := fun q W hf a b => hr.step hx hf ⟨a, b, (hr.is i x hx).sm⟩
  have HLX : Hid (∀ q, ((xs.set i (x.to q)).map RI.c).length + 1 ≤ 17592186044416 ∧ ((xs.set i (x.to q)).map RI.d).length + 1 ≤ 17592186044416 ∧ (xs.set i (x.to q)).length = xs.length) := fun q => by
    rw [List.length_map, List.length_map, List.length_set]
    exact ⟨hl, hl, rfl⟩
  have HK := hide hk
  have HD := hide hd
  have hcl : x.c < w.heap.size := hk.lt
  have hdl : x.d < w.heap.size := hd.lt
  have hhl : x.h < w.heap.size := hd.ne.2
  have HA : Hid (Below w.heap.size w (w.alloc (.cells #[.int .i64 20, .bool sec, .int .i64 cur, .int .i64 n, .int .i64 lo, .int .i64 hi, .string S] 30))) := (Below.refl _ _).alloc (Nat.le_refl _) _
  obtain ⟨k, q, p', bo, hq1, hq2, hpc, hdc⟩ := both_record E x.L x.len x.p x.bd n hk.le (by rw [hk.bts.size]; exact hk.most)
  have HPC := hide hpc
  have HDC := hide hdc
  have z0 : (w.alloc (.cells #[.int .i64 20, .bool sec, .int .i64 cur, .int .i64 n, .int .i64 lo, .int .i64 hi, .string S] 30)).cell? ⟨w.heap.size, 0, none⟩ = some (.int .i64 20) := (World.cell?_alloc_at _ _ _ _ rfl).trans rfl
  have z3 : (w.alloc (.cells #[.int .i64 20, .bool sec, .int .i64 cur, .int .i64 n, .int .i64 lo, .int .i64 hi, .string S] 30)).cell? ⟨w.heap.size, 3, none⟩ = some (.int .i64 n) := (World.cell?_alloc_at _ _ _ _ rfl).trans rfl
  have HZ1 : Hid (w.heap.size < (w.alloc (.cells #[.int .i64 20, .bool sec, .int .i64 cur, .int .i64 n, .int .i64 lo, .int .i64 hi, .string S] 30)).heap.size) := by unfold Hid; simp
  clear hpc hdc hk hd he hr hx hb0 hB0 hl fc fd fh
  obtain ⟨c, g, len, p, bd, L, d, h, cap⟩ := x
  simp only at HEW HIS HPC HDC HK HD hcd hgc hgd hhc hhd hcl hdl hhl
  go_enter Tryd.func77, Tryd.ntmps77
  go_wp2_with fail
  generalize (w.alloc (.cells #[.int .i64 20, .bool sec, .int .i64 cur, .int .i64 n, .int .i64 lo, .int .i64 hi, .string S] 30)) = W0 at *
  refine Calls.mono (rnone_any W0) ?_
  rintro e w1 ⟨rfl, hb1⟩
  have HB1 := hide (chain HA.out hb1)
  have HZ2 : Hid (w.heap.size < w1.heap.size) := Nat.lt_of_lt_of_le HZ1.out hb1.size
  have y0 := cell_below z0 hb1
  have y3 := cell_below z3 hb1
  clear hb1 z0 z3
  have HB2 : Hid (Below w1.heap.size w1 (w1.alloc (.cells #[.int .i64 0, .int .i64 (-1)] 67))) := (Below.refl _ _).alloc (Nat.le_refl _) _
  have HT2 := hide (two_alloc w1 (.int .i64 0) (.int .i64 (-1)) 67)
  have HB3 := hide (chain HB1.out HB2.out)
  have HZ3 : Hid (w1.heap.size < (w1.alloc (.cells #[.int .i64 0, .int .i64 (-1)] 67)).heap.size) := by unfold Hid; simp
  have u0 := cell_below y0 HB2.out
  have u3 := cell_below y3 HB2.out
  clear y0 y3
  unfold rerr
  go_wp2_with fail
  generalize w1.alloc (.cells #[.int .i64 0, .int .i64 (-1)] 67) = W2 at *
  refine Calls.mono (HDC.out d h cap W2 (HD.out.below HB3.out)) ?_
  rintro e w3 ⟨dv, ⟨rfl, h1, h2⟩, hbo⟩
  have HF3 := hide ((Frm.ofBelow (S := fun j => j = d) HB3.out).trans h2 (fun j _ t => t))
  have HT3 := hide (HT2.out.frm h2 (by show ¬ w1.heap.size = d; have := HZ2.out; omega))
  have H3 := hide h1
  have HBO3 := hide hbo
  have y3 := h2.cell u3 (by show ¬ w.heap.size = d; omega)
  have t0 := HT3.out.c0
  have t1 := HT3.out.c1
  have f0 := HT3.out.f0
  have f1 := HT3.out.f1
  have HS23 := hide h2.size
  clear h1 h2 hbo u0 u3
  unfold rerr
  go_wp2_with fail
  have HT4 := hide (HT3.out.set (.int .i64 (k : Int)) (.int .i64 q))
  have HF4 := hide (frm_two (u := .int .i64 (k : Int)) (v := .int .i64 q) HF3.out (b := w1.heap.size) (by have := HZ2.out; omega))
  have HD4 := hide (H3.out.two (b := w1.heap.size) (u := .int .i64 (k : Int)) (v := .int .i64 q) (by have := HZ2.out; omega) (by have := HZ2.out; omega))
  have HBO4 : Hid (match bo with | none => dv = .pointer none | some b => ∃ D, dv = .pointer (some ⟨D, 0, none⟩) ∧ w.heap.size ≤ D ∧ D < w3.heap.size ∧ Doc ((w3.setCell ⟨w1.heap.size, 0, none⟩ (.int .i64 (k : Int))).setCell ⟨w1.heap.size, 1, none⟩ (.int .i64 q)) D h len cap b.1 b.2 L) := by
    have hbo := HBO3.out
    match bo, hbo with
    | none, hbo => exact hbo
    | some b, ⟨D, e1, e2, e3⟩ => exact ⟨D, e1, by have := HZ2.out; have := HZ3.out; omega, e3.lt, e3.two (by have := HZ3.out; omega) (by have := HZ2.out; omega)⟩
  have HS34 : Hid (w3.heap.size ≤ ((w3.setCell ⟨w1.heap.size, 0, none⟩ (.int .i64 (k : Int))).setCell ⟨w1.heap.size, 1, none⟩ (.int .i64 q)).heap.size) := by unfold Hid; simp [World.setCell]
  clear t0 t1 f0 f1
  generalize (w3.setCell ⟨w1.heap.size, 0, none⟩ (.int .i64 (k : Int))).setCell ⟨w1.heap.size, 1, none⟩ (.int .i64 q) = W4 at *
  have HK4 := hide (HK.out.frm HF4.out hcd hgd)
  have HF4' := hide (HF4.out.mono (T := fun j => j = c ∨ j = d) (fun j _ t => Or.inr t))
  refine Calls.mono (HPC.out c g W4 HK4.out (HEW.out W4 HF4'.out).1) ?_
  rintro e w5 ⟨pv, ev, rfl, h1, h2, h3, hbo5⟩
  have HI5 := hide h1
  have HK5 := hide h2
  have HD5 := hide (HD4.out.frm h3 (fun e => hcd e.symm) hhc)
  have HF5 := hide (HF4'.out.trans h3 (fun j _ t => Or.inl t))
  have HT5 := hide (HT4.out.frm h3 (by show ¬ w1.heap.size = c; have := HZ2.out; omega))
  have HBO5 := hide hbo5
  have H45 := hide h3
  have t0 := HT5.out.c0
  have t1 := HT5.out.c1
  clear h1 h2 h3 hbo5 y3
  cases bo with
  | none =>
    have e1 : dv = .pointer none := HBO4.out
    have e2 : pv = .pointer none := HBO5.out
    subst e1
    subst e2
    go_wp2_with fail
    refine Calls.mono (same_yes ev k q w5 (HEW.out w5 HF5.out).1 HI5.out) ?_
    rintro e w6 ⟨rfl, hb6⟩
    have HB6 := hide hb6
    clear hb6
    go_wp2
    go_ret
    have HF6 := HF5.out.trans (Frm.ofBelow (S := fun _ => False) HB6.out) (fun j _ t => t.elim)
    exact ⟨rfl, v1, v2, _, HIS.out p' w6 HF6 (HK5.out.below HB6.out) (HD5.out.below HB6.out), by rw [(HLX.out p').2.2]; omega, (HEW.out w6 HF6).2⟩
  | some b =>
    obtain ⟨D, e1, hD1, hD2, hD3⟩ := HBO4.out
    obtain ⟨C, e2, hC1, hC2⟩ := HBO5.out
    subst e1
    subst e2
    have HDD := hide (hD3.frm H45.out (by show ¬ D = c; omega) hhc)
    have HCC := hide hC2
    have HCD : Hid (w.heap.size ≤ C ∧ w.heap.size ≤ D ∧ C ≠ D) := ⟨by have := HS34.out; have := HS23.out; have := HZ3.out; have := HZ2.out; omega, hD1, by have := HS34.out; omega⟩
    clear hD1 hD2 hD3 hC1 hC2
    go_wp2_with fail
    refine Calls.mono (same_yes ev k q w5 (HEW.out w5 HF5.out).1 HI5.out) ?_
    rintro e w6 ⟨rfl, hb6⟩
    have HB6 := hide hb6
    clear hb6 t0 t1
    have HF6 := hide (HF5.out.trans (Frm.ofBelow (S := fun _ => False) HB6.out) (fun j _ t => t.elim))
    have HR6 := hide (HIS.out p' w6 HF6.out (HK5.out.below HB6.out) (HD5.out.below HB6.out))
    have HCS6 := hide HR6.out.csr
    have HDD6 := hide (HDD.out.below HB6.out)
    have HCC6 := hide (HCC.out.below HB6.out)
    go_wp2_with fail
    refine wp_onlyN ?_
    refine r13 _ _ _ _ _ _ _ _ _ _ _ _ _ _ _ _ _ _ _ _ _ _ _ _ _ _ _ _ _ _ _ _ _ _ _ _ _ _ _ _ _ _ _ _ _ _ _ _ _ _ _ _ _ _ _ _ _ _ _ _ (HLX.out p').1 (HLX.out p').2.1 HCS6 _ ?hf
    case hf =>
    unfold Hid
    intro y63 y64 y65 y66 y67 y68 y69 y70 y71 y72 y73 y74 y75 y76 y77 y78 y79 y80 y81 y82 w9 hfin
    have HFIN := hide hfin
    clear hfin
    go_wp2
    go_ret
    obtain ⟨v1', v2', q1, q2, q3, q4⟩ := HFIN.out
    refine ⟨rfl, v1', v2', _, HR.out.body HX.out HR6.out HCD.out.1 HCD.out.2.1 HCD.out.2.2 HCC6.out HDD6.out q1 q2 q3 q4, by rw [List.length_append, (HLX.out p').2.2]; exact Nat.le_refl _, ?_⟩
    have hb := (HEW.out w6 HF6.out).2
    exact hb.trans (q2.below hb.size (fun k e => by
      rcases e with e | e | e
      · have := HBV.out.1; omega
      · exact HBV.out.2.1 k e
      · exact HBV.out.2.2 k e))
end Go.Proofs.YtkkogkdalcigkaaDoor
namespace Go.Proofs.YtkkogkdalcigkaaDoor
open Go.RowKit FerryCrc
set_option linter.unusedVariables false
set_option linter.unusedSimpArgs false

/-- append to a list that was made empty: it lies somewhere, also if nothing came. -/
theorem append_some {w : World} {ops : Array Oper} {rest : List Oper} {o : Oper} {act : Act} {Q : Exit → Act → World → Prop} (hgd : o.guard = none) (s x : Operand)
    (ho : o.op = .call { callee := .builtin .append, args := #[s, x], argTypes := #[41, 41] })
    (hs : act.eval s = .slice (some ⟨w.heap.size, 0, none⟩) 0 0)
    (a : Option Addr) (m c : Nat) (l : List Nat) (hx : act.eval x = .slice a m c) (hb : Bts w a m c l)
    (h : ∀ g1 c1 w', w.heap.size ≤ g1 → g1 < w'.heap.size → Bts w' (some ⟨g1, 0, none⟩) m c1 l → Below w.heap.size w w' → wpList Tryd.prog ops Q rest (act.put o.dst (.slice (some ⟨g1, 0, none⟩) m c1)) w') : wpList Tryd.prog ops Q (o :: rest) act (w.alloc (.cells #[] 5)) := by
  have hb0 : Below w.heap.size w (w.alloc (.cells #[] 5)) := (Below.refl _ _).alloc (Nat.le_refl _) _
  by_cases hm : m = 0
  · subst hm
    obtain ⟨i0, hi, hz0, hz1, hz2⟩ := info_parts info8
    refine wpList_append_empty hgd s x 41 ho 5 i0 Tryd.underlying41 hi (some ⟨w.heap.size, 0, none⟩) a 0 0 c (Nat.le_refl _) hs hx ?_
    obtain rfl : l = [] := List.length_eq_zero_iff.1 hb.size
    exact h w.heap.size 0 _ (Nat.le_refl _) (by simp) ⟨rfl, by decide, by decide, fun c hc => by simp at hc, fun e => by simp at e, fun k hk => by omega⟩ hb0
  · refine append_lie hgd s x ho w.heap.size _ [] hs (own_empty w) a m c l hx (hb.below hb0) (by simp; exact hb.most) hb0.size ?_
    intro v' w' h1 h2 h3
    rw [List.nil_append] at h1
    obtain ⟨g1, c1, rfl, hg, hc⟩ := own_some h1 hb.size (by omega)
    exact h g1 c1 w' hg (World.ownsRow.lt h1 _ rfl).2 (h1.bts hb.size hb.most hb.small) (hb0.trans (h2.below hb0.size (fun k hk => by
      simp only [Value.ownBlock, Option.some.injEq] at hk
      omega)))

set_option maxRecDepth 100000 in
theorem refOpen_doc (a : Option Addr) (len cap : Nat) (l : List Nat) (w : World) (hs : Bts w a len cap l) :
    Calls Tryd.prog 46 #[.slice a len cap] w fun e w' => ∃ D H cp, w.heap.size ≤ D ∧ w.heap.size ≤ H ∧ e = .returned (.pointer (some ⟨D, 0, none⟩)) ∧ Doc w' D H len cp 0 len l ∧ Below w.heap.size w w' := by
  have HS := hide hs
  clear hs
  go_enter Tryd.func46, Tryd.ntmps46
  go_wp2_with (refine append_some rfl (.tmp 3) (.tmp 4) rfl rfl a len cap l rfl HS.out ?_; intro g3 c3 w3 hg3 hl3 hx hb; have HB := hide hb; have HX := hide hx; have HG := hide hg3; have HL := hide hl3; clear hx hb hg3 hl3)
  go_ret
  refine ⟨w3.heap.size, g3, c3, HB.out.size, HG.out, rfl, ⟨by rw [World.cell?_alloc_at _ _ _ _ rfl]; rfl, by rw [World.cell?_alloc_at _ _ _ _ rfl]; rfl, by rw [World.cell?_alloc_at _ _ _ _ rfl]; rfl, World.frozen?_alloc_new _ _ _ _, HX.out.below ((Below.refl _ _).alloc (Nat.le_refl _) _), ⟨by have := HL.out; omega, Nat.lt_of_lt_of_le HL.out ((Below.refl _ _).alloc (Nat.le_refl _) _).size⟩, Nat.zero_le _, Nat.le_refl _⟩, HB.out.alloc HB.out.size _⟩

/-- The operations of that statement. -/
def ops9d : Array Oper := #[{ dst := some 49, op := Go.Op.move (Go.Operand.tmp 0), type := 24, pos := "law.go:163", after := #[], guard := none },
    { dst := some 50, op := Go.Op.move (Go.Operand.tmp 0), type := 24, pos := "law.go:163", after := #[{ on := 20, ground := Go.Ground.gcOnly Go.Departure.lateStores }], guard := none },
    { dst := some 51, op := Go.Op.move (Go.Operand.tmp 0), type := 24, pos := "law.go:163", after := #[], guard := none },
    { dst := some 52, op := Go.Op.nilCheck (Go.Operand.tmp 51), type := 0, pos := "law.go:163", after := #[{ on := 2, ground := Go.Ground.data }], guard := none },
    { dst := some 53, op := Go.Op.fieldAddr 28 (Go.Operand.tmp 52) 0, type := 0, pos := "law.go:163", after := #[{ on := 3, ground := Go.Ground.data }], guard := none },
    { dst := some 54, op := Go.Op.load 25 (Go.Operand.tmp 53), type := 25, pos := "law.go:163", after := #[{ on := 4, ground := Go.Ground.data }], guard := none },
    { dst := some 55, op := Go.Op.move (Go.Operand.tmp 6), type := 32, pos := "law.go:163", after := #[], guard := none },
    { dst := some 56, op := Go.Op.buildSlice 25 1 #[(0, Go.Operand.tmp 55)], type := 25, pos := "law.go:163", after := #[{ on := 6, ground := Go.Ground.data }], guard := none },
    { dst := some 57, op := Go.Op.call { callee := Go.Callee.builtin Go.Builtin.append, args := #[Go.Operand.tmp 54, Go.Operand.tmp 56], argTypes := #[25, 25] }, type := 25, pos := "law.go:163", after := #[{ on := 5, ground := Go.Ground.data }, { on := 7, ground := Go.Ground.data }], guard := none },
    { dst := some 58, op := Go.Op.move (Go.Operand.tmp 0), type := 24, pos := "law.go:163", after := #[], guard := none },
    { dst := some 59, op := Go.Op.nilCheck (Go.Operand.tmp 58), type := 0, pos := "law.go:163", after := #[{ on := 9, ground := Go.Ground.data }], guard := none },
    { dst := some 60, op := Go.Op.fieldAddr 28 (Go.Operand.tmp 59) 1, type := 0, pos := "law.go:163", after := #[{ on := 10, ground := Go.Ground.data }], guard := none },
    { dst := some 61, op := Go.Op.load 26 (Go.Operand.tmp 60), type := 26, pos := "law.go:163", after := #[{ on := 11, ground := Go.Ground.data }], guard := none },
    { dst := some 62, op := Go.Op.move (Go.Operand.tmp 1), type := 9, pos := "law.go:163", after := #[], guard := none },
    { dst := some 63, op := Go.Op.convert 9 41 (Go.Operand.tmp 62), type := 41, pos := "law.go:163", after := #[{ on := 13, ground := Go.Ground.data }], guard := none },
    { dst := some 64, op := Go.Op.call { callee := Go.Callee.value (Go.Operand.func 46), args := #[Go.Operand.tmp 63], argTypes := #[41] }, type := 87, pos := "law.go:163", after := #[{ on := 14, ground := Go.Ground.data }, { on := 8, ground := Go.Ground.chain }], guard := none },
    { dst := some 65, op := Go.Op.buildSlice 26 1 #[(0, Go.Operand.tmp 64)], type := 26, pos := "law.go:163", after := #[{ on := 15, ground := Go.Ground.data }], guard := none },
    { dst := some 66, op := Go.Op.call { callee := Go.Callee.builtin Go.Builtin.append, args := #[Go.Operand.tmp 61, Go.Operand.tmp 65], argTypes := #[26, 26] }, type := 26, pos := "law.go:163", after := #[{ on := 12, ground := Go.Ground.data }, { on := 16, ground := Go.Ground.data }, { on := 15, ground := Go.Ground.chain }], guard := none },
    { dst := some 67, op := Go.Op.nilCheck (Go.Operand.tmp 49), type := 0, pos := "law.go:163", after := #[{ on := 0, ground := Go.Ground.data }, { on := 0, ground := Go.Ground.phase }, { on := 1, ground := Go.Ground.textOnly Go.Departure.lateStores }, { on := 2, ground := Go.Ground.phase }, { on := 3, ground := Go.Ground.phase }, { on := 4, ground := Go.Ground.phase }, { on := 5, ground := Go.Ground.phase }, { on := 6, ground := Go.Ground.phase }, { on := 7, ground := Go.Ground.phase }, { on := 8, ground := Go.Ground.phase }, { on := 9, ground := Go.Ground.textOnly Go.Departure.lateStores }, { on := 10, ground := Go.Ground.textOnly Go.Departure.lateStoresUnsure }, { on := 11, ground := Go.Ground.textOnly Go.Departure.lateStoresUnsure }, { on := 12, ground := Go.Ground.phase }, { on := 13, ground := Go.Ground.textOnly Go.Departure.lateStores }, { on := 14, ground := Go.Ground.textOnly Go.Departure.lateStoresUnsure }, { on := 15, ground := Go.Ground.phase }, { on := 16, ground := Go.Ground.textOnly Go.Departure.lateStoresUnsure }, { on := 17, ground := Go.Ground.phase }], guard := none },
    { dst := some 68, op := Go.Op.fieldAddr 28 (Go.Operand.tmp 67) 0, type := 0, pos := "law.go:163", after := #[{ on := 18, ground := Go.Ground.data }, { on := 0, ground := Go.Ground.phase }, { on := 1, ground := Go.Ground.textOnly Go.Departure.lateStores }, { on := 2, ground := Go.Ground.phase }, { on := 3, ground := Go.Ground.phase }, { on := 4, ground := Go.Ground.phase }, { on := 5, ground := Go.Ground.phase }, { on := 6, ground := Go.Ground.phase }, { on := 7, ground := Go.Ground.phase }, { on := 8, ground := Go.Ground.phase }, { on := 9, ground := Go.Ground.textOnly Go.Departure.lateStores }, { on := 10, ground := Go.Ground.textOnly Go.Departure.lateStoresUnsure }, { on := 11, ground := Go.Ground.textOnly Go.Departure.lateStoresUnsure }, { on := 12, ground := Go.Ground.phase }, { on := 13, ground := Go.Ground.textOnly Go.Departure.lateStores }, { on := 14, ground := Go.Ground.textOnly Go.Departure.lateStoresUnsure }, { on := 15, ground := Go.Ground.phase }, { on := 16, ground := Go.Ground.textOnly Go.Departure.lateStoresUnsure }, { on := 17, ground := Go.Ground.phase }], guard := none },
    { dst := none, op := Go.Op.store 25 (Go.Operand.tmp 68) (Go.Operand.tmp 57), type := 0, pos := "law.go:163", after := #[{ on := 19, ground := Go.Ground.data }, { on := 8, ground := Go.Ground.data }, { on := 17, ground := Go.Ground.chain }, { on := 0, ground := Go.Ground.phase }, { on := 1, ground := Go.Ground.textOnly Go.Departure.lateStores }, { on := 2, ground := Go.Ground.phase }, { on := 3, ground := Go.Ground.phase }, { on := 4, ground := Go.Ground.phase }, { on := 5, ground := Go.Ground.phase }, { on := 6, ground := Go.Ground.phase }, { on := 7, ground := Go.Ground.phase }, { on := 8, ground := Go.Ground.phase }, { on := 9, ground := Go.Ground.textOnly Go.Departure.lateStores }, { on := 10, ground := Go.Ground.textOnly Go.Departure.lateStoresUnsure }, { on := 11, ground := Go.Ground.textOnly Go.Departure.lateStoresUnsure }, { on := 12, ground := Go.Ground.phase }, { on := 13, ground := Go.Ground.textOnly Go.Departure.lateStores }, { on := 14, ground := Go.Ground.textOnly Go.Departure.lateStoresUnsure }, { on := 15, ground := Go.Ground.phase }, { on := 16, ground := Go.Ground.textOnly Go.Departure.lateStoresUnsure }, { on := 17, ground := Go.Ground.phase }], guard := none },
    { dst := some 69, op := Go.Op.nilCheck (Go.Operand.tmp 50), type := 0, pos := "law.go:163", after := #[{ on := 1, ground := Go.Ground.data }, { on := 0, ground := Go.Ground.phase }, { on := 1, ground := Go.Ground.phase }, { on := 2, ground := Go.Ground.phase }, { on := 3, ground := Go.Ground.phase }, { on := 4, ground := Go.Ground.phase }, { on := 5, ground := Go.Ground.phase }, { on := 6, ground := Go.Ground.phase }, { on := 7, ground := Go.Ground.phase }, { on := 8, ground := Go.Ground.phase }, { on := 9, ground := Go.Ground.phase }, { on := 10, ground := Go.Ground.phase }, { on := 11, ground := Go.Ground.phase }, { on := 12, ground := Go.Ground.phase }, { on := 13, ground := Go.Ground.phase }, { on := 14, ground := Go.Ground.phase }, { on := 15, ground := Go.Ground.phase }, { on := 16, ground := Go.Ground.phase }, { on := 17, ground := Go.Ground.phase }, { on := 18, ground := Go.Ground.phase }, { on := 19, ground := Go.Ground.phase }, { on := 20, ground := Go.Ground.phase }], guard := none },
    { dst := some 70, op := Go.Op.fieldAddr 28 (Go.Operand.tmp 69) 1, type := 0, pos := "law.go:163", after := #[{ on := 21, ground := Go.Ground.data }, { on := 0, ground := Go.Ground.phase }, { on := 1, ground := Go.Ground.phase }, { on := 2, ground := Go.Ground.phase }, { on := 3, ground := Go.Ground.phase }, { on := 4, ground := Go.Ground.phase }, { on := 5, ground := Go.Ground.phase }, { on := 6, ground := Go.Ground.phase }, { on := 7, ground := Go.Ground.phase }, { on := 8, ground := Go.Ground.phase }, { on := 9, ground := Go.Ground.phase }, { on := 10, ground := Go.Ground.phase }, { on := 11, ground := Go.Ground.phase }, { on := 12, ground := Go.Ground.phase }, { on := 13, ground := Go.Ground.phase }, { on := 14, ground := Go.Ground.phase }, { on := 15, ground := Go.Ground.phase }, { on := 16, ground := Go.Ground.phase }, { on := 17, ground := Go.Ground.phase }, { on := 18, ground := Go.Ground.phase }, { on := 19, ground := Go.Ground.phase }, { on := 20, ground := Go.Ground.phase }], guard := none },
    { dst := none, op := Go.Op.store 26 (Go.Operand.tmp 70) (Go.Operand.tmp 66), type := 0, pos := "law.go:163", after := #[{ on := 22, ground := Go.Ground.data }, { on := 17, ground := Go.Ground.data }, { on := 20, ground := Go.Ground.chain }, { on := 0, ground := Go.Ground.phase }, { on := 1, ground := Go.Ground.phase }, { on := 2, ground := Go.Ground.phase }, { on := 3, ground := Go.Ground.phase }, { on := 4, ground := Go.Ground.phase }, { on := 5, ground := Go.Ground.phase }, { on := 6, ground := Go.Ground.phase }, { on := 7, ground := Go.Ground.phase }, { on := 8, ground := Go.Ground.phase }, { on := 9, ground := Go.Ground.phase }, { on := 10, ground := Go.Ground.phase }, { on := 11, ground := Go.Ground.phase }, { on := 12, ground := Go.Ground.phase }, { on := 13, ground := Go.Ground.phase }, { on := 14, ground := Go.Ground.phase }, { on := 15, ground := Go.Ground.phase }, { on := 16, ground := Go.Ground.phase }, { on := 17, ground := Go.Ground.phase }, { on := 18, ground := Go.Ground.phase }, { on := 19, ground := Go.Ground.phase }, { on := 20, ground := Go.Ground.phase }], guard := none }]
theorem fin9d {wc w5 w7 : World} {B C D H cp n g5 c5 g7 c7 : Nat} {v1 v2 : Value} {cs ds : List Nat} {l : List Nat} (HCS : Csr wc B v1 v2 cs ds)
    (HO57 : w7.ownsRow (B + 1) 32 1 (.slice (some ⟨g5, 0, none⟩) (cs.length + 1) c5) (cs ++ [C]).length ((cs ++ [C]).map ptr)) (HQ5 : v1.ownBlock = some g5 ∨ (wc.heap.size ≤ g5 ∧ g5 < w5.heap.size))
    (HO7 : w7.ownsRow (B + 1) 87 1 (.slice (some ⟨g7, 0, none⟩) (ds.length + 1) c7) (ds ++ [D]).length ((ds ++ [D]).map ptr)) (HQ7 : v2.ownBlock = some g7 ∨ (w5.heap.size ≤ g7 ∧ g7 ≠ D ∧ g7 ≠ H)) (hsz : wc.heap.size ≤ w5.heap.size) (hD : w5.heap.size ≤ D) (hH : w5.heap.size ≤ H)
    (HT7 : Two w7 B v1 v2) (HFW7 : Frm (fun k => v1.ownBlock = some k ∨ v2.ownBlock = some k) wc w7) (HD7 : Doc w7 D H n cp 0 n l) :
    ∃ v1' v2' D H cp, Csr ((w7.setCell ⟨B, 0, none⟩ (.slice (some ⟨g5, 0, none⟩) (cs.length + 1) c5)).setCell ⟨B, 1, none⟩ (.slice (some ⟨g7, 0, none⟩) (ds.length + 1) c7)) B v1' v2' (cs ++ [C]) (ds ++ [D]) ∧ Doc ((w7.setCell ⟨B, 0, none⟩ (.slice (some ⟨g5, 0, none⟩) (cs.length + 1) c5)).setCell ⟨B, 1, none⟩ (.slice (some ⟨g7, 0, none⟩) (ds.length + 1) c7)) D H n cp 0 n l ∧ wc.heap.size ≤ D ∧ wc.heap.size ≤ H ∧ Frm (fun k => k = B ∨ v1.ownBlock = some k ∨ v2.ownBlock = some k) wc ((w7.setCell ⟨B, 0, none⟩ (.slice (some ⟨g5, 0, none⟩) (cs.length + 1) c5)).setCell ⟨B, 1, none⟩ (.slice (some ⟨g7, 0, none⟩) (ds.length + 1) c7)) ∧ (∀ k, v1'.ownBlock = some k → v1.ownBlock = some k ∨ (wc.heap.size ≤ k ∧ k ≠ D ∧ k ≠ H)) ∧ (∀ k, v2'.ownBlock = some k → v2.ownBlock = some k ∨ (wc.heap.size ≤ k ∧ k ≠ D ∧ k ≠ H)) := by
  have hB : B < wc.heap.size := block_lt_of_cell HCS.two.c0
  refine ⟨_, _, D, H, cp, ⟨HT7.set _ _, ownsRow_setCell_below (ownsRow_setCell_below HO57 (by show B < B + 1; omega) _) (by show B < B + 1; omega) _, ownsRow_setCell_below (ownsRow_setCell_below HO7 (by show B < B + 1; omega) _) (by show B < B + 1; omega) _, ?_⟩, HD7.two (by omega) (by omega), by omega, by omega, ?_, ?_, ?_⟩
  · intro k hk e
    simp only [Value.ownBlock, Option.some.injEq] at hk e
    subst hk
    subst e
    rcases HQ5 with a | a <;> rcases HQ7 with b | b
    · exact HCS.ne _ a b
    · have := (World.ownsRow.lt HCS.r1 _ a).2
      omega
    · have := (World.ownsRow.lt HCS.r2 _ b).2
      omega
    · omega
  · exact (HFW7.mono (T := fun k => k = B ∨ v1.ownBlock = some k ∨ v2.ownBlock = some k) (fun j _ t => Or.inr t)).trans ((frm_setCell w7 ⟨B, 0, none⟩ _).trans (frm_setCell _ ⟨B, 1, none⟩ _) (fun j _ t => t)) (fun j _ t => Or.inl t)
  · intro k hk
    simp only [Value.ownBlock, Option.some.injEq] at hk
    subst hk
    rcases HQ5 with a | a
    · exact .inl a
    · exact .inr ⟨a.1, by omega, by omega⟩
  · intro k hk
    simp only [Value.ownBlock, Option.some.injEq] at hk
    subst hk
    rcases HQ7 with b | b
    · exact .inl b
    · exact .inr ⟨by omega, b.2.1, b.2.2⟩

set_option maxRecDepth 100000 in
set_option maxHeartbeats 4000000 in
theorem r9e {wc : World} {B C n : Nat} {v1 v2 : Value} {cs ds : List Nat} {S : ByteArray} (x5 u7 u8 u9 u10 u11 u12 u13 u14 u15 u16 u17 u18 u19 u20 u21 u22 u23 u24 u25 u26 u27 u28 u29 u30 u31 u32 u33 u34 u35 u36 u37 u38 u39 u40 u41 u42 u43 u44 u45 u46 u47 u48 : Value) (hn : S.size = n) (hS : n ≤ 140737488351232) (h1 : cs.length + 1 ≤ 17592186044416) (h2 : ds.length + 1 ≤ 17592186044416) (HCS : Hid (Csr wc B v1 v2 cs ds)) (Q : Act → World → Prop)
    (fin : Hid (∀ (y49 y50 y51 y52 y53 y54 y55 y56 y57 y58 y59 y60 y61 y62 y63 y64 y65 y66 y67 y68 y69 y70 : Value) (w' : World), (∃ v1' v2' D H cp, Csr w' B v1' v2' (cs ++ [C]) (ds ++ [D]) ∧ Doc w' D H n cp 0 n (bytesOf S) ∧ wc.heap.size ≤ D ∧ wc.heap.size ≤ H ∧ Frm (fun k => k = B ∨ v1.ownBlock = some k ∨ v2.ownBlock = some k) wc w' ∧ (∀ k, v1'.ownBlock = some k → v1.ownBlock = some k ∨ (wc.heap.size ≤ k ∧ k ≠ D ∧ k ≠ H)) ∧ (∀ k, v2'.ownBlock = some k → v2.ownBlock = some k ∨ (wc.heap.size ≤ k ∧ k ≠ D ∧ k ≠ H))) → Q { tmps := #[.pointer (some ⟨B, 0, none⟩), .string S, undef, undef, .bool false, x5, .pointer (some ⟨C, 0, none⟩), u7, u8, u9, u10, u11, u12, u13, u14, u15, u16, u17, u18, u19, u20, u21, u22, u23, u24, u25, u26, u27, u28, u29, u30, u31, u32, u33, u34, u35, u36, u37, u38, u39, u40, u41, u42, u43, u44, u45, u46, u47, u48, y49, y50, y51, y52, y53, y54, y55, y56, y57, y58, y59, y60, y61, y62, y63, y64, y65, y66, y67, y68, y69, y70], defers := [] } w'))
    (g5 c5 c63 : Nat) (a63 : Option Addr) (y51 y52 y53 y54 y55 y56 y58 y59 y60 y62 : Value) (w5 : World) (HT5 : Hid (Two w5 B v1 v2))
    (HO5 : Hid (w5.ownsRow (B + 1) 32 1 (.slice (some ⟨g5, 0, none⟩) (cs.length + 1) c5) (cs ++ [C]).length ((cs ++ [C]).map ptr))) (HR5 : Hid (w5.ownsRow (B + 1) 87 1 v2 ds.length (ds.map ptr)))
    (HCV5 : Hid (Bts w5 a63 n c63 (bytesOf S))) (HQ5 : Hid (v1.ownBlock = some g5 ∨ (wc.heap.size ≤ g5 ∧ g5 < w5.heap.size))) (HFW5 : Hid (Frm (fun k => v1.ownBlock = some k) wc w5)) :
    AnyK Tryd.prog .any ops9d (OnlyN Q) (fun wz => wz.cell? ⟨B, 0, none⟩ = some v1 ∧ wz.cell? ⟨B, 1, none⟩ = some v2) 18 9 #[true, true, true, true, true, true, true, true, true, true, true, true, true, true, true, false, false, false, false, false, false, false, false, false] { tmps := #[.pointer (some ⟨B, 0, none⟩), .string S, undef, undef, .bool false, x5, .pointer (some ⟨C, 0, none⟩), u7, u8, u9, u10, u11, u12, u13, u14, u15, u16, u17, u18, u19, u20, u21, u22, u23, u24, u25, u26, u27, u28, u29, u30, u31, u32, u33, u34, u35, u36, u37, u38, u39, u40, u41, u42, u43, u44, u45, u46, u47, u48, .pointer (some ⟨B, 0, none⟩), .pointer (some ⟨B, 0, none⟩), y51, y52, y53, y54, y55, y56, .slice (some ⟨g5, 0, none⟩) (cs.length + 1) c5, y58, y59, y60, v2, y62, .slice a63 n c63, undef, undef, undef, undef, undef, undef, undef], defers := [] } w5 := by
  have HCD : Hid (∀ k, v2.ownBlock = some k → k < wc.heap.size) := fun k hk => (World.ownsRow.lt HCS.out.r2 k hk).2
  have HSZ : Hid (wc.heap.size ≤ w5.heap.size) := HFW5.out.size
  have jl : B < w5.heap.size := block_lt_of_cell HT5.out.c0
  refine anyK_one (i := 15) (o := { dst := some 64, op := Go.Op.call { callee := Go.Callee.value (Go.Operand.func 46), args := #[Go.Operand.tmp 63], argTypes := #[41] }, type := 87, pos := "law.go:163", after := #[{ on := 14, ground := Go.Ground.data }, { on := 8, ground := Go.Ground.chain }], guard := none }) (by kernel_rfl) rfl (fun K hK => ?_)
  go_simp
  with_reducible refine Calls.mono (refOpen_doc _ n _ (bytesOf S) _ HCV5.out) ?_
  rintro e w6 ⟨D, H, cp, hD, hH, rfl, hdoc, hb⟩
  have HW6 := hide hb
  have HT6 := hide (HT5.out.below hb)
  have HD6 := hide hdoc
  have HDH : Hid (w5.heap.size ≤ D ∧ w5.heap.size ≤ H ∧ D < w6.heap.size ∧ H < w6.heap.size) := ⟨hD, hH, hdoc.lt, hdoc.ne.2⟩
  clear hD hH hb hdoc
  try go_wp2_with fail
  refine hK.out _ _ (fun _ => ⟨HT6.out.c0, HT6.out.c1⟩) ?_
  clear hK K
  try simp only [Act.put, List.setIfInBounds_toArray, List.set_cons_zero, List.set_cons_succ]
  refine anyK_one (i := 16) (o := { dst := some 65, op := Go.Op.buildSlice 26 1 #[(0, Go.Operand.tmp 64)], type := 26, pos := "law.go:163", after := #[{ on := 15, ground := Go.Ground.data }], guard := none }) (by kernel_rfl) rfl (fun K hK => ?_)
  go_simp
  try go_wp2_with fail
  refine hK.out _ _ (fun _ => ⟨cell_below HT6.out.c0 (bel_al (Below.refl _ _)), cell_below HT6.out.c1 (bel_al (Below.refl _ _))⟩) ?_
  clear hK K
  try simp only [Act.put, List.setIfInBounds_toArray, List.set_cons_zero, List.set_cons_succ]
  refine anyK_one (i := 17) (o := { dst := some 66, op := Go.Op.call { callee := Go.Callee.builtin Go.Builtin.append, args := #[Go.Operand.tmp 61, Go.Operand.tmp 65], argTypes := #[26, 26] }, type := 26, pos := "law.go:163", after := #[{ on := 12, ground := Go.Ground.data }, { on := 16, ground := Go.Ground.data }, { on := 15, ground := Go.Ground.chain }], guard := none }) (by kernel_rfl) rfl (fun K hK => ?_)
  refine step_ptr 26 87 Tryd.underlying26 infoD rfl (.tmp 61) (.tmp 65) rfl (B + 1) v2 ds rfl (ownsRow_below HR5.out (chain HW6.out (bel_al (Below.refl _ _)))) w6.heap.size D rfl (cell_top w6 (ptr D) 87 _ rfl) h2 (Nat.le_trans (show B + 1 ≤ w5.heap.size from jl) (chain HW6.out (bel_al (Below.refl _ _))).size) ?_
  intro g7 c7 w7 ho hf hq
  have HO7 := hide ho
  have HQ7 : Hid (v2.ownBlock = some g7 ∨ (w5.heap.size ≤ g7 ∧ g7 ≠ D ∧ g7 ≠ H)) := (by
    rcases hq with hq | hq
    · exact Or.inl hq
    · have h6 := (bel_al (Below.refl _ _) : Below w6.heap.size w6 (w6.alloc (.cells #[ptr D] 87))).size
      have hq' : g7 = (w6.alloc (.cells #[ptr D] 87)).heap.size := hq
      have h7 := HDH.out
      exact Or.inr ⟨by omega, by omega, by omega⟩)
  have HT7 := hide ((HT5.out.below (chain HW6.out (bel_al (Below.refl _ _)))).frm hf (fun e => by have := (World.ownsRow.lt HCS.out.r2 _ e).1; omega))
  have HO57 := hide (row_frm (ownsRow_below HO5.out (chain HW6.out (bel_al (Below.refl _ _)))) hf (fun k hk e => by
    simp only [Value.ownBlock, Option.some.injEq] at hk
    subst hk
    rcases HQ5.out with h8 | h8
    · exact HCS.out.ne _ h8 e
    · have h9 := (World.ownsRow.lt HCS.out.r2 _ e).2; omega))
  have HD7 := hide ((HD6.out.below (bel_al (Below.refl _ _))).frm hf (fun e => by have h8 := HCD.out _ e; have h9 := HDH.out; have h7 := HSZ.out; omega) (fun e => by have h8 := HCD.out _ e; have h9 := HDH.out; have h7 := HSZ.out; omega))
  have HFW7 := hide ((HFW5.out.mono (T := fun k => v1.ownBlock = some k ∨ v2.ownBlock = some k) (fun j _ t => Or.inl t)).trans ((Frm.ofBelow (S := fun k => v2.ownBlock = some k) (chain HW6.out (bel_al (Below.refl _ _)))).trans hf (fun j _ t => t)) (fun j _ t => Or.inr t))
  have y0 := HT7.out.c0
  have y1 := HT7.out.c1
  have z0 := HT7.out.f0
  have z1 := HT7.out.f1
  clear ho hf hq
  refine hK.out _ _ (fun _ => ⟨HT7.out.c0, HT7.out.c1⟩) ?_
  clear hK K
  try simp only [Act.put, List.setIfInBounds_toArray, List.set_cons_zero, List.set_cons_succ]
  refine anyK_one (i := 18) (o := { dst := some 67, op := Go.Op.nilCheck (Go.Operand.tmp 49), type := 0, pos := "law.go:163", after := #[{ on := 0, ground := Go.Ground.data }, { on := 0, ground := Go.Ground.phase }, { on := 1, ground := Go.Ground.textOnly Go.Departure.lateStores }, { on := 2, ground := Go.Ground.phase }, { on := 3, ground := Go.Ground.phase }, { on := 4, ground := Go.Ground.phase }, { on := 5, ground := Go.Ground.phase }, { on := 6, ground := Go.Ground.phase }, { on := 7, ground := Go.Ground.phase }, { on := 8, ground := Go.Ground.phase }, { on := 9, ground := Go.Ground.textOnly Go.Departure.lateStores }, { on := 10, ground := Go.Ground.textOnly Go.Departure.lateStoresUnsure }, { on := 11, ground := Go.Ground.textOnly Go.Departure.lateStoresUnsure }, { on := 12, ground := Go.Ground.phase }, { on := 13, ground := Go.Ground.textOnly Go.Departure.lateStores }, { on := 14, ground := Go.Ground.textOnly Go.Departure.lateStoresUnsure }, { on := 15, ground := Go.Ground.phase }, { on := 16, ground := Go.Ground.textOnly Go.Departure.lateStoresUnsure }, { on := 17, ground := Go.Ground.phase }], guard := none }) (by kernel_rfl) rfl (fun K hK => ?_)
  go_simp
  try go_wp2_with fail
  refine hK.out _ _ (fun h => absurd h (by decide)) ?_
  clear hK K
  try simp only [Act.put, List.setIfInBounds_toArray, List.set_cons_zero, List.set_cons_succ]
  refine anyK_one (i := 19) (o := { dst := some 68, op := Go.Op.fieldAddr 28 (Go.Operand.tmp 67) 0, type := 0, pos := "law.go:163", after := #[{ on := 18, ground := Go.Ground.data }, { on := 0, ground := Go.Ground.phase }, { on := 1, ground := Go.Ground.textOnly Go.Departure.lateStores }, { on := 2, ground := Go.Ground.phase }, { on := 3, ground := Go.Ground.phase }, { on := 4, ground := Go.Ground.phase }, { on := 5, ground := Go.Ground.phase }, { on := 6, ground := Go.Ground.phase }, { on := 7, ground := Go.Ground.phase }, { on := 8, ground := Go.Ground.phase }, { on := 9, ground := Go.Ground.textOnly Go.Departure.lateStores }, { on := 10, ground := Go.Ground.textOnly Go.Departure.lateStoresUnsure }, { on := 11, ground := Go.Ground.textOnly Go.Departure.lateStoresUnsure }, { on := 12, ground := Go.Ground.phase }, { on := 13, ground := Go.Ground.textOnly Go.Departure.lateStores }, { on := 14, ground := Go.Ground.textOnly Go.Departure.lateStoresUnsure }, { on := 15, ground := Go.Ground.phase }, { on := 16, ground := Go.Ground.textOnly Go.Departure.lateStoresUnsure }, { on := 17, ground := Go.Ground.phase }], guard := none }) (by kernel_rfl) rfl (fun K hK => ?_)
  go_simp
  try go_wp2_with fail
  refine hK.out _ _ (fun h => absurd h (by decide)) ?_
  clear hK K
  try simp only [Act.put, List.setIfInBounds_toArray, List.set_cons_zero, List.set_cons_succ]
  refine anyK_one (i := 20) (o := { dst := none, op := Go.Op.store 25 (Go.Operand.tmp 68) (Go.Operand.tmp 57), type := 0, pos := "law.go:163", after := #[{ on := 19, ground := Go.Ground.data }, { on := 8, ground := Go.Ground.data }, { on := 17, ground := Go.Ground.chain }, { on := 0, ground := Go.Ground.phase }, { on := 1, ground := Go.Ground.textOnly Go.Departure.lateStores }, { on := 2, ground := Go.Ground.phase }, { on := 3, ground := Go.Ground.phase }, { on := 4, ground := Go.Ground.phase }, { on := 5, ground := Go.Ground.phase }, { on := 6, ground := Go.Ground.phase }, { on := 7, ground := Go.Ground.phase }, { on := 8, ground := Go.Ground.phase }, { on := 9, ground := Go.Ground.textOnly Go.Departure.lateStores }, { on := 10, ground := Go.Ground.textOnly Go.Departure.lateStoresUnsure }, { on := 11, ground := Go.Ground.textOnly Go.Departure.lateStoresUnsure }, { on := 12, ground := Go.Ground.phase }, { on := 13, ground := Go.Ground.textOnly Go.Departure.lateStores }, { on := 14, ground := Go.Ground.textOnly Go.Departure.lateStoresUnsure }, { on := 15, ground := Go.Ground.phase }, { on := 16, ground := Go.Ground.textOnly Go.Departure.lateStoresUnsure }, { on := 17, ground := Go.Ground.phase }], guard := none }) (by kernel_rfl) rfl (fun K hK => ?_)
  go_simp
  try go_wp2_with fail
  refine hK.out _ _ (fun h => absurd h (by decide)) ?_
  clear hK K
  try simp only [Act.put, List.setIfInBounds_toArray, List.set_cons_zero, List.set_cons_succ]
  refine anyK_one (i := 21) (o := { dst := some 69, op := Go.Op.nilCheck (Go.Operand.tmp 50), type := 0, pos := "law.go:163", after := #[{ on := 1, ground := Go.Ground.data }, { on := 0, ground := Go.Ground.phase }, { on := 1, ground := Go.Ground.phase }, { on := 2, ground := Go.Ground.phase }, { on := 3, ground := Go.Ground.phase }, { on := 4, ground := Go.Ground.phase }, { on := 5, ground := Go.Ground.phase }, { on := 6, ground := Go.Ground.phase }, { on := 7, ground := Go.Ground.phase }, { on := 8, ground := Go.Ground.phase }, { on := 9, ground := Go.Ground.phase }, { on := 10, ground := Go.Ground.phase }, { on := 11, ground := Go.Ground.phase }, { on := 12, ground := Go.Ground.phase }, { on := 13, ground := Go.Ground.phase }, { on := 14, ground := Go.Ground.phase }, { on := 15, ground := Go.Ground.phase }, { on := 16, ground := Go.Ground.phase }, { on := 17, ground := Go.Ground.phase }, { on := 18, ground := Go.Ground.phase }, { on := 19, ground := Go.Ground.phase }, { on := 20, ground := Go.Ground.phase }], guard := none }) (by kernel_rfl) rfl (fun K hK => ?_)
  go_simp
  try go_wp2_with fail
  refine hK.out _ _ (fun h => absurd h (by decide)) ?_
  clear hK K
  try simp only [Act.put, List.setIfInBounds_toArray, List.set_cons_zero, List.set_cons_succ]
  refine anyK_one (i := 22) (o := { dst := some 70, op := Go.Op.fieldAddr 28 (Go.Operand.tmp 69) 1, type := 0, pos := "law.go:163", after := #[{ on := 21, ground := Go.Ground.data }, { on := 0, ground := Go.Ground.phase }, { on := 1, ground := Go.Ground.phase }, { on := 2, ground := Go.Ground.phase }, { on := 3, ground := Go.Ground.phase }, { on := 4, ground := Go.Ground.phase }, { on := 5, ground := Go.Ground.phase }, { on := 6, ground := Go.Ground.phase }, { on := 7, ground := Go.Ground.phase }, { on := 8, ground := Go.Ground.phase }, { on := 9, ground := Go.Ground.phase }, { on := 10, ground := Go.Ground.phase }, { on := 11, ground := Go.Ground.phase }, { on := 12, ground := Go.Ground.phase }, { on := 13, ground := Go.Ground.phase }, { on := 14, ground := Go.Ground.phase }, { on := 15, ground := Go.Ground.phase }, { on := 16, ground := Go.Ground.phase }, { on := 17, ground := Go.Ground.phase }, { on := 18, ground := Go.Ground.phase }, { on := 19, ground := Go.Ground.phase }, { on := 20, ground := Go.Ground.phase }], guard := none }) (by kernel_rfl) rfl (fun K hK => ?_)
  go_simp
  try go_wp2_with fail
  refine hK.out _ _ (fun h => absurd h (by decide)) ?_
  clear hK K
  try simp only [Act.put, List.setIfInBounds_toArray, List.set_cons_zero, List.set_cons_succ]
  refine anyK_one (i := 23) (o := { dst := none, op := Go.Op.store 26 (Go.Operand.tmp 70) (Go.Operand.tmp 66), type := 0, pos := "law.go:163", after := #[{ on := 22, ground := Go.Ground.data }, { on := 17, ground := Go.Ground.data }, { on := 20, ground := Go.Ground.chain }, { on := 0, ground := Go.Ground.phase }, { on := 1, ground := Go.Ground.phase }, { on := 2, ground := Go.Ground.phase }, { on := 3, ground := Go.Ground.phase }, { on := 4, ground := Go.Ground.phase }, { on := 5, ground := Go.Ground.phase }, { on := 6, ground := Go.Ground.phase }, { on := 7, ground := Go.Ground.phase }, { on := 8, ground := Go.Ground.phase }, { on := 9, ground := Go.Ground.phase }, { on := 10, ground := Go.Ground.phase }, { on := 11, ground := Go.Ground.phase }, { on := 12, ground := Go.Ground.phase }, { on := 13, ground := Go.Ground.phase }, { on := 14, ground := Go.Ground.phase }, { on := 15, ground := Go.Ground.phase }, { on := 16, ground := Go.Ground.phase }, { on := 17, ground := Go.Ground.phase }, { on := 18, ground := Go.Ground.phase }, { on := 19, ground := Go.Ground.phase }, { on := 20, ground := Go.Ground.phase }], guard := none }) (by kernel_rfl) rfl (fun K hK => ?_)
  go_simp
  try go_wp2_with fail
  refine hK.out _ _ (fun h => absurd h (by decide)) ?_
  clear hK K
  try simp only [Act.put, List.setIfInBounds_toArray, List.set_cons_zero, List.set_cons_succ]
  refine anyK_done (by kernel_rfl) ?_ _
  exact fin.out _ _ _ _ _ _ _ _ _ _ _ _ _ _ _ _ _ _ _ _ _ _ _ (fin9d HCS.out HO57.out HQ5.out HO7.out HQ7.out HSZ.out HDH.out.1 HDH.out.2.1 HT7.out HFW7.out HD7.out)

set_option maxRecDepth 100000 in
set_option maxHeartbeats 4000000 in
theorem r9d {wc : World} {B C n : Nat} {v1 v2 : Value} {cs ds : List Nat} {S : ByteArray} (x5 u7 u8 u9 u10 u11 u12 u13 u14 u15 u16 u17 u18 u19 u20 u21 u22 u23 u24 u25 u26 u27 u28 u29 u30 u31 u32 u33 u34 u35 u36 u37 u38 u39 u40 u41 u42 u43 u44 u45 u46 u47 u48 : Value) (hn : S.size = n) (hS : n ≤ 140737488351232) (h1 : cs.length + 1 ≤ 17592186044416) (h2 : ds.length + 1 ≤ 17592186044416) (HCS : Hid (Csr wc B v1 v2 cs ds)) (Q : Act → World → Prop)
    (fin : Hid (∀ (y49 y50 y51 y52 y53 y54 y55 y56 y57 y58 y59 y60 y61 y62 y63 y64 y65 y66 y67 y68 y69 y70 : Value) (w' : World), (∃ v1' v2' D H cp, Csr w' B v1' v2' (cs ++ [C]) (ds ++ [D]) ∧ Doc w' D H n cp 0 n (bytesOf S) ∧ wc.heap.size ≤ D ∧ wc.heap.size ≤ H ∧ Frm (fun k => k = B ∨ v1.ownBlock = some k ∨ v2.ownBlock = some k) wc w' ∧ (∀ k, v1'.ownBlock = some k → v1.ownBlock = some k ∨ (wc.heap.size ≤ k ∧ k ≠ D ∧ k ≠ H)) ∧ (∀ k, v2'.ownBlock = some k → v2.ownBlock = some k ∨ (wc.heap.size ≤ k ∧ k ≠ D ∧ k ≠ H))) → Q { tmps := #[.pointer (some ⟨B, 0, none⟩), .string S, undef, undef, .bool false, x5, .pointer (some ⟨C, 0, none⟩), u7, u8, u9, u10, u11, u12, u13, u14, u15, u16, u17, u18, u19, u20, u21, u22, u23, u24, u25, u26, u27, u28, u29, u30, u31, u32, u33, u34, u35, u36, u37, u38, u39, u40, u41, u42, u43, u44, u45, u46, u47, u48, y49, y50, y51, y52, y53, y54, y55, y56, y57, y58, y59, y60, y61, y62, y63, y64, y65, y66, y67, y68, y69, y70], defers := [] } w')) :
    Code.wp Tryd.prog (Code.region 9 ops9d true) (OnlyN Q) { tmps := #[.pointer (some ⟨B, 0, none⟩), .string S, undef, undef, .bool false, x5, .pointer (some ⟨C, 0, none⟩), u7, u8, u9, u10, u11, u12, u13, u14, u15, u16, u17, u18, u19, u20, u21, u22, u23, u24, u25, u26, u27, u28, u29, u30, u31, u32, u33, u34, u35, u36, u37, u38, u39, u40, u41, u42, u43, u44, u45, u46, u47, u48, undef, undef, undef, undef, undef, undef, undef, undef, undef, undef, undef, undef, undef, undef, undef, undef, undef, undef, undef, undef, undef, undef], defers := [] } wc := by
  have k0 := HCS.out.two.c0
  have k1 := HCS.out.two.c1
  have hcv := fun wx => run_bytes_of_string (P := Tryd.prog) wx 9 41 5 S Tryd.underlying9 Tryd.underlying41 Tryd.underlying5
  rw [hn] at hcv
  have HBL : Hid (B + 1 ≤ wc.heap.size) := by unfold Hid; exact block_lt_of_cell HCS.out.two.c0
  have hH : wc.drew.cell? ⟨B, 0, none⟩ = some v1 ∧ wc.drew.cell? ⟨B, 1, none⟩ = some v2 := ⟨k0, k1⟩
  refine region_anyK (S := (fun wz => wz.cell? ⟨B, 0, none⟩ = some v1 ∧ wz.cell? ⟨B, 1, none⟩ = some v2)) (k := 18) (by kernel_rfl) ?_
  show AnyK Tryd.prog .any ops9d (OnlyN Q) (fun wz => wz.cell? ⟨B, 0, none⟩ = some v1 ∧ wz.cell? ⟨B, 1, none⟩ = some v2) 18 24 #[false, false, false, false, false, false, false, false, false, false, false, false, false, false, false, false, false, false, false, false, false, false, false, false] _ _
  refine anyK_takeP (i := 0) (oi := { dst := some 49, op := Go.Op.move (Go.Operand.tmp 0), type := 24, pos := "law.go:163", after := #[], guard := none }) (v := ?_) rfl (by kernel_rfl) (by kernel_rfl) (by kernel_rfl) (fun _ _ _ h => h) (by rfl) (fun _ => hH) (Or.inl ⟨by rfl, ?_⟩) ?_
  rotate_left
  · intro wz
    go_simp
    try with_reducible rfl
  try simp only [Act.put, List.setIfInBounds_toArray, List.set_cons_zero, List.set_cons_succ]
  refine anyK_takeP (i := 1) (oi := { dst := some 50, op := Go.Op.move (Go.Operand.tmp 0), type := 24, pos := "law.go:163", after := #[{ on := 20, ground := Go.Ground.gcOnly Go.Departure.lateStores }], guard := none }) (v := ?_) rfl (by kernel_rfl) (by kernel_rfl) (by kernel_rfl) (fun _ _ _ h => h) (by rfl) (fun _ => hH) (Or.inl ⟨by rfl, ?_⟩) ?_
  rotate_left
  · intro wz
    go_simp
    try with_reducible rfl
  try simp only [Act.put, List.setIfInBounds_toArray, List.set_cons_zero, List.set_cons_succ]
  refine anyK_takeP (i := 2) (oi := { dst := some 51, op := Go.Op.move (Go.Operand.tmp 0), type := 24, pos := "law.go:163", after := #[], guard := none }) (v := ?_) rfl (by kernel_rfl) (by kernel_rfl) (by kernel_rfl) (fun _ _ _ h => h) (by rfl) (fun _ => hH) (Or.inl ⟨by rfl, ?_⟩) ?_
  rotate_left
  · intro wz
    go_simp
    try with_reducible rfl
  try simp only [Act.put, List.setIfInBounds_toArray, List.set_cons_zero, List.set_cons_succ]
  refine anyK_takeP (i := 3) (oi := { dst := some 52, op := Go.Op.nilCheck (Go.Operand.tmp 51), type := 0, pos := "law.go:163", after := #[{ on := 2, ground := Go.Ground.data }], guard := none }) (v := ?_) rfl (by kernel_rfl) (by kernel_rfl) (by kernel_rfl) (fun _ _ _ h => h) (by rfl) (fun _ => hH) (Or.inl ⟨by rfl, ?_⟩) ?_
  rotate_left
  · intro wz
    go_simp
    try with_reducible rfl
  try simp only [Act.put, List.setIfInBounds_toArray, List.set_cons_zero, List.set_cons_succ]
  refine anyK_takeP (i := 4) (oi := { dst := some 53, op := Go.Op.fieldAddr 28 (Go.Operand.tmp 52) 0, type := 0, pos := "law.go:163", after := #[{ on := 3, ground := Go.Ground.data }], guard := none }) (v := ?_) rfl (by kernel_rfl) (by kernel_rfl) (by kernel_rfl) (fun _ _ _ h => h) (by rfl) (fun _ => hH) (Or.inl ⟨by rfl, ?_⟩) ?_
  rotate_left
  · intro wz
    go_simp
    try with_reducible rfl
  try simp only [Act.put, List.setIfInBounds_toArray, List.set_cons_zero, List.set_cons_succ]
  refine anyK_takeL (i := 5) (oi := { dst := some 54, op := Go.Op.load 25 (Go.Operand.tmp 53), type := 25, pos := "law.go:163", after := #[{ on := 4, ground := Go.Ground.data }], guard := none }) (ok := { dst := some 67, op := Go.Op.nilCheck (Go.Operand.tmp 49), type := 0, pos := "law.go:163", after := #[{ on := 0, ground := Go.Ground.data }, { on := 0, ground := Go.Ground.phase }, { on := 1, ground := Go.Ground.textOnly Go.Departure.lateStores }, { on := 2, ground := Go.Ground.phase }, { on := 3, ground := Go.Ground.phase }, { on := 4, ground := Go.Ground.phase }, { on := 5, ground := Go.Ground.phase }, { on := 6, ground := Go.Ground.phase }, { on := 7, ground := Go.Ground.phase }, { on := 8, ground := Go.Ground.phase }, { on := 9, ground := Go.Ground.textOnly Go.Departure.lateStores }, { on := 10, ground := Go.Ground.textOnly Go.Departure.lateStoresUnsure }, { on := 11, ground := Go.Ground.textOnly Go.Departure.lateStoresUnsure }, { on := 12, ground := Go.Ground.phase }, { on := 13, ground := Go.Ground.textOnly Go.Departure.lateStores }, { on := 14, ground := Go.Ground.textOnly Go.Departure.lateStoresUnsure }, { on := 15, ground := Go.Ground.phase }, { on := 16, ground := Go.Ground.textOnly Go.Departure.lateStoresUnsure }, { on := 17, ground := Go.Ground.phase }], guard := none }) (v := ?_) rfl rfl (by kernel_rfl) (by kernel_rfl) (by kernel_rfl) (by kernel_rfl) (by kernel_rfl) (fun _ _ _ h => h) (by rfl) hH (Or.inl ⟨by rfl, ?_⟩) ?_
  rotate_left
  · intro wz hSw
    obtain ⟨q0, q1⟩ := hSw
    go_simp
    try with_reducible rfl
  try simp only [Act.put, List.setIfInBounds_toArray, List.set_cons_zero, List.set_cons_succ]
  refine anyK_takeP (i := 6) (oi := { dst := some 55, op := Go.Op.move (Go.Operand.tmp 6), type := 32, pos := "law.go:163", after := #[], guard := none }) (v := ?_) rfl (by kernel_rfl) (by kernel_rfl) (by kernel_rfl) (fun _ _ _ h => h) (by rfl) (fun _ => hH) (Or.inl ⟨by rfl, ?_⟩) ?_
  rotate_left
  · intro wz
    go_simp
    try with_reducible rfl
  try simp only [Act.put, List.setIfInBounds_toArray, List.set_cons_zero, List.set_cons_succ]
  refine anyK_takeP (i := 9) (oi := { dst := some 58, op := Go.Op.move (Go.Operand.tmp 0), type := 24, pos := "law.go:163", after := #[], guard := none }) (v := ?_) rfl (by kernel_rfl) (by kernel_rfl) (by kernel_rfl) (fun _ _ _ h => h) (by rfl) (fun _ => hH) (Or.inl ⟨by rfl, ?_⟩) ?_
  rotate_left
  · intro wz
    go_simp
    try with_reducible rfl
  try simp only [Act.put, List.setIfInBounds_toArray, List.set_cons_zero, List.set_cons_succ]
  refine anyK_takeP (i := 10) (oi := { dst := some 59, op := Go.Op.nilCheck (Go.Operand.tmp 58), type := 0, pos := "law.go:163", after := #[{ on := 9, ground := Go.Ground.data }], guard := none }) (v := ?_) rfl (by kernel_rfl) (by kernel_rfl) (by kernel_rfl) (fun _ _ _ h => h) (by rfl) (fun _ => hH) (Or.inl ⟨by rfl, ?_⟩) ?_
  rotate_left
  · intro wz
    go_simp
    try with_reducible rfl
  try simp only [Act.put, List.setIfInBounds_toArray, List.set_cons_zero, List.set_cons_succ]
  refine anyK_takeP (i := 11) (oi := { dst := some 60, op := Go.Op.fieldAddr 28 (Go.Operand.tmp 59) 1, type := 0, pos := "law.go:163", after := #[{ on := 10, ground := Go.Ground.data }], guard := none }) (v := ?_) rfl (by kernel_rfl) (by kernel_rfl) (by kernel_rfl) (fun _ _ _ h => h) (by rfl) (fun _ => hH) (Or.inl ⟨by rfl, ?_⟩) ?_
  rotate_left
  · intro wz
    go_simp
    try with_reducible rfl
  try simp only [Act.put, List.setIfInBounds_toArray, List.set_cons_zero, List.set_cons_succ]
  refine anyK_takeL (i := 12) (oi := { dst := some 61, op := Go.Op.load 26 (Go.Operand.tmp 60), type := 26, pos := "law.go:163", after := #[{ on := 11, ground := Go.Ground.data }], guard := none }) (ok := { dst := some 67, op := Go.Op.nilCheck (Go.Operand.tmp 49), type := 0, pos := "law.go:163", after := #[{ on := 0, ground := Go.Ground.data }, { on := 0, ground := Go.Ground.phase }, { on := 1, ground := Go.Ground.textOnly Go.Departure.lateStores }, { on := 2, ground := Go.Ground.phase }, { on := 3, ground := Go.Ground.phase }, { on := 4, ground := Go.Ground.phase }, { on := 5, ground := Go.Ground.phase }, { on := 6, ground := Go.Ground.phase }, { on := 7, ground := Go.Ground.phase }, { on := 8, ground := Go.Ground.phase }, { on := 9, ground := Go.Ground.textOnly Go.Departure.lateStores }, { on := 10, ground := Go.Ground.textOnly Go.Departure.lateStoresUnsure }, { on := 11, ground := Go.Ground.textOnly Go.Departure.lateStoresUnsure }, { on := 12, ground := Go.Ground.phase }, { on := 13, ground := Go.Ground.textOnly Go.Departure.lateStores }, { on := 14, ground := Go.Ground.textOnly Go.Departure.lateStoresUnsure }, { on := 15, ground := Go.Ground.phase }, { on := 16, ground := Go.Ground.textOnly Go.Departure.lateStoresUnsure }, { on := 17, ground := Go.Ground.phase }], guard := none }) (v := ?_) rfl rfl (by kernel_rfl) (by kernel_rfl) (by kernel_rfl) (by kernel_rfl) (by kernel_rfl) (fun _ _ _ h => h) (by rfl) hH (Or.inl ⟨by rfl, ?_⟩) ?_
  rotate_left
  · intro wz hSw
    obtain ⟨q0, q1⟩ := hSw
    go_simp
    try with_reducible rfl
  try simp only [Act.put, List.setIfInBounds_toArray, List.set_cons_zero, List.set_cons_succ]
  refine anyK_takeP (i := 13) (oi := { dst := some 62, op := Go.Op.move (Go.Operand.tmp 1), type := 9, pos := "law.go:163", after := #[], guard := none }) (v := ?_) rfl (by kernel_rfl) (by kernel_rfl) (by kernel_rfl) (fun _ _ _ h => h) (by rfl) (fun _ => hH) (Or.inl ⟨by rfl, ?_⟩) ?_
  rotate_left
  · intro wz
    go_simp
    try with_reducible rfl
  try simp only [Act.put, List.setIfInBounds_toArray, List.set_cons_zero, List.set_cons_succ]
  have HC0 := hide (HCS.out.frmB (bel_dr (Below.refl wc.heap.size wc)))
  have HF0 : Hid (∀ (S : Nat → Prop) (w' : World), Frm S wc.drew w' → Frm S wc w') := fun S w' h => ⟨h.os, h.tape, h.output, h.size, h.block⟩
  have HFIN : Hid (∀ (y49 y50 y51 y52 y53 y54 y55 y56 y57 y58 y59 y60 y61 y62 y63 y64 y65 y66 y67 y68 y69 y70 : Value) (w' : World), (∃ v1' v2' D H cp, Csr w' B v1' v2' (cs ++ [C]) (ds ++ [D]) ∧ Doc w' D H n cp 0 n (bytesOf S) ∧ wc.drew.heap.size ≤ D ∧ wc.drew.heap.size ≤ H ∧ Frm (fun k => k = B ∨ v1.ownBlock = some k ∨ v2.ownBlock = some k) wc.drew w' ∧ (∀ k, v1'.ownBlock = some k → v1.ownBlock = some k ∨ (wc.drew.heap.size ≤ k ∧ k ≠ D ∧ k ≠ H)) ∧ (∀ k, v2'.ownBlock = some k → v2.ownBlock = some k ∨ (wc.drew.heap.size ≤ k ∧ k ≠ D ∧ k ≠ H))) → Q { tmps := #[.pointer (some ⟨B, 0, none⟩), .string S, undef, undef, .bool false, x5, .pointer (some ⟨C, 0, none⟩), u7, u8, u9, u10, u11, u12, u13, u14, u15, u16, u17, u18, u19, u20, u21, u22, u23, u24, u25, u26, u27, u28, u29, u30, u31, u32, u33, u34, u35, u36, u37, u38, u39, u40, u41, u42, u43, u44, u45, u46, u47, u48, y49, y50, y51, y52, y53, y54, y55, y56, y57, y58, y59, y60, y61, y62, y63, y64, y65, y66, y67, y68, y69, y70], defers := [] } w') := fun y49 y50 y51 y52 y53 y54 y55 y56 y57 y58 y59 y60 y61 y62 y63 y64 y65 y66 y67 y68 y69 y70 w' ⟨a, b, c, d, e, f, f2, f3, f4, f5, f6, f7⟩ => fin.out y49 y50 y51 y52 y53 y54 y55 y56 y57 y58 y59 y60 y61 y62 y63 y64 y65 y66 y67 y68 y69 y70 w' ⟨a, b, c, d, e, f, f2, f3, f4, HF0.out _ _ f5, f6, f7⟩
  have HBL0 : Hid (B + 1 ≤ wc.drew.heap.size) := HBL.out
  have HOW0 : Hid (∀ k, v1.ownBlock = some k → k < wc.drew.heap.size) := fun k hk => (World.ownsRow.lt HCS.out.r1 k hk).2
  clear hH k0 k1 HCS HBL HF0 fin
  generalize wc.drew = W0 at *
  refine anyK_two (i := 7) (j := 14) (o := { dst := some 56, op := Go.Op.buildSlice 25 1 #[(0, Go.Operand.tmp 55)], type := 25, pos := "law.go:163", after := #[{ on := 6, ground := Go.Ground.data }], guard := none }) (o' := { dst := some 63, op := Go.Op.convert 9 41 (Go.Operand.tmp 62), type := 41, pos := "law.go:163", after := #[{ on := 13, ground := Go.Ground.data }], guard := none }) (by kernel_rfl) rfl rfl (fun K hK => ?_) (fun K hK => ?_)
  · go_simp
    try go_wp2_with fail
    refine hK.out _ _ (fun _ => ⟨cell_below HC0.out.two.c0 (bel_al (Below.refl _ _)), cell_below HC0.out.two.c1 (bel_al (Below.refl _ _))⟩) ?_
    clear hK K
    try simp only [Act.put, List.setIfInBounds_toArray, List.set_cons_zero, List.set_cons_succ]
    change AnyK _ _ _ _ _ _ _ _ _ (W0.alloc (.cells #[ptr C] 32))
    have HB1 : Hid (Below W0.heap.size W0 (W0.alloc (.cells #[ptr C] 32))) := bel_al (Below.refl _ _)
    have HC1 := hide (cell_top W0 (ptr C) 32 _ rfl)
    have HSZ1 : Hid ((W0.alloc (.cells #[ptr C] 32)).heap.size = W0.heap.size + 1) := by unfold Hid; simp
    generalize W0.alloc (.cells #[ptr C] 32) = W1 at *
    refine anyK_two (i := 8) (j := 14) (o := { dst := some 57, op := Go.Op.call { callee := Go.Callee.builtin Go.Builtin.append, args := #[Go.Operand.tmp 54, Go.Operand.tmp 56], argTypes := #[25, 25] }, type := 25, pos := "law.go:163", after := #[{ on := 5, ground := Go.Ground.data }, { on := 7, ground := Go.Ground.data }], guard := none }) (o' := { dst := some 63, op := Go.Op.convert 9 41 (Go.Operand.tmp 62), type := 41, pos := "law.go:163", after := #[{ on := 13, ground := Go.Ground.data }], guard := none }) (by kernel_rfl) rfl rfl (fun K hK => ?_) (fun K hK => ?_)
    · refine step_ptr 25 32 Tryd.underlying25 infoC rfl (.tmp 54) (.tmp 56) rfl (B + 1) v1 cs rfl (ownsRow_below HC0.out.r1 HB1.out) W0.heap.size C rfl HC1.out h1 (Nat.le_trans HBL0.out (Below.size HB1.out)) ?_
      intro g5 c5 w5 ho hf hq
      have HM := hide (fun (Z : World) (hz : Below w5.heap.size w5 Z) => mid13 HC0.out HB1.out ho hf hq hz)
      have HT5 := hide (HM.out w5 (Below.refl _ _)).1
      clear ho hf hq
      refine hK.out _ _ (fun _ => ⟨HT5.out.c0, HT5.out.c1⟩) ?_
      clear hK K
      try simp only [Act.put, List.setIfInBounds_toArray, List.set_cons_zero, List.set_cons_succ]
      refine anyK_one (i := 14) (o := { dst := some 63, op := Go.Op.convert 9 41 (Go.Operand.tmp 62), type := 41, pos := "law.go:163", after := #[{ on := 13, ground := Go.Ground.data }], guard := none }) (by kernel_rfl) rfl (fun K hK => ?_)
      go_simp
      try go_wp2_with fail
      refine hK.out _ _ (fun _ => ⟨cell_below HT5.out.c0 (bel_dr (bel_al (Below.refl _ _))), cell_below HT5.out.c1 (bel_dr (bel_al (Below.refl _ _)))⟩) ?_
      clear hK K
      try simp only [Act.put, List.setIfInBounds_toArray, List.set_cons_zero, List.set_cons_succ]
      obtain ⟨m1, m2, m3, m4, m5⟩ := HM.out (conv w5 S n) (conv_below w5 S n)
      exact r9e x5 u7 u8 u9 u10 u11 u12 u13 u14 u15 u16 u17 u18 u19 u20 u21 u22 u23 u24 u25 u26 u27 u28 u29 u30 u31 u32 u33 u34 u35 u36 u37 u38 u39 u40 u41 u42 u43 u44 u45 u46 u47 u48 hn hS h1 h2 HC0 Q HFIN g5 c5 _ _ _ _ _ _ _ _ _ _ _ _ _ m1 m2 m3 (conv_shown w5 S n hn hS) m4 m5
    · go_simp
      try go_wp2_with fail
      refine hK.out _ _ (fun _ => ⟨cell_below (HC0.out.two.below HB1.out).c0 (bel_dr (bel_al (Below.refl _ _))), cell_below (HC0.out.two.below HB1.out).c1 (bel_dr (bel_al (Below.refl _ _)))⟩) ?_
      clear hK K
      try simp only [Act.put, List.setIfInBounds_toArray, List.set_cons_zero, List.set_cons_succ]
      change AnyK _ _ _ _ _ _ _ _ _ (conv W1 S n)
      have HB2 := hide (chain HB1.out (conv_below W1 S n))
      have HV2 := hide (conv_shown W1 S n hn hS)
      have HC2 := hide (cell_below HC1.out (conv_below W1 S n))
      generalize conv W1 S n = W2 at *
      refine anyK_one (i := 8) (o := { dst := some 57, op := Go.Op.call { callee := Go.Callee.builtin Go.Builtin.append, args := #[Go.Operand.tmp 54, Go.Operand.tmp 56], argTypes := #[25, 25] }, type := 25, pos := "law.go:163", after := #[{ on := 5, ground := Go.Ground.data }, { on := 7, ground := Go.Ground.data }], guard := none }) (by kernel_rfl) rfl (fun K hK => ?_)
      refine step_ptr 25 32 Tryd.underlying25 infoC rfl (.tmp 54) (.tmp 56) rfl (B + 1) v1 cs rfl (ownsRow_below HC0.out.r1 HB2.out) W0.heap.size C rfl HC2.out h1 (Nat.le_trans HBL0.out (Below.size HB2.out)) ?_
      intro g5 c5 w5 ho hf hq
      obtain ⟨m1, m2, m3, m4, m5⟩ := mid13 HC0.out HB2.out ho hf hq (Below.refl _ _)
      have HV5 := hide (HV2.out.frm hf (fun b off e he => by
        simp only [Option.some.injEq, Addr.mk.injEq, and_true] at e
        have h9 := HOW0.out _ he
        have h8 := HSZ1.out
        omega))
      refine hK.out _ _ (fun _ => ⟨m1.c0, m1.c1⟩) ?_
      clear hK K ho hf hq
      try simp only [Act.put, List.setIfInBounds_toArray, List.set_cons_zero, List.set_cons_succ]
      exact r9e x5 u7 u8 u9 u10 u11 u12 u13 u14 u15 u16 u17 u18 u19 u20 u21 u22 u23 u24 u25 u26 u27 u28 u29 u30 u31 u32 u33 u34 u35 u36 u37 u38 u39 u40 u41 u42 u43 u44 u45 u46 u47 u48 hn hS h1 h2 HC0 Q HFIN g5 c5 _ _ _ _ _ _ _ _ _ _ _ _ _ m1 m2 m3 HV5 m4 m5
  · go_simp
    try go_wp2_with fail
    refine hK.out _ _ (fun _ => ⟨cell_below HC0.out.two.c0 (bel_dr (bel_al (Below.refl _ _))), cell_below HC0.out.two.c1 (bel_dr (bel_al (Below.refl _ _)))⟩) ?_
    clear hK K
    try simp only [Act.put, List.setIfInBounds_toArray, List.set_cons_zero, List.set_cons_succ]
    change AnyK _ _ _ _ _ _ _ _ _ (conv W0 S n)
    have HB1 := hide (conv_below W0 S n)
    have HV1 := hide (conv_shown W0 S n hn hS)
    generalize conv W0 S n = W1 at *
    refine anyK_one (i := 7) (o := { dst := some 56, op := Go.Op.buildSlice 25 1 #[(0, Go.Operand.tmp 55)], type := 25, pos := "law.go:163", after := #[{ on := 6, ground := Go.Ground.data }], guard := none }) (by kernel_rfl) rfl (fun K hK => ?_)
    go_simp
    try go_wp2_with fail
    refine hK.out _ _ (fun _ => ⟨cell_below (HC0.out.two.below HB1.out).c0 (bel_al (Below.refl _ _)), cell_below (HC0.out.two.below HB1.out).c1 (bel_al (Below.refl _ _))⟩) ?_
    clear hK K
    try simp only [Act.put, List.setIfInBounds_toArray, List.set_cons_zero, List.set_cons_succ]
    change AnyK _ _ _ _ _ _ _ _ _ (W1.alloc (.cells #[ptr C] 32))
    have HB2 : Hid (Below W0.heap.size W0 (W1.alloc (.cells #[ptr C] 32))) := chain HB1.out (bel_al (Below.refl _ _))
    have HC2 := hide (cell_top W1 (ptr C) 32 _ rfl)
    have HV2 := hide (HV1.out.below (bel_al (Below.refl _ _) : Below W1.heap.size W1 (W1.alloc (.cells #[ptr C] 32))))
    generalize W1.alloc (.cells #[ptr C] 32) = W2 at *
    refine anyK_one (i := 8) (o := { dst := some 57, op := Go.Op.call { callee := Go.Callee.builtin Go.Builtin.append, args := #[Go.Operand.tmp 54, Go.Operand.tmp 56], argTypes := #[25, 25] }, type := 25, pos := "law.go:163", after := #[{ on := 5, ground := Go.Ground.data }, { on := 7, ground := Go.Ground.data }], guard := none }) (by kernel_rfl) rfl (fun K hK => ?_)
    refine step_ptr 25 32 Tryd.underlying25 infoC rfl (.tmp 54) (.tmp 56) rfl (B + 1) v1 cs rfl (ownsRow_below HC0.out.r1 HB2.out) W1.heap.size C rfl HC2.out h1 (Nat.le_trans HBL0.out (Below.size HB2.out)) ?_
    intro g5 c5 w5 ho hf hq
    obtain ⟨m1, m2, m3, m4, m5⟩ := mid13 HC0.out HB2.out ho hf hq (Below.refl _ _)
    have HV5 := hide (HV2.out.frm hf (fun b off e he => by
      simp only [Option.some.injEq, Addr.mk.injEq, and_true] at e
      have h9 := HOW0.out _ he
      skip
      omega))
    refine hK.out _ _ (fun _ => ⟨m1.c0, m1.c1⟩) ?_
    clear hK K ho hf hq
    try simp only [Act.put, List.setIfInBounds_toArray, List.set_cons_zero, List.set_cons_succ]
    exact r9e x5 u7 u8 u9 u10 u11 u12 u13 u14 u15 u16 u17 u18 u19 u20 u21 u22 u23 u24 u25 u26 u27 u28 u29 u30 u31 u32 u33 u34 u35 u36 u37 u38 u39 u40 u41 u42 u43 u44 u45 u46 u47 u48 hn hS h1 h2 HC0 Q HFIN g5 c5 _ _ _ _ _ _ _ _ _ _ _ _ _ m1 m2 m3 HV5 m4 m5

/-- A new pair of cursors over bytes of their own. -/
theorem open_went {w0 w wc w9 : World} {B C G D H cp n : Nat} {v1 v2 v1' v2' : Value} {xs : List RI} {L : List Nat} (h : Rd w B v1 v2 xs) (hn : n ≤ 140737488351232) (hb0 : Below w0.heap.size w0 w) (hv : w0.heap.size ≤ B ∧ (∀ k, v1.ownBlock = some k → w0.heap.size ≤ k) ∧ (∀ k, v2.ownBlock = some k → w0.heap.size ≤ k)) (hb : Below w.heap.size w wc) (hk : Cur wc C G n 0 n L) (hcg : w.heap.size ≤ C ∧ w.heap.size ≤ G ∧ G < C)
    (q1 : Csr w9 B v1' v2' (xs.map RI.c ++ [C]) (xs.map RI.d ++ [D])) (q2 : Doc w9 D H n cp 0 n L) (q3 : wc.heap.size ≤ D) (q4 : wc.heap.size ≤ H) (q5 : Frm (fun k => k = B ∨ v1.ownBlock = some k ∨ v2.ownBlock = some k) wc w9)
    (q6 : ∀ k, v1'.ownBlock = some k → v1.ownBlock = some k ∨ (wc.heap.size ≤ k ∧ k ≠ D ∧ k ≠ H)) (q7 : ∀ k, v2'.ownBlock = some k → v2.ownBlock = some k ∨ (wc.heap.size ≤ k ∧ k ≠ D ∧ k ≠ H)) :
    Went w0 B xs.length (.returned (.bool true)) w9 := by
  have hB : B < w.heap.size := block_lt_of_cell h.csr.two.c0
  have o1 : ∀ k, v1.ownBlock = some k → k < w.heap.size := fun k hk => (World.ownsRow.lt h.csr.r1 k hk).2
  have o2 : ∀ k, v2.ownBlock = some k → k < w.heap.size := fun k hk => (World.ownsRow.lt h.csr.r2 k hk).2
  have hcl := hk.lt
  have hdl := q2.lt
  have hhl := q2.ne
  have s1 := hb.size
  have s5 := q5.size
  have hR := h.below hb
  have nw : ∀ k, w.heap.size ≤ k → ¬ (k = B ∨ v1.ownBlock = some k ∨ v2.ownBlock = some k) := fun k hk e => by
    rcases e with e | e | e
    · omega
    · have := o1 k e; omega
    · have := o2 k e; omega
  have low : ∀ (j : Nat) y k, xs[j]? = some y → y.at k → k < w.heap.size := fun j y k hy hk => (h.far j y k hy hk).2.1
  refine ⟨rfl, v1', v2', xs ++ [⟨C, G, n, 0, n, L, D, H, cp⟩], ?_, by rw [List.length_append]; exact Nat.le_refl _, ?_⟩
  · refine hR.more (x := ⟨C, G, n, 0, n, L, D, H, cp⟩) q1 ⟨hk.frm q5 (nw C hcg.1) (nw G hcg.2.1), q2, hn⟩ ?_ (by show C ≠ D; omega) ?_ ?_ ?_ ⟨by show G ≠ C; omega, by show G ≠ D; omega, by show H ≠ C; omega, by show H ≠ D; exact hhl.1⟩ q5 (fun k e => (q6 k e).imp id (fun a => a.1)) (fun k e => (q7 k e).imp id (fun a => a.1))
    · intro k hk'
      have e1 : k = C ∨ k = D ∨ k = G ∨ k = H := hk'
      refine ⟨by rcases e1 with e | e | e | e <;> omega, by rcases e1 with e | e | e | e <;> omega, fun e => ?_, fun e => ?_⟩
      · rcases q6 k e with e2 | e2
        · have := o1 k e2
          rcases e1 with e | e | e | e <;> omega
        · rcases e1 with e | e | e | e <;> omega
      · rcases q7 k e with e2 | e2
        · have := o2 k e2
          rcases e1 with e | e | e | e <;> omega
        · rcases e1 with e | e | e | e <;> omega
    · intro j y hy
      have a1 := low j y y.c hy (.inl rfl)
      have a2 := low j y y.d hy (.inr (.inl rfl))
      exact ⟨by show C ≠ y.c; omega, by show C ≠ y.d; omega, by show D ≠ y.c; omega, by show D ≠ y.d; omega⟩
    · intro j y hy
      have a1 := low j y y.c hy (.inl rfl)
      have a2 := low j y y.d hy (.inr (.inl rfl))
      exact ⟨by show G ≠ y.c; omega, by show G ≠ y.d; omega, by show H ≠ y.c; omega, by show H ≠ y.d; omega⟩
    · intro j y hy
      have a1 := low j y y.g hy (.inr (.inr (.inl rfl)))
      have a2 := low j y y.h hy (.inr (.inr (.inr rfl)))
      exact ⟨by show y.g ≠ C; omega, by show y.g ≠ D; omega, by show y.h ≠ C; omega, by show y.h ≠ D; omega⟩
  · have b1 : Below w0.heap.size w0 wc := chain hb0 hb
    exact b1.trans (q5.below b1.size (fun k e => by
      rcases e with e | e | e
      · omega
      · exact hv.2.1 k e
      · exact hv.2.2 k e))

set_option maxRecDepth 100000 in
set_option maxHeartbeats 1000000 in
theorem open_rd (w0 : World) (B : Nat) (v1 v2 : Value) (xs : List RI) (S : ByteArray) (w : World) (hr : Rd w B v1 v2 xs) (hb0 : Below w0.heap.size w0 w) (hB0 : w0.heap.size ≤ B) (hl : xs.length + 1 ≤ 17592186044416) (hS : S.size ≤ 140737488351232) :
    Calls Tryd.prog 10 #[.pointer (some ⟨B, 0, none⟩), .string S] w fun e w' => Went w0 B xs.length e w' := by
  have HR := hide hr
  have HB0 := hide hb0
  have HBV : Hid (w0.heap.size ≤ B ∧ (∀ k, v1.ownBlock = some k → w0.heap.size ≤ k) ∧ (∀ k, v2.ownBlock = some k → w0.heap.size ≤ k)) := ⟨hB0, fun k hk => by have := (World.ownsRow.lt hr.csr.r1 k hk).1; omega, fun k hk => by have := (World.ownsRow.lt hr.csr.r2 k hk).1; omega⟩
  have h := hr.csr
  have h1 : (xs.map RI.c).length + 1 ≤ 17592186044416 := by rw [List.length_map]; exact hl
  have h2 : (xs.map RI.d).length + 1 ≤ 17592186044416 := by rw [List.length_map]; exact hl
  have H1 := hide h1
  have H2 := hide h2
  clear hr hb0 hB0 hl h1 h2
  have H := hide h
  have hsz : (bytesOf S).length = S.size := bytesOf_len S
  have HSL := hide (bytesOf_lt S)
  have HST := hide (str_bytesOf S)
  obtain ⟨n, hn⟩ : ∃ n, S.size = n := ⟨_, rfl⟩
  rw [hn] at hS hsz
  have HZ := hide hsz
  have hn1 : IntKind.i64.wrap ((n : Int) + 1) = ((n + 1 : Nat) : Int) := by rw [IntKind.wrap_i64]; omega
  have HL2 : Hid (([] ++ bytesOf S).length + 1 ≤ 140737488355328) := by unfold Hid; rw [List.nil_append, HZ.out]; omega
  have HLL : Hid (([] ++ bytesOf S ++ [55]).length = n + 1) := by unfold Hid; rw [List.nil_append, List.length_append, HZ.out]; rfl
  clear h hsz
  go_enter Tryd.func10, Tryd.ntmps10
  go_wp2_with (first
    | (at_make; refine make_cap rfl (.const (.int .i64 0)) (.tmp 10) rfl _ (n + 1) rfl rfl (by first | rfl | omega | simp) (by omega) ?_; intro w1 ho hb; have HO1 := hide ho; have HB1 := hide hb; clear ho hb)
    | (refine append_str rfl (.tmp 11) (.tmp 12) rfl w.heap.size _ [] rfl HO1.out S rfl (by rw [hn]; simp; omega) HB1.out.size ?_; intro v2' w2 ho hf; have HO2 := hide ho; have HB2 := hide (HB1.out.trans (hf.below HB1.out.size (fun k e => (World.ownsRow.lt HO1.out k e).1))); clear ho hf; have HA2 : Hid (Below w2.heap.size w2 (w2.alloc (.cells #[.int .u8 55] 5))) := (Below.refl _ _).alloc (Nat.le_refl _) _; have HO2a := hide (HO2.out.frm (S := fun _ => False) (Frm.ofBelow HA2.out) (fun _ _ h => h)))
    | (refine append_lie rfl (.tmp 13) (.tmp 14) rfl w.heap.size v2' _ rfl HO2a.out _ 1 1 [55] rfl (one_byte w2 55 (by decide) _) HL2.out (chain HB2.out HA2.out).size ?_; intro v3 w3 ho hf hq; obtain ⟨g3, c3, rfl, hg3, hc3⟩ := own_some ho HLL.out (by omega); have HO3 := hide ho; have HG3 := hide hg3; have hc3' : n ≤ c3 := Nat.le_of_succ_le hc3; have hc4 : (n : Int) ≤ (c3 : Int) := Int.ofNat_le.2 hc3'; have HB3 := hide ((chain HB2.out HA2.out).trans (hf.below (chain HB2.out HA2.out).size (fun k e => (World.ownsRow.lt HO2.out k e).1))); clear ho hf hq hg3))
  have HLS : Hid (∀ c ∈ [] ++ bytesOf S ++ [55], c < 256) := by
    intro c hc
    rw [List.nil_append] at hc
    rcases List.mem_append.1 hc with hc | hc
    · exact HSL.out c hc
    · rw [List.mem_singleton.1 hc]; decide
  have HX3 := hide (HO3.out.bts HLL.out (by omega) HLS.out)
  have HX3n : Hid (Bts w3 (some ⟨g3, 0, none⟩) n c3 (bytesOf S)) := by
    have := HX3.out.take n (by omega)
    rw [List.nil_append, List.take_left' HZ.out] at this
    exact this
  refine Calls.mono (copen_any _ n c3 (bytesOf S) w3 HX3n.out) ?_
  rintro e w4 ⟨C, hC, rfl, hk, hb⟩
  have HC4 := hide hC
  have HK4 := hide hk
  have HB4 := hide (chain HB3.out hb)
  have HO4 := hide (HO3.out.frm (S := fun _ => False) (Frm.ofBelow hb) (fun _ _ h => h))
  have s1 := bts_string (HX3n.out.below hb)
  rw [HST.out] at s1
  have HLT : Hid (g3 < w3.heap.size) := (World.ownsRow.lt HO3.out _ rfl).2
  have k55 : w4.cell? ⟨g3, n, none⟩ = some (.int .u8 55) := by
    obtain ⟨b', off', ha, c', hl, hc⟩ := (HX3.out.below hb).cell n (by omega)
    simp only [Option.some.injEq, Addr.mk.injEq, and_true] at ha
    obtain ⟨rfl, rfl⟩ := ha
    rw [List.nil_append, List.getElem?_append_right (by rw [HZ.out]; exact Nat.le_refl _), HZ.out, Nat.sub_self] at hl
    simp only [List.getElem?_cons_zero, Option.some.injEq] at hl
    rw [Nat.zero_add] at hc
    rw [hc, ← hl]
    rfl
  clear hC hk hb HO1 HO2 HB1 HB2 HO3 HX3
  go_upto_block 0 with fail
  clear s1 k55
  go_cut [7] from 8 to 48 (fun v wx => ∃ l', Hid (l'.length = n + 1) ∧ Hid (Own wx w.heap.size (.slice (some ⟨g3, 0, none⟩) (n + 1) c3) l') ∧ Hid (Frm (fun j => j = g3) w4 wx))
  case first =>
    go_wp2_with fail
    go_loopw [7] (fun i wr => ∃ (k : Nat) (l' : List Nat), k ≤ n + 1 ∧ i = .int .i64 (k : Int) ∧ Hid (l'.length = n + 1) ∧ Hid (Own wr w.heap.size (.slice (some ⟨g3, 0, none⟩) (n + 1) c3) l') ∧ Hid (Frm (fun j => j = g3) w4 wr)) (fun i _ => n + 1 - (intOf i).toNat)
    case atStart => exact ⟨0, _, by omega, rfl, HLL, HO4, Frm.refl _ _⟩
    case round =>
      obtain ⟨k, l', hk, rfl, HL', HOR, HFR⟩ := hrel
      by_cases hlt : k < n + 1
      · obtain ⟨x, hx⟩ : ∃ x, l'[k]? = some x := ⟨_, List.getElem?_eq_getElem (by rw [HL'.out]; exact hlt)⟩
        have kk := HOR.out.cellAt HL'.out k x hx
        have kf := HOR.out.frozenAt HL'.out k
        have HS := hide (HOR.out.stored HL'.out k 44)
        have hk1 : (k : Int) < (n : Int) + 1 := by omega
        clear hx
        go_wp2
        refine ⟨⟨k + 1, l'.set k 44, by omega, by first | rfl | simp, ?_, HS, HFR.out.trans (frm_setCell wr ⟨g3, k, none⟩ _) (fun j _ t => t)⟩, by simp [intOf]; omega⟩
        unfold Hid
        rw [List.length_set, HL'.out]
      · obtain rfl : k = n + 1 := by omega
        go_wp2
        go_meet
        exact ⟨l', HL', HOR, HFR⟩
  case rest =>
    obtain ⟨l', HL', HOR, HFR⟩ := hcut
    have HK5 := hide (HK4.out.frm HFR.out (fun e => by have := HLT.out; have := HC4.out; omega) (fun e => by have := HLT.out; omega))
    have HB5 := hide (HB4.out.trans (HFR.out.below HB4.out.size (fun j e => by have := HG3.out; omega)))
    have HCS5 := hide (H.out.frmB HB5.out)
    have HCG : Hid (w.heap.size ≤ C ∧ w.heap.size ≤ w3.heap.size ∧ w3.heap.size < C) := ⟨by have := HC4.out; have := HB3.out.size; omega, HB3.out.size, HC4.out⟩
    go_wp2_with fail
    refine wp_onlyN ?_
    refine r9d _ _ _ _ _ _ _ _ _ _ _ _ _ _ _ _ _ _ _ _ _ _ _ _ _ _ _ _ _ _ _ _ _ _ _ _ _ _ _ _ _ _ _ hn hS H1.out H2.out HCS5 _ ?hf
    case hf =>
    unfold Hid
    intro y49 y50 y51 y52 y53 y54 y55 y56 y57 y58 y59 y60 y61 y62 y63 y64 y65 y66 y67 y68 y69 y70 w9 hfin
    have HFIN := hide hfin
    clear hfin
    go_wp2
    go_ret
    obtain ⟨v1', v2', D, G', cp, q1, q2, q3, q4, q5, q6, q7⟩ := HFIN.out
    exact open_went HR.out hS HB0.out HBV.out HB5.out HK5.out HCG.out q1 q2 q3 q4 q5 q6 q7
end Go.Proofs.YtkkogkdalcigkaaDoor
