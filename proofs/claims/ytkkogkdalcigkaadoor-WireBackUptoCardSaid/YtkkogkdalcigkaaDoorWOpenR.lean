/-
  The last statement of the law's own open: two appends, a conversion and a call, their order drawn.
-/
import Derived.Test.YtkkogkdalcigkaaDoorWOpen1
import Derived.Test.YtkkogkdalcigkaaDoorRgK
namespace Go.Proofs.YtkkogkdalcigkaaDoor
open Go.RowKit FerryCrc
set_option linter.unusedVariables false
set_option linter.unusedSimpArgs false

/-- A post that holds at the ordinary end alone. -/
def OnlyN (R : Act → World → Prop) : Exit → Act → World → Prop
  | .normal, a, w => R a w
  | _, _, _ => False
/-- The operations of that statement. -/
def ops9 : Array Oper := #[{ dst := some 49, op := Op.move (Operand.tmp 0), type := 24, pos := "law.go:163", after := #[], guard := none },
    { dst := some 50, op := Op.move (Operand.tmp 0), type := 24, pos := "law.go:163", after := #[{ on := 20, ground := Ground.gcOnly Departure.lateStores }], guard := none },
    { dst := some 51, op := Op.move (Operand.tmp 0), type := 24, pos := "law.go:163", after := #[], guard := none },
    { dst := some 52, op := Op.nilCheck (Operand.tmp 51), type := 0, pos := "law.go:163", after := #[{ on := 2, ground := Ground.data }], guard := none },
    { dst := some 53, op := Op.fieldAddr 28 (Operand.tmp 52) 0, type := 0, pos := "law.go:163", after := #[{ on := 3, ground := Ground.data }], guard := none },
    { dst := some 54, op := Op.load 25 (Operand.tmp 53), type := 25, pos := "law.go:163", after := #[{ on := 4, ground := Ground.data }], guard := none },
    { dst := some 55, op := Op.move (Operand.tmp 6), type := 32, pos := "law.go:163", after := #[], guard := none },
    { dst := some 56, op := Op.buildSlice 25 1 #[(0, Operand.tmp 55)], type := 25, pos := "law.go:163", after := #[{ on := 6, ground := Ground.data }], guard := none },
    { dst := some 57, op := Op.call { callee := Callee.builtin Builtin.append, args := #[Operand.tmp 54, Operand.tmp 56], argTypes := #[25, 25] }, type := 25, pos := "law.go:163", after := #[{ on := 5, ground := Ground.data }, { on := 7, ground := Ground.data }], guard := none },
    { dst := some 58, op := Op.move (Operand.tmp 0), type := 24, pos := "law.go:163", after := #[], guard := none },
    { dst := some 59, op := Op.nilCheck (Operand.tmp 58), type := 0, pos := "law.go:163", after := #[{ on := 9, ground := Ground.data }], guard := none },
    { dst := some 60, op := Op.fieldAddr 28 (Operand.tmp 59) 1, type := 0, pos := "law.go:163", after := #[{ on := 10, ground := Ground.data }], guard := none },
    { dst := some 61, op := Op.load 26 (Operand.tmp 60), type := 26, pos := "law.go:163", after := #[{ on := 11, ground := Ground.data }], guard := none },
    { dst := some 62, op := Op.move (Operand.tmp 1), type := 9, pos := "law.go:163", after := #[], guard := none },
    { dst := some 63, op := Op.convert 9 41 (Operand.tmp 62), type := 41, pos := "law.go:163", after := #[{ on := 13, ground := Ground.data }], guard := none },
    { dst := some 64, op := Op.call { callee := Callee.value (Operand.func 46), args := #[Operand.tmp 63], argTypes := #[41] }, type := 87, pos := "law.go:163", after := #[{ on := 14, ground := Ground.data }, { on := 8, ground := Ground.chain }], guard := none },
    { dst := some 65, op := Op.buildSlice 26 1 #[(0, Operand.tmp 64)], type := 26, pos := "law.go:163", after := #[{ on := 15, ground := Ground.data }], guard := none },
    { dst := some 66, op := Op.call { callee := Callee.builtin Builtin.append, args := #[Operand.tmp 61, Operand.tmp 65], argTypes := #[26, 26] }, type := 26, pos := "law.go:163", after := #[{ on := 12, ground := Ground.data }, { on := 16, ground := Ground.data }, { on := 15, ground := Ground.chain }], guard := none },
    { dst := some 67, op := Op.nilCheck (Operand.tmp 49), type := 0, pos := "law.go:163", after := #[{ on := 0, ground := Ground.data }, { on := 0, ground := Ground.phase }, { on := 1, ground := Ground.textOnly Departure.lateStores }, { on := 2, ground := Ground.phase }, { on := 3, ground := Ground.phase }, { on := 4, ground := Ground.phase }, { on := 5, ground := Ground.phase }, { on := 6, ground := Ground.phase }, { on := 7, ground := Ground.phase }, { on := 8, ground := Ground.phase }, { on := 9, ground := Ground.textOnly Departure.lateStores }, { on := 10, ground := Ground.textOnly Departure.lateStoresUnsure }, { on := 11, ground := Ground.textOnly Departure.lateStoresUnsure }, { on := 12, ground := Ground.phase }, { on := 13, ground := Ground.textOnly Departure.lateStores }, { on := 14, ground := Ground.textOnly Departure.lateStoresUnsure }, { on := 15, ground := Ground.phase }, { on := 16, ground := Ground.textOnly Departure.lateStoresUnsure }, { on := 17, ground := Ground.phase }], guard := none },
    { dst := some 68, op := Op.fieldAddr 28 (Operand.tmp 67) 0, type := 0, pos := "law.go:163", after := #[{ on := 18, ground := Ground.data }, { on := 0, ground := Ground.phase }, { on := 1, ground := Ground.textOnly Departure.lateStores }, { on := 2, ground := Ground.phase }, { on := 3, ground := Ground.phase }, { on := 4, ground := Ground.phase }, { on := 5, ground := Ground.phase }, { on := 6, ground := Ground.phase }, { on := 7, ground := Ground.phase }, { on := 8, ground := Ground.phase }, { on := 9, ground := Ground.textOnly Departure.lateStores }, { on := 10, ground := Ground.textOnly Departure.lateStoresUnsure }, { on := 11, ground := Ground.textOnly Departure.lateStoresUnsure }, { on := 12, ground := Ground.phase }, { on := 13, ground := Ground.textOnly Departure.lateStores }, { on := 14, ground := Ground.textOnly Departure.lateStoresUnsure }, { on := 15, ground := Ground.phase }, { on := 16, ground := Ground.textOnly Departure.lateStoresUnsure }, { on := 17, ground := Ground.phase }], guard := none },
    { dst := none, op := Op.store 25 (Operand.tmp 68) (Operand.tmp 57), type := 0, pos := "law.go:163", after := #[{ on := 19, ground := Ground.data }, { on := 8, ground := Ground.data }, { on := 17, ground := Ground.chain }, { on := 0, ground := Ground.phase }, { on := 1, ground := Ground.textOnly Departure.lateStores }, { on := 2, ground := Ground.phase }, { on := 3, ground := Ground.phase }, { on := 4, ground := Ground.phase }, { on := 5, ground := Ground.phase }, { on := 6, ground := Ground.phase }, { on := 7, ground := Ground.phase }, { on := 8, ground := Ground.phase }, { on := 9, ground := Ground.textOnly Departure.lateStores }, { on := 10, ground := Ground.textOnly Departure.lateStoresUnsure }, { on := 11, ground := Ground.textOnly Departure.lateStoresUnsure }, { on := 12, ground := Ground.phase }, { on := 13, ground := Ground.textOnly Departure.lateStores }, { on := 14, ground := Ground.textOnly Departure.lateStoresUnsure }, { on := 15, ground := Ground.phase }, { on := 16, ground := Ground.textOnly Departure.lateStoresUnsure }, { on := 17, ground := Ground.phase }], guard := none },
    { dst := some 69, op := Op.nilCheck (Operand.tmp 50), type := 0, pos := "law.go:163", after := #[{ on := 1, ground := Ground.data }, { on := 0, ground := Ground.phase }, { on := 1, ground := Ground.phase }, { on := 2, ground := Ground.phase }, { on := 3, ground := Ground.phase }, { on := 4, ground := Ground.phase }, { on := 5, ground := Ground.phase }, { on := 6, ground := Ground.phase }, { on := 7, ground := Ground.phase }, { on := 8, ground := Ground.phase }, { on := 9, ground := Ground.phase }, { on := 10, ground := Ground.phase }, { on := 11, ground := Ground.phase }, { on := 12, ground := Ground.phase }, { on := 13, ground := Ground.phase }, { on := 14, ground := Ground.phase }, { on := 15, ground := Ground.phase }, { on := 16, ground := Ground.phase }, { on := 17, ground := Ground.phase }, { on := 18, ground := Ground.phase }, { on := 19, ground := Ground.phase }, { on := 20, ground := Ground.phase }], guard := none },
    { dst := some 70, op := Op.fieldAddr 28 (Operand.tmp 69) 1, type := 0, pos := "law.go:163", after := #[{ on := 21, ground := Ground.data }, { on := 0, ground := Ground.phase }, { on := 1, ground := Ground.phase }, { on := 2, ground := Ground.phase }, { on := 3, ground := Ground.phase }, { on := 4, ground := Ground.phase }, { on := 5, ground := Ground.phase }, { on := 6, ground := Ground.phase }, { on := 7, ground := Ground.phase }, { on := 8, ground := Ground.phase }, { on := 9, ground := Ground.phase }, { on := 10, ground := Ground.phase }, { on := 11, ground := Ground.phase }, { on := 12, ground := Ground.phase }, { on := 13, ground := Ground.phase }, { on := 14, ground := Ground.phase }, { on := 15, ground := Ground.phase }, { on := 16, ground := Ground.phase }, { on := 17, ground := Ground.phase }, { on := 18, ground := Ground.phase }, { on := 19, ground := Ground.phase }, { on := 20, ground := Ground.phase }], guard := none },
    { dst := none, op := Op.store 26 (Operand.tmp 70) (Operand.tmp 66), type := 0, pos := "law.go:163", after := #[{ on := 22, ground := Ground.data }, { on := 17, ground := Ground.data }, { on := 20, ground := Ground.chain }, { on := 0, ground := Ground.phase }, { on := 1, ground := Ground.phase }, { on := 2, ground := Ground.phase }, { on := 3, ground := Ground.phase }, { on := 4, ground := Ground.phase }, { on := 5, ground := Ground.phase }, { on := 6, ground := Ground.phase }, { on := 7, ground := Ground.phase }, { on := 8, ground := Ground.phase }, { on := 9, ground := Ground.phase }, { on := 10, ground := Ground.phase }, { on := 11, ground := Ground.phase }, { on := 12, ground := Ground.phase }, { on := 13, ground := Ground.phase }, { on := 14, ground := Ground.phase }, { on := 15, ground := Ground.phase }, { on := 16, ground := Ground.phase }, { on := 17, ground := Ground.phase }, { on := 18, ground := Ground.phase }, { on := 19, ground := Ground.phase }, { on := 20, ground := Ground.phase }], guard := none }]

/-- The world behind the conversion of a string to bytes. -/
def conv (X : World) (S : ByteArray) (n : Nat) : World := (X.alloc (.cells (bytesRow S (grownCap X n 0 5)) 5 ((bytesRow S (grownCap X n 0 5)).size, (bytesRow S (grownCap X n 0 5)).size + 1))).drew
theorem conv_below (X : World) (S : ByteArray) (n : Nat) : Below X.heap.size X (conv X S n) := bel_dr (bel_al (Below.refl _ _))
theorem conv_shown (X : World) (S : ByteArray) (n : Nat) (hn : S.size = n) (hS : n ≤ 140737488351232) : Bts (conv X S n) (some ⟨X.heap.size, 0, none⟩) n (grownCap X n 0 5) (bytesOf S) :=
  (conv_bts X S n _ X.heap.size rfl hn hS (grownCap_ge _ _ _ _) _ _).below (bel_dr (Below.refl _ _))

/-- What stands behind the first append and the conversion, whichever came first. -/
theorem mid5 {W0 X Y Z : World} {B C G n g5 c5 : Nat} {v1 v2 : Value} {cs ds : List Nat} {L : List Nat} (HC0 : Csr W0 B v1 v2 cs ds) (HK0 : Cur W0 C G n 0 n L) (hn1 : ∀ k, v1.ownBlock = some k → k ≠ C ∧ k ≠ G) (b0 : Below W0.heap.size W0 X)
    (ho : Y.ownsRow (B + 1) 32 1 (.slice (some ⟨g5, 0, none⟩) (cs.length + 1) c5) (cs ++ [C]).length ((cs ++ [C]).map ptr)) (hf : Frm (fun k => v1.ownBlock = some k) X Y) (hq : v1.ownBlock = some g5 ∨ g5 = X.heap.size) (b1 : Below Y.heap.size Y Z) :
    Two Z B v1 v2 ∧ Z.ownsRow (B + 1) 32 1 (.slice (some ⟨g5, 0, none⟩) (cs.length + 1) c5) (cs ++ [C]).length ((cs ++ [C]).map ptr) ∧ Z.ownsRow (B + 1) 87 1 v2 ds.length (ds.map ptr) ∧ Cur Z C G n 0 n L ∧ (v1.ownBlock = some g5 ∨ W0.heap.size ≤ g5) ∧ Frm (fun k => v1.ownBlock = some k) W0 Z := by
  refine ⟨((HC0.two.below b0).frm hf (fun e => by have := (World.ownsRow.lt HC0.r1 _ e).1; omega)).below b1, ownsRow_below ho b1, ownsRow_below (row_frm (ownsRow_below HC0.r2 b0) hf (fun k hk e => HC0.ne k e hk)) b1, ((HK0.below b0).frm hf (fun e => (hn1 _ e).1 rfl) (fun e => (hn1 _ e).2 rfl)).below b1, ?_, ((Frm.ofBelow (S := fun k => v1.ownBlock = some k) b0).trans hf (fun j _ t => t)).trans (Frm.ofBelow b1) (fun j _ t => t)⟩
  rcases hq with hq | hq
  · exact .inl hq
  · exact .inr (by rw [hq]; exact b0.size)

set_option maxRecDepth 100000 in
set_option maxHeartbeats 4000000 in
theorem r9b {w wc : World} {B C G n : Nat} {v1 v2 : Value} {cs ds : List Nat} {S : ByteArray} (x5 u7 u8 u9 u10 u11 u12 u13 u14 u15 u16 u17 u18 u19 u20 u21 u22 u23 u24 u25 u26 u27 u28 u29 u30 u31 u32 u33 u34 u35 u36 u37 u38 u39 u40 u41 u42 u43 u44 u45 u46 u47 u48 : Value) (hn : S.size = n) (hS : n ≤ 140737488351232) (h1 : cs.length + 1 ≤ 17592186044416) (h2 : ds.length + 1 ≤ 17592186044416) (H : Hid (Csr w B v1 v2 cs ds)) (HB5 : Hid (Below w.heap.size w wc)) (HK5 : Hid (Cur wc C G n 0 n (bytesOf S))) (hC : w.heap.size ≤ C) (hG : w.heap.size ≤ G) (hGl : G < wc.heap.size) (Q : Act → World → Prop)
    (fin : Hid (∀ (y49 y50 y51 y52 y53 y54 y55 y56 y57 y58 y59 y60 y61 y62 y63 y64 y65 y66 y67 y68 y69 y70 : Value) (w' : World), (∃ v1' v2' C G D, Csr w' B v1' v2' (cs ++ [C]) (ds ++ [D]) ∧ Cur w' C G n 0 n (bytesOf S) ∧ w.heap.size ≤ C ∧ w.heap.size ≤ G ∧ G < w'.heap.size ∧ Frm (fun k => k = B ∨ v1.ownBlock = some k ∨ v2.ownBlock = some k) w w' ∧ (∀ k, v1'.ownBlock = some k → v1.ownBlock = some k ∨ (w.heap.size ≤ k ∧ k ≠ C ∧ k ≠ G)) ∧ (∀ k, v2'.ownBlock = some k → v2.ownBlock = some k ∨ (w.heap.size ≤ k ∧ k ≠ C ∧ k ≠ G))) → Q { tmps := #[.pointer (some ⟨B, 0, none⟩), .string S, undef, undef, .bool false, x5, .pointer (some ⟨C, 0, none⟩), u7, u8, u9, u10, u11, u12, u13, u14, u15, u16, u17, u18, u19, u20, u21, u22, u23, u24, u25, u26, u27, u28, u29, u30, u31, u32, u33, u34, u35, u36, u37, u38, u39, u40, u41, u42, u43, u44, u45, u46, u47, u48, y49, y50, y51, y52, y53, y54, y55, y56, y57, y58, y59, y60, y61, y62, y63, y64, y65, y66, y67, y68, y69, y70], defers := [] } w'))
    (HCS : Hid (Csr wc B v1 v2 cs ds)) (g5 c5 c63 : Nat) (a63 : Option Addr) (y51 y52 y53 y54 y55 y56 y58 y59 y60 y62 : Value) (w5 : World) (HT5 : Hid (Two w5 B v1 v2))
    (HO5 : Hid (w5.ownsRow (B + 1) 32 1 (.slice (some ⟨g5, 0, none⟩) (cs.length + 1) c5) (cs ++ [C]).length ((cs ++ [C]).map ptr))) (HR5 : Hid (w5.ownsRow (B + 1) 87 1 v2 ds.length (ds.map ptr)))
    (HCV5 : Hid (Bts w5 a63 n c63 (bytesOf S))) (HK55 : Hid (Cur w5 C G n 0 n (bytesOf S))) (HQ5 : Hid (v1.ownBlock = some g5 ∨ wc.heap.size ≤ g5)) (HFW5 : Hid (Frm (fun k => v1.ownBlock = some k) wc w5)) :
    AnyK Tryd.prog .any ops9 (OnlyN Q) (fun wz => wz.cell? ⟨B, 0, none⟩ = some v1 ∧ wz.cell? ⟨B, 1, none⟩ = some v2) 18 9 #[true, true, true, true, true, true, true, true, true, true, true, true, true, true, true, false, false, false, false, false, false, false, false, false] { tmps := #[.pointer (some ⟨B, 0, none⟩), .string S, undef, undef, .bool false, x5, .pointer (some ⟨C, 0, none⟩), u7, u8, u9, u10, u11, u12, u13, u14, u15, u16, u17, u18, u19, u20, u21, u22, u23, u24, u25, u26, u27, u28, u29, u30, u31, u32, u33, u34, u35, u36, u37, u38, u39, u40, u41, u42, u43, u44, u45, u46, u47, u48, .pointer (some ⟨B, 0, none⟩), .pointer (some ⟨B, 0, none⟩), y51, y52, y53, y54, y55, y56, .slice (some ⟨g5, 0, none⟩) (cs.length + 1) c5, y58, y59, y60, v2, y62, .slice a63 n c63, undef, undef, undef, undef, undef, undef, undef], defers := [] } w5 := by
  have HCN : Hid (w.heap.size ≤ C ∧ w.heap.size ≤ G ∧ ∀ k, v1.ownBlock = some k → k < w.heap.size) := ⟨hC, hG, fun k hk => (World.ownsRow.lt H.out.r1 k hk).2⟩
  have HCD : Hid (∀ k, v2.ownBlock = some k → k < w.heap.size) := fun k hk => (World.ownsRow.lt H.out.r2 k hk).2
  have HSZ : Hid (wc.heap.size ≤ w5.heap.size) := HFW5.out.size
  have jl : B < w5.heap.size := block_lt_of_cell HT5.out.c0
  refine anyK_one (i := 15) (o := { dst := some 64, op := Op.call { callee := Callee.value (Operand.func 46), args := #[Operand.tmp 63], argTypes := #[41] }, type := 87, pos := "law.go:163", after := #[{ on := 14, ground := Ground.data }, { on := 8, ground := Ground.chain }], guard := none }) (by kernel_rfl) rfl (fun K hK => ?_)
  go_simp
  with_reducible refine Calls.mono (refOpen_any _ n _ (bytesOf S) _ HCV5.out) ?_
  rintro e w6 ⟨D, hD, rfl, hb⟩
  have HW6 := hide hb
  have HT6 := hide (HT5.out.below hb)
  clear hD hb
  try go_wp2_with fail
  refine hK.out _ _ (fun _ => ⟨HT6.out.c0, HT6.out.c1⟩) ?_
  clear hK K
  try simp only [Act.put, List.setIfInBounds_toArray, List.set_cons_zero, List.set_cons_succ]
  refine anyK_one (i := 16) (o := { dst := some 65, op := Op.buildSlice 26 1 #[(0, Operand.tmp 64)], type := 26, pos := "law.go:163", after := #[{ on := 15, ground := Ground.data }], guard := none }) (by kernel_rfl) rfl (fun K hK => ?_)
  go_simp
  try go_wp2_with fail
  refine hK.out _ _ (fun _ => ⟨cell_below HT6.out.c0 (bel_al (Below.refl _ _)), cell_below HT6.out.c1 (bel_al (Below.refl _ _))⟩) ?_
  clear hK K
  try simp only [Act.put, List.setIfInBounds_toArray, List.set_cons_zero, List.set_cons_succ]
  refine anyK_one (i := 17) (o := { dst := some 66, op := Op.call { callee := Callee.builtin Builtin.append, args := #[Operand.tmp 61, Operand.tmp 65], argTypes := #[26, 26] }, type := 26, pos := "law.go:163", after := #[{ on := 12, ground := Ground.data }, { on := 16, ground := Ground.data }, { on := 15, ground := Ground.chain }], guard := none }) (by kernel_rfl) rfl (fun K hK => ?_)
  refine step_ptr 26 87 Tryd.underlying26 infoD rfl (.tmp 61) (.tmp 65) rfl (B + 1) v2 ds rfl (ownsRow_below HR5.out (chain HW6.out (bel_al (Below.refl _ _)))) w6.heap.size D rfl (cell_top w6 (ptr D) 87 _ rfl) h2 (Nat.le_trans (show B + 1 ≤ w5.heap.size from jl) (chain HW6.out (bel_al (Below.refl _ _))).size) ?_
  intro g7 c7 w7 ho hf hq
  have HO7 := hide ho
  have HQ7 : Hid (v2.ownBlock = some g7 ∨ w6.heap.size ≤ g7) := (by
    rcases hq with hq | hq
    · exact Or.inl hq
    · exact Or.inr (by rw [hq]; exact (bel_al (Below.refl _ _) : Below w6.heap.size w6 (w6.alloc _)).size))
  have HT7 := hide ((HT5.out.below (chain HW6.out (bel_al (Below.refl _ _)))).frm hf (fun e => by have := (World.ownsRow.lt HCS.out.r2 _ e).1; omega))
  have HO57 := hide (row_frm (ownsRow_below HO5.out (chain HW6.out (bel_al (Below.refl _ _)))) hf (fun k hk e => by
    simp only [Value.ownBlock, Option.some.injEq] at hk
    subst hk
    rcases HQ5.out with h8 | h8
    · exact HCS.out.ne _ h8 e
    · have h9 := (World.ownsRow.lt HCS.out.r2 _ e).2; omega))
  have HK7 := hide ((HK55.out.below (chain HW6.out (bel_al (Below.refl _ _)))).frm hf (fun e => by have h8 := HCD.out _ e; have h9 := HCN.out.1; omega) (fun e => by have h8 := HCD.out _ e; have h9 := HCN.out.2.1; omega))
  have HFW7 := hide ((HFW5.out.mono (T := fun k => v1.ownBlock = some k ∨ v2.ownBlock = some k) (fun j _ t => Or.inl t)).trans ((Frm.ofBelow (S := fun k => v2.ownBlock = some k) (chain HW6.out (bel_al (Below.refl _ _)))).trans hf (fun j _ t => t)) (fun j _ t => Or.inr t))
  have y0 := HT7.out.c0
  have y1 := HT7.out.c1
  have z0 := HT7.out.f0
  have z1 := HT7.out.f1
  clear ho hf hq
  refine hK.out _ _ (fun _ => ⟨HT7.out.c0, HT7.out.c1⟩) ?_
  clear hK K
  try simp only [Act.put, List.setIfInBounds_toArray, List.set_cons_zero, List.set_cons_succ]
  refine anyK_one (i := 18) (o := { dst := some 67, op := Op.nilCheck (Operand.tmp 49), type := 0, pos := "law.go:163", after := #[{ on := 0, ground := Ground.data }, { on := 0, ground := Ground.phase }, { on := 1, ground := Ground.textOnly Departure.lateStores }, { on := 2, ground := Ground.phase }, { on := 3, ground := Ground.phase }, { on := 4, ground := Ground.phase }, { on := 5, ground := Ground.phase }, { on := 6, ground := Ground.phase }, { on := 7, ground := Ground.phase }, { on := 8, ground := Ground.phase }, { on := 9, ground := Ground.textOnly Departure.lateStores }, { on := 10, ground := Ground.textOnly Departure.lateStoresUnsure }, { on := 11, ground := Ground.textOnly Departure.lateStoresUnsure }, { on := 12, ground := Ground.phase }, { on := 13, ground := Ground.textOnly Departure.lateStores }, { on := 14, ground := Ground.textOnly Departure.lateStoresUnsure }, { on := 15, ground := Ground.phase }, { on := 16, ground := Ground.textOnly Departure.lateStoresUnsure }, { on := 17, ground := Ground.phase }], guard := none }) (by kernel_rfl) rfl (fun K hK => ?_)
  go_simp
  try go_wp2_with fail
  refine hK.out _ _ (fun h => absurd h (by decide)) ?_
  clear hK K
  try simp only [Act.put, List.setIfInBounds_toArray, List.set_cons_zero, List.set_cons_succ]
  refine anyK_one (i := 19) (o := { dst := some 68, op := Op.fieldAddr 28 (Operand.tmp 67) 0, type := 0, pos := "law.go:163", after := #[{ on := 18, ground := Ground.data }, { on := 0, ground := Ground.phase }, { on := 1, ground := Ground.textOnly Departure.lateStores }, { on := 2, ground := Ground.phase }, { on := 3, ground := Ground.phase }, { on := 4, ground := Ground.phase }, { on := 5, ground := Ground.phase }, { on := 6, ground := Ground.phase }, { on := 7, ground := Ground.phase }, { on := 8, ground := Ground.phase }, { on := 9, ground := Ground.textOnly Departure.lateStores }, { on := 10, ground := Ground.textOnly Departure.lateStoresUnsure }, { on := 11, ground := Ground.textOnly Departure.lateStoresUnsure }, { on := 12, ground := Ground.phase }, { on := 13, ground := Ground.textOnly Departure.lateStores }, { on := 14, ground := Ground.textOnly Departure.lateStoresUnsure }, { on := 15, ground := Ground.phase }, { on := 16, ground := Ground.textOnly Departure.lateStoresUnsure }, { on := 17, ground := Ground.phase }], guard := none }) (by kernel_rfl) rfl (fun K hK => ?_)
  go_simp
  try go_wp2_with fail
  refine hK.out _ _ (fun h => absurd h (by decide)) ?_
  clear hK K
  try simp only [Act.put, List.setIfInBounds_toArray, List.set_cons_zero, List.set_cons_succ]
  refine anyK_one (i := 20) (o := { dst := none, op := Op.store 25 (Operand.tmp 68) (Operand.tmp 57), type := 0, pos := "law.go:163", after := #[{ on := 19, ground := Ground.data }, { on := 8, ground := Ground.data }, { on := 17, ground := Ground.chain }, { on := 0, ground := Ground.phase }, { on := 1, ground := Ground.textOnly Departure.lateStores }, { on := 2, ground := Ground.phase }, { on := 3, ground := Ground.phase }, { on := 4, ground := Ground.phase }, { on := 5, ground := Ground.phase }, { on := 6, ground := Ground.phase }, { on := 7, ground := Ground.phase }, { on := 8, ground := Ground.phase }, { on := 9, ground := Ground.textOnly Departure.lateStores }, { on := 10, ground := Ground.textOnly Departure.lateStoresUnsure }, { on := 11, ground := Ground.textOnly Departure.lateStoresUnsure }, { on := 12, ground := Ground.phase }, { on := 13, ground := Ground.textOnly Departure.lateStores }, { on := 14, ground := Ground.textOnly Departure.lateStoresUnsure }, { on := 15, ground := Ground.phase }, { on := 16, ground := Ground.textOnly Departure.lateStoresUnsure }, { on := 17, ground := Ground.phase }], guard := none }) (by kernel_rfl) rfl (fun K hK => ?_)
  go_simp
  try go_wp2_with fail
  refine hK.out _ _ (fun h => absurd h (by decide)) ?_
  clear hK K
  try simp only [Act.put, List.setIfInBounds_toArray, List.set_cons_zero, List.set_cons_succ]
  refine anyK_one (i := 21) (o := { dst := some 69, op := Op.nilCheck (Operand.tmp 50), type := 0, pos := "law.go:163", after := #[{ on := 1, ground := Ground.data }, { on := 0, ground := Ground.phase }, { on := 1, ground := Ground.phase }, { on := 2, ground := Ground.phase }, { on := 3, ground := Ground.phase }, { on := 4, ground := Ground.phase }, { on := 5, ground := Ground.phase }, { on := 6, ground := Ground.phase }, { on := 7, ground := Ground.phase }, { on := 8, ground := Ground.phase }, { on := 9, ground := Ground.phase }, { on := 10, ground := Ground.phase }, { on := 11, ground := Ground.phase }, { on := 12, ground := Ground.phase }, { on := 13, ground := Ground.phase }, { on := 14, ground := Ground.phase }, { on := 15, ground := Ground.phase }, { on := 16, ground := Ground.phase }, { on := 17, ground := Ground.phase }, { on := 18, ground := Ground.phase }, { on := 19, ground := Ground.phase }, { on := 20, ground := Ground.phase }], guard := none }) (by kernel_rfl) rfl (fun K hK => ?_)
  go_simp
  try go_wp2_with fail
  refine hK.out _ _ (fun h => absurd h (by decide)) ?_
  clear hK K
  try simp only [Act.put, List.setIfInBounds_toArray, List.set_cons_zero, List.set_cons_succ]
  refine anyK_one (i := 22) (o := { dst := some 70, op := Op.fieldAddr 28 (Operand.tmp 69) 1, type := 0, pos := "law.go:163", after := #[{ on := 21, ground := Ground.data }, { on := 0, ground := Ground.phase }, { on := 1, ground := Ground.phase }, { on := 2, ground := Ground.phase }, { on := 3, ground := Ground.phase }, { on := 4, ground := Ground.phase }, { on := 5, ground := Ground.phase }, { on := 6, ground := Ground.phase }, { on := 7, ground := Ground.phase }, { on := 8, ground := Ground.phase }, { on := 9, ground := Ground.phase }, { on := 10, ground := Ground.phase }, { on := 11, ground := Ground.phase }, { on := 12, ground := Ground.phase }, { on := 13, ground := Ground.phase }, { on := 14, ground := Ground.phase }, { on := 15, ground := Ground.phase }, { on := 16, ground := Ground.phase }, { on := 17, ground := Ground.phase }, { on := 18, ground := Ground.phase }, { on := 19, ground := Ground.phase }, { on := 20, ground := Ground.phase }], guard := none }) (by kernel_rfl) rfl (fun K hK => ?_)
  go_simp
  try go_wp2_with fail
  refine hK.out _ _ (fun h => absurd h (by decide)) ?_
  clear hK K
  try simp only [Act.put, List.setIfInBounds_toArray, List.set_cons_zero, List.set_cons_succ]
  refine anyK_one (i := 23) (o := { dst := none, op := Op.store 26 (Operand.tmp 70) (Operand.tmp 66), type := 0, pos := "law.go:163", after := #[{ on := 22, ground := Ground.data }, { on := 17, ground := Ground.data }, { on := 20, ground := Ground.chain }, { on := 0, ground := Ground.phase }, { on := 1, ground := Ground.phase }, { on := 2, ground := Ground.phase }, { on := 3, ground := Ground.phase }, { on := 4, ground := Ground.phase }, { on := 5, ground := Ground.phase }, { on := 6, ground := Ground.phase }, { on := 7, ground := Ground.phase }, { on := 8, ground := Ground.phase }, { on := 9, ground := Ground.phase }, { on := 10, ground := Ground.phase }, { on := 11, ground := Ground.phase }, { on := 12, ground := Ground.phase }, { on := 13, ground := Ground.phase }, { on := 14, ground := Ground.phase }, { on := 15, ground := Ground.phase }, { on := 16, ground := Ground.phase }, { on := 17, ground := Ground.phase }, { on := 18, ground := Ground.phase }, { on := 19, ground := Ground.phase }, { on := 20, ground := Ground.phase }], guard := none }) (by kernel_rfl) rfl (fun K hK => ?_)
  go_simp
  try go_wp2_with fail
  refine hK.out _ _ (fun h => absurd h (by decide)) ?_
  clear hK K
  try simp only [Act.put, List.setIfInBounds_toArray, List.set_cons_zero, List.set_cons_succ]
  refine anyK_done (by kernel_rfl) ?_ _
  exact fin.out _ _ _ _ _ _ _ _ _ _ _ _ _ _ _ _ _ _ _ _ _ _ _ (open_fin H.out HB5.out HK5.out hC hG hGl HO5.out HQ5.out HW6.out HO57.out HO7.out HQ7.out HT7.out HK7.out HFW7.out HSZ.out)

set_option maxRecDepth 100000 in
set_option maxHeartbeats 4000000 in
theorem r9 {w wc : World} {B C G n : Nat} {v1 v2 : Value} {cs ds : List Nat} {S : ByteArray} (x5 u7 u8 u9 u10 u11 u12 u13 u14 u15 u16 u17 u18 u19 u20 u21 u22 u23 u24 u25 u26 u27 u28 u29 u30 u31 u32 u33 u34 u35 u36 u37 u38 u39 u40 u41 u42 u43 u44 u45 u46 u47 u48 : Value) (hn : S.size = n) (hS : n ≤ 140737488351232) (h1 : cs.length + 1 ≤ 17592186044416) (h2 : ds.length + 1 ≤ 17592186044416) (H : Hid (Csr w B v1 v2 cs ds)) (HB5 : Hid (Below w.heap.size w wc)) (HK5 : Hid (Cur wc C G n 0 n (bytesOf S))) (hC : w.heap.size ≤ C) (hG : w.heap.size ≤ G) (hGl : G < wc.heap.size) (Q : Act → World → Prop)
    (fin : Hid (∀ (y49 y50 y51 y52 y53 y54 y55 y56 y57 y58 y59 y60 y61 y62 y63 y64 y65 y66 y67 y68 y69 y70 : Value) (w' : World), (∃ v1' v2' C G D, Csr w' B v1' v2' (cs ++ [C]) (ds ++ [D]) ∧ Cur w' C G n 0 n (bytesOf S) ∧ w.heap.size ≤ C ∧ w.heap.size ≤ G ∧ G < w'.heap.size ∧ Frm (fun k => k = B ∨ v1.ownBlock = some k ∨ v2.ownBlock = some k) w w' ∧ (∀ k, v1'.ownBlock = some k → v1.ownBlock = some k ∨ (w.heap.size ≤ k ∧ k ≠ C ∧ k ≠ G)) ∧ (∀ k, v2'.ownBlock = some k → v2.ownBlock = some k ∨ (w.heap.size ≤ k ∧ k ≠ C ∧ k ≠ G))) → Q { tmps := #[.pointer (some ⟨B, 0, none⟩), .string S, undef, undef, .bool false, x5, .pointer (some ⟨C, 0, none⟩), u7, u8, u9, u10, u11, u12, u13, u14, u15, u16, u17, u18, u19, u20, u21, u22, u23, u24, u25, u26, u27, u28, u29, u30, u31, u32, u33, u34, u35, u36, u37, u38, u39, u40, u41, u42, u43, u44, u45, u46, u47, u48, y49, y50, y51, y52, y53, y54, y55, y56, y57, y58, y59, y60, y61, y62, y63, y64, y65, y66, y67, y68, y69, y70], defers := [] } w')) :
    Code.wp Tryd.prog (Code.region 9 ops9 true) (OnlyN Q) { tmps := #[.pointer (some ⟨B, 0, none⟩), .string S, undef, undef, .bool false, x5, .pointer (some ⟨C, 0, none⟩), u7, u8, u9, u10, u11, u12, u13, u14, u15, u16, u17, u18, u19, u20, u21, u22, u23, u24, u25, u26, u27, u28, u29, u30, u31, u32, u33, u34, u35, u36, u37, u38, u39, u40, u41, u42, u43, u44, u45, u46, u47, u48, undef, undef, undef, undef, undef, undef, undef, undef, undef, undef, undef, undef, undef, undef, undef, undef, undef, undef, undef, undef, undef, undef], defers := [] } wc := by
  have HCS := hide ((Csr.frmB H.out) (HB5.out))
  have k0 := HCS.out.two.c0
  have k1 := HCS.out.two.c1
  have hcv := fun wx => run_bytes_of_string (P := Tryd.prog) wx 9 41 5 S Tryd.underlying9 Tryd.underlying41 Tryd.underlying5
  rw [hn] at hcv
  have HBL : Hid (B + 1 ≤ wc.heap.size) := by unfold Hid; exact block_lt_of_cell HCS.out.two.c0
  have HCN : Hid (w.heap.size ≤ C ∧ w.heap.size ≤ G ∧ ∀ k, v1.ownBlock = some k → k < w.heap.size) := ⟨hC, hG, fun k hk => (World.ownsRow.lt H.out.r1 k hk).2⟩
  have HOWN : Hid (∀ k, v1.ownBlock = some k → k < wc.heap.size) := fun k hk => (World.ownsRow.lt HCS.out.r1 k hk).2
  have hH : wc.drew.cell? ⟨B, 0, none⟩ = some v1 ∧ wc.drew.cell? ⟨B, 1, none⟩ = some v2 := ⟨k0, k1⟩
  refine region_anyK (S := (fun wz => wz.cell? ⟨B, 0, none⟩ = some v1 ∧ wz.cell? ⟨B, 1, none⟩ = some v2)) (k := 18) (by kernel_rfl) ?_
  show AnyK Tryd.prog .any ops9 (OnlyN Q) (fun wz => wz.cell? ⟨B, 0, none⟩ = some v1 ∧ wz.cell? ⟨B, 1, none⟩ = some v2) 18 24 #[false, false, false, false, false, false, false, false, false, false, false, false, false, false, false, false, false, false, false, false, false, false, false, false] _ _
  refine anyK_takeP (i := 0) (oi := { dst := some 49, op := Op.move (Operand.tmp 0), type := 24, pos := "law.go:163", after := #[], guard := none }) (v := ?_) rfl (by kernel_rfl) (by kernel_rfl) (by kernel_rfl) (fun _ _ _ h => h) (by rfl) (fun _ => hH) (Or.inl ⟨by rfl, ?_⟩) ?_
  rotate_left
  · intro wz
    go_simp
    try with_reducible rfl
  try simp only [Act.put, List.setIfInBounds_toArray, List.set_cons_zero, List.set_cons_succ]
  refine anyK_takeP (i := 1) (oi := { dst := some 50, op := Op.move (Operand.tmp 0), type := 24, pos := "law.go:163", after := #[{ on := 20, ground := Ground.gcOnly Departure.lateStores }], guard := none }) (v := ?_) rfl (by kernel_rfl) (by kernel_rfl) (by kernel_rfl) (fun _ _ _ h => h) (by rfl) (fun _ => hH) (Or.inl ⟨by rfl, ?_⟩) ?_
  rotate_left
  · intro wz
    go_simp
    try with_reducible rfl
  try simp only [Act.put, List.setIfInBounds_toArray, List.set_cons_zero, List.set_cons_succ]
  refine anyK_takeP (i := 2) (oi := { dst := some 51, op := Op.move (Operand.tmp 0), type := 24, pos := "law.go:163", after := #[], guard := none }) (v := ?_) rfl (by kernel_rfl) (by kernel_rfl) (by kernel_rfl) (fun _ _ _ h => h) (by rfl) (fun _ => hH) (Or.inl ⟨by rfl, ?_⟩) ?_
  rotate_left
  · intro wz
    go_simp
    try with_reducible rfl
  try simp only [Act.put, List.setIfInBounds_toArray, List.set_cons_zero, List.set_cons_succ]
  refine anyK_takeP (i := 3) (oi := { dst := some 52, op := Op.nilCheck (Operand.tmp 51), type := 0, pos := "law.go:163", after := #[{ on := 2, ground := Ground.data }], guard := none }) (v := ?_) rfl (by kernel_rfl) (by kernel_rfl) (by kernel_rfl) (fun _ _ _ h => h) (by rfl) (fun _ => hH) (Or.inl ⟨by rfl, ?_⟩) ?_
  rotate_left
  · intro wz
    go_simp
    try with_reducible rfl
  try simp only [Act.put, List.setIfInBounds_toArray, List.set_cons_zero, List.set_cons_succ]
  refine anyK_takeP (i := 4) (oi := { dst := some 53, op := Op.fieldAddr 28 (Operand.tmp 52) 0, type := 0, pos := "law.go:163", after := #[{ on := 3, ground := Ground.data }], guard := none }) (v := ?_) rfl (by kernel_rfl) (by kernel_rfl) (by kernel_rfl) (fun _ _ _ h => h) (by rfl) (fun _ => hH) (Or.inl ⟨by rfl, ?_⟩) ?_
  rotate_left
  · intro wz
    go_simp
    try with_reducible rfl
  try simp only [Act.put, List.setIfInBounds_toArray, List.set_cons_zero, List.set_cons_succ]
  refine anyK_takeL (i := 5) (oi := { dst := some 54, op := Op.load 25 (Operand.tmp 53), type := 25, pos := "law.go:163", after := #[{ on := 4, ground := Ground.data }], guard := none }) (ok := { dst := some 67, op := Op.nilCheck (Operand.tmp 49), type := 0, pos := "law.go:163", after := #[{ on := 0, ground := Ground.data }, { on := 0, ground := Ground.phase }, { on := 1, ground := Ground.textOnly Departure.lateStores }, { on := 2, ground := Ground.phase }, { on := 3, ground := Ground.phase }, { on := 4, ground := Ground.phase }, { on := 5, ground := Ground.phase }, { on := 6, ground := Ground.phase }, { on := 7, ground := Ground.phase }, { on := 8, ground := Ground.phase }, { on := 9, ground := Ground.textOnly Departure.lateStores }, { on := 10, ground := Ground.textOnly Departure.lateStoresUnsure }, { on := 11, ground := Ground.textOnly Departure.lateStoresUnsure }, { on := 12, ground := Ground.phase }, { on := 13, ground := Ground.textOnly Departure.lateStores }, { on := 14, ground := Ground.textOnly Departure.lateStoresUnsure }, { on := 15, ground := Ground.phase }, { on := 16, ground := Ground.textOnly Departure.lateStoresUnsure }, { on := 17, ground := Ground.phase }], guard := none }) (v := ?_) rfl rfl (by kernel_rfl) (by kernel_rfl) (by kernel_rfl) (by kernel_rfl) (by kernel_rfl) (fun _ _ _ h => h) (by rfl) hH (Or.inl ⟨by rfl, ?_⟩) ?_
  rotate_left
  · intro wz hSw
    obtain ⟨q0, q1⟩ := hSw
    go_simp
    try with_reducible rfl
  try simp only [Act.put, List.setIfInBounds_toArray, List.set_cons_zero, List.set_cons_succ]
  refine anyK_takeP (i := 6) (oi := { dst := some 55, op := Op.move (Operand.tmp 6), type := 32, pos := "law.go:163", after := #[], guard := none }) (v := ?_) rfl (by kernel_rfl) (by kernel_rfl) (by kernel_rfl) (fun _ _ _ h => h) (by rfl) (fun _ => hH) (Or.inl ⟨by rfl, ?_⟩) ?_
  rotate_left
  · intro wz
    go_simp
    try with_reducible rfl
  try simp only [Act.put, List.setIfInBounds_toArray, List.set_cons_zero, List.set_cons_succ]
  refine anyK_takeP (i := 9) (oi := { dst := some 58, op := Op.move (Operand.tmp 0), type := 24, pos := "law.go:163", after := #[], guard := none }) (v := ?_) rfl (by kernel_rfl) (by kernel_rfl) (by kernel_rfl) (fun _ _ _ h => h) (by rfl) (fun _ => hH) (Or.inl ⟨by rfl, ?_⟩) ?_
  rotate_left
  · intro wz
    go_simp
    try with_reducible rfl
  try simp only [Act.put, List.setIfInBounds_toArray, List.set_cons_zero, List.set_cons_succ]
  refine anyK_takeP (i := 10) (oi := { dst := some 59, op := Op.nilCheck (Operand.tmp 58), type := 0, pos := "law.go:163", after := #[{ on := 9, ground := Ground.data }], guard := none }) (v := ?_) rfl (by kernel_rfl) (by kernel_rfl) (by kernel_rfl) (fun _ _ _ h => h) (by rfl) (fun _ => hH) (Or.inl ⟨by rfl, ?_⟩) ?_
  rotate_left
  · intro wz
    go_simp
    try with_reducible rfl
  try simp only [Act.put, List.setIfInBounds_toArray, List.set_cons_zero, List.set_cons_succ]
  refine anyK_takeP (i := 11) (oi := { dst := some 60, op := Op.fieldAddr 28 (Operand.tmp 59) 1, type := 0, pos := "law.go:163", after := #[{ on := 10, ground := Ground.data }], guard := none }) (v := ?_) rfl (by kernel_rfl) (by kernel_rfl) (by kernel_rfl) (fun _ _ _ h => h) (by rfl) (fun _ => hH) (Or.inl ⟨by rfl, ?_⟩) ?_
  rotate_left
  · intro wz
    go_simp
    try with_reducible rfl
  try simp only [Act.put, List.setIfInBounds_toArray, List.set_cons_zero, List.set_cons_succ]
  refine anyK_takeL (i := 12) (oi := { dst := some 61, op := Op.load 26 (Operand.tmp 60), type := 26, pos := "law.go:163", after := #[{ on := 11, ground := Ground.data }], guard := none }) (ok := { dst := some 67, op := Op.nilCheck (Operand.tmp 49), type := 0, pos := "law.go:163", after := #[{ on := 0, ground := Ground.data }, { on := 0, ground := Ground.phase }, { on := 1, ground := Ground.textOnly Departure.lateStores }, { on := 2, ground := Ground.phase }, { on := 3, ground := Ground.phase }, { on := 4, ground := Ground.phase }, { on := 5, ground := Ground.phase }, { on := 6, ground := Ground.phase }, { on := 7, ground := Ground.phase }, { on := 8, ground := Ground.phase }, { on := 9, ground := Ground.textOnly Departure.lateStores }, { on := 10, ground := Ground.textOnly Departure.lateStoresUnsure }, { on := 11, ground := Ground.textOnly Departure.lateStoresUnsure }, { on := 12, ground := Ground.phase }, { on := 13, ground := Ground.textOnly Departure.lateStores }, { on := 14, ground := Ground.textOnly Departure.lateStoresUnsure }, { on := 15, ground := Ground.phase }, { on := 16, ground := Ground.textOnly Departure.lateStoresUnsure }, { on := 17, ground := Ground.phase }], guard := none }) (v := ?_) rfl rfl (by kernel_rfl) (by kernel_rfl) (by kernel_rfl) (by kernel_rfl) (by kernel_rfl) (fun _ _ _ h => h) (by rfl) hH (Or.inl ⟨by rfl, ?_⟩) ?_
  rotate_left
  · intro wz hSw
    obtain ⟨q0, q1⟩ := hSw
    go_simp
    try with_reducible rfl
  try simp only [Act.put, List.setIfInBounds_toArray, List.set_cons_zero, List.set_cons_succ]
  refine anyK_takeP (i := 13) (oi := { dst := some 62, op := Op.move (Operand.tmp 1), type := 9, pos := "law.go:163", after := #[], guard := none }) (v := ?_) rfl (by kernel_rfl) (by kernel_rfl) (by kernel_rfl) (fun _ _ _ h => h) (by rfl) (fun _ => hH) (Or.inl ⟨by rfl, ?_⟩) ?_
  rotate_left
  · intro wz
    go_simp
    try with_reducible rfl
  try simp only [Act.put, List.setIfInBounds_toArray, List.set_cons_zero, List.set_cons_succ]
  have HC0 := hide (HCS.out.frmB (bel_dr (Below.refl wc.heap.size wc)))
  have HK0 := hide (HK5.out.below (bel_dr (Below.refl wc.heap.size wc)))
  have HB0 := hide (HB5.out.trans ((bel_dr (Below.refl wc.heap.size wc)).mono HB5.out.size))
  have HGL : Hid (G < wc.drew.heap.size) := hGl
  have HBL0 : Hid (B + 1 ≤ wc.drew.heap.size) := HBL.out
  have HN1 : Hid (∀ k, v1.ownBlock = some k → k ≠ C ∧ k ≠ G) := fun k hk => ⟨by have := HCN.out.2.2 k hk; have := HCN.out.1; omega, by have := HCN.out.2.2 k hk; have := HCN.out.2.1; omega⟩
  have HOW0 : Hid (∀ k, v1.ownBlock = some k → k < wc.drew.heap.size) := HOWN.out
  clear hH k0 k1 HCS HK5 HB5 HBL hGl HOWN HCN
  generalize wc.drew = W0 at *
  refine anyK_two (i := 7) (j := 14) (o := { dst := some 56, op := Op.buildSlice 25 1 #[(0, Operand.tmp 55)], type := 25, pos := "law.go:163", after := #[{ on := 6, ground := Ground.data }], guard := none }) (o' := { dst := some 63, op := Op.convert 9 41 (Operand.tmp 62), type := 41, pos := "law.go:163", after := #[{ on := 13, ground := Ground.data }], guard := none }) (by kernel_rfl) rfl rfl (fun K hK => ?_) (fun K hK => ?_)
  · go_simp
    try go_wp2_with fail
    refine hK.out _ _ (fun _ => ⟨cell_below HC0.out.two.c0 (bel_al (Below.refl _ _)), cell_below HC0.out.two.c1 (bel_al (Below.refl _ _))⟩) ?_
    clear hK K
    try simp only [Act.put, List.setIfInBounds_toArray, List.set_cons_zero, List.set_cons_succ]
    have HB1 : Hid (Below W0.heap.size W0 (W0.alloc (.cells #[ptr C] 32))) := bel_al (Below.refl _ _)
    have hc1 := cell_top W0 (ptr C) 32 _ rfl
    have HC1 := hide hc1
    change AnyK _ _ _ _ _ _ _ _ _ (W0.alloc (.cells #[ptr C] 32))
    have HSZ1 : Hid ((W0.alloc (.cells #[ptr C] 32)).heap.size = W0.heap.size + 1) := by unfold Hid; simp
    clear hc1
    generalize W0.alloc (.cells #[ptr C] 32) = W1 at *
    refine anyK_two (i := 8) (j := 14) (o := { dst := some 57, op := Op.call { callee := Callee.builtin Builtin.append, args := #[Operand.tmp 54, Operand.tmp 56], argTypes := #[25, 25] }, type := 25, pos := "law.go:163", after := #[{ on := 5, ground := Ground.data }, { on := 7, ground := Ground.data }], guard := none }) (o' := { dst := some 63, op := Op.convert 9 41 (Operand.tmp 62), type := 41, pos := "law.go:163", after := #[{ on := 13, ground := Ground.data }], guard := none }) (by kernel_rfl) rfl rfl (fun K hK => ?_) (fun K hK => ?_)
    · refine step_ptr 25 32 Tryd.underlying25 infoC rfl (.tmp 54) (.tmp 56) rfl (B + 1) v1 cs rfl (ownsRow_below HC0.out.r1 HB1.out) W0.heap.size C rfl HC1.out h1 (Nat.le_trans HBL0.out (Below.size HB1.out)) ?_
      intro g5 c5 w5 ho hf hq
      have HM := hide (fun (Z : World) (hz : Below w5.heap.size w5 Z) => mid5 HC0.out HK0.out HN1.out HB1.out ho hf hq hz)
      have HT5 := hide (HM.out w5 (Below.refl _ _)).1
      clear ho hf hq
      refine hK.out _ _ (fun _ => ⟨HT5.out.c0, HT5.out.c1⟩) ?_
      clear hK K
      try simp only [Act.put, List.setIfInBounds_toArray, List.set_cons_zero, List.set_cons_succ]
      refine anyK_one (i := 14) (o := { dst := some 63, op := Op.convert 9 41 (Operand.tmp 62), type := 41, pos := "law.go:163", after := #[{ on := 13, ground := Ground.data }], guard := none }) (by kernel_rfl) rfl (fun K hK => ?_)
      go_simp
      try go_wp2_with fail
      refine hK.out _ _ (fun _ => ⟨cell_below HT5.out.c0 (bel_dr (bel_al (Below.refl _ _))), cell_below HT5.out.c1 (bel_dr (bel_al (Below.refl _ _)))⟩) ?_
      clear hK K
      try simp only [Act.put, List.setIfInBounds_toArray, List.set_cons_zero, List.set_cons_succ]
      obtain ⟨m1, m2, m3, m4, m5, m6⟩ := HM.out _ (bel_dr (bel_al (Below.refl _ _)))
      exact r9b x5 u7 u8 u9 u10 u11 u12 u13 u14 u15 u16 u17 u18 u19 u20 u21 u22 u23 u24 u25 u26 u27 u28 u29 u30 u31 u32 u33 u34 u35 u36 u37 u38 u39 u40 u41 u42 u43 u44 u45 u46 u47 u48 hn hS h1 h2 H HB0 HK0 hC hG HGL.out Q fin HC0 g5 c5 _ _ _ _ _ _ _ _ _ _ _ _ _ m1 m2 m3 ((conv_bts w5 S n _ w5.heap.size rfl hn hS (grownCap_ge _ _ _ _) _ _).below (bel_dr (Below.refl _ _))) m4 m5 m6
    · go_simp
      try go_wp2_with fail
      refine hK.out _ _ (fun _ => ⟨cell_below (HC0.out.two.below HB1.out).c0 (bel_dr (bel_al (Below.refl _ _))), cell_below (HC0.out.two.below HB1.out).c1 (bel_dr (bel_al (Below.refl _ _)))⟩) ?_
      clear hK K
      try simp only [Act.put, List.setIfInBounds_toArray, List.set_cons_zero, List.set_cons_succ]
      change AnyK _ _ _ _ _ _ _ _ _ (conv W1 S n)
      have HB2 := hide (chain HB1.out (conv_below W1 S n))
      have HV2 := hide (conv_shown W1 S n hn hS)
      have HC2 := hide (cell_below HC1.out (conv_below W1 S n))
      generalize conv W1 S n = W2 at *
      refine anyK_one (i := 8) (o := { dst := some 57, op := Op.call { callee := Callee.builtin Builtin.append, args := #[Operand.tmp 54, Operand.tmp 56], argTypes := #[25, 25] }, type := 25, pos := "law.go:163", after := #[{ on := 5, ground := Ground.data }, { on := 7, ground := Ground.data }], guard := none }) (by kernel_rfl) rfl (fun K hK => ?_)
      refine step_ptr 25 32 Tryd.underlying25 infoC rfl (.tmp 54) (.tmp 56) rfl (B + 1) v1 cs rfl (ownsRow_below HC0.out.r1 HB2.out) W0.heap.size C rfl HC2.out h1 (Nat.le_trans HBL0.out (Below.size HB2.out)) ?_
      intro g5 c5 w5 ho hf hq
      have HM := hide (mid5 HC0.out HK0.out HN1.out HB2.out ho hf hq (Below.refl _ _))
      obtain ⟨m1, m2, m3, m4, m5, m6⟩ := HM.out
      have HV5 := hide (HV2.out.frm hf (fun b off e he => by
        simp only [Option.some.injEq, Addr.mk.injEq, and_true] at e
        have h9 := HOW0.out _ he
        have h8 := HSZ1.out
        omega))
      refine hK.out _ _ (fun _ => ⟨m1.c0, m1.c1⟩) ?_
      clear hK K ho hf hq
      try simp only [Act.put, List.setIfInBounds_toArray, List.set_cons_zero, List.set_cons_succ]
      exact r9b x5 u7 u8 u9 u10 u11 u12 u13 u14 u15 u16 u17 u18 u19 u20 u21 u22 u23 u24 u25 u26 u27 u28 u29 u30 u31 u32 u33 u34 u35 u36 u37 u38 u39 u40 u41 u42 u43 u44 u45 u46 u47 u48 hn hS h1 h2 H HB0 HK0 hC hG HGL.out Q fin HC0 g5 c5 _ _ _ _ _ _ _ _ _ _ _ _ _ m1 m2 m3 HV5 m4 m5 m6
  · go_simp
    try go_wp2_with fail
    refine hK.out _ _ (fun _ => ⟨cell_below HC0.out.two.c0 (bel_dr (bel_al (Below.refl _ _))), cell_below HC0.out.two.c1 (bel_dr (bel_al (Below.refl _ _)))⟩) ?_
    clear hK K
    try simp only [Act.put, List.setIfInBounds_toArray, List.set_cons_zero, List.set_cons_succ]
    change AnyK _ _ _ _ _ _ _ _ _ (conv W0 S n)
    have HB1 := hide (conv_below W0 S n)
    have HV1 := hide (conv_shown W0 S n hn hS)
    generalize conv W0 S n = W1 at *
    refine anyK_one (i := 7) (o := { dst := some 56, op := Op.buildSlice 25 1 #[(0, Operand.tmp 55)], type := 25, pos := "law.go:163", after := #[{ on := 6, ground := Ground.data }], guard := none }) (by kernel_rfl) rfl (fun K hK => ?_)
    go_simp
    try go_wp2_with fail
    refine hK.out _ _ (fun _ => ⟨cell_below (HC0.out.two.below HB1.out).c0 (bel_al (Below.refl _ _)), cell_below (HC0.out.two.below HB1.out).c1 (bel_al (Below.refl _ _))⟩) ?_
    clear hK K
    try simp only [Act.put, List.setIfInBounds_toArray, List.set_cons_zero, List.set_cons_succ]
    change AnyK _ _ _ _ _ _ _ _ _ (W1.alloc (.cells #[ptr C] 32))
    have HB2 : Hid (Below W0.heap.size W0 (W1.alloc (.cells #[ptr C] 32))) := chain HB1.out (bel_al (Below.refl _ _))
    have HC2 := hide (cell_top W1 (ptr C) 32 _ rfl)
    have HV2 := hide (HV1.out.below (bel_al (Below.refl _ _) : Below W1.heap.size W1 (W1.alloc (.cells #[ptr C] 32))))
    generalize W1.alloc (.cells #[ptr C] 32) = W2 at *
    refine anyK_one (i := 8) (o := { dst := some 57, op := Op.call { callee := Callee.builtin Builtin.append, args := #[Operand.tmp 54, Operand.tmp 56], argTypes := #[25, 25] }, type := 25, pos := "law.go:163", after := #[{ on := 5, ground := Ground.data }, { on := 7, ground := Ground.data }], guard := none }) (by kernel_rfl) rfl (fun K hK => ?_)
    refine step_ptr 25 32 Tryd.underlying25 infoC rfl (.tmp 54) (.tmp 56) rfl (B + 1) v1 cs rfl (ownsRow_below HC0.out.r1 HB2.out) W1.heap.size C rfl HC2.out h1 (Nat.le_trans HBL0.out (Below.size HB2.out)) ?_
    intro g5 c5 w5 ho hf hq
    have HM := hide (mid5 HC0.out HK0.out HN1.out HB2.out ho hf hq (Below.refl _ _))
    obtain ⟨m1, m2, m3, m4, m5, m6⟩ := HM.out
    have HV5 := hide (HV2.out.frm hf (fun b off e he => by
      simp only [Option.some.injEq, Addr.mk.injEq, and_true] at e
      have h9 := HOW0.out _ he
      skip
      omega))
    refine hK.out _ _ (fun _ => ⟨m1.c0, m1.c1⟩) ?_
    clear hK K ho hf hq
    try simp only [Act.put, List.setIfInBounds_toArray, List.set_cons_zero, List.set_cons_succ]
    exact r9b x5 u7 u8 u9 u10 u11 u12 u13 u14 u15 u16 u17 u18 u19 u20 u21 u22 u23 u24 u25 u26 u27 u28 u29 u30 u31 u32 u33 u34 u35 u36 u37 u38 u39 u40 u41 u42 u43 u44 u45 u46 u47 u48 hn hS h1 h2 H HB0 HK0 hC hG HGL.out Q fin HC0 g5 c5 _ _ _ _ _ _ _ _ _ _ _ _ _ m1 m2 m3 HV5 m4 m5 m6
end Go.Proofs.YtkkogkdalcigkaaDoor
