/-
  The law's puts: the bytes that are handed in, with two bytes behind them.
-/
import Derived.Test.YtkkogkdalcigkaaDoorWwDone
import Derived.Test.YtkkogkdalcigkaaDoorRgK
import Derived.Test.YtkkogkdalcigkaaDoorWOpen
namespace Go.Proofs.YtkkogkdalcigkaaDoor
open Go.RowKit FerryCrc
set_option linter.unusedVariables false
set_option linter.unusedSimpArgs false

/-- make of an empty list with room, as a step. -/
theorem step_make {w : World} {ops : Array Oper} {o : Oper} {act : Act} {K : Act → World → Prop} {Q : Exit → Act → World → Prop} {EE : Prop} (hgd : o.guard = none) (l c : Operand)
    (ho : o.op = Op.makeSlice 41 l c) (C : Int) (n : Nat) (hl : act.eval l = .int .i64 0) (hc : act.eval c = .int .i64 C) (hC : C = (n : Int)) (hn : n ≤ 140737488355328)
    (h : ∀ w', Own w' w.heap.size (.slice (some ⟨w.heap.size, 0, none⟩) 0 n) [] → Below w.heap.size w w' → K (act.put o.dst (.slice (some ⟨w.heap.size, 0, none⟩) 0 n)) w') :
    if Region.wanted o (yielded ops act.tmps) = true then Oper.wp Tryd.prog o act w K Q else EE := by
  obtain ⟨i0, hi, hz0, hz1, hz2⟩ := info_parts info8
  have hw : Region.wanted o (yielded ops act.tmps) = true := by simp [Region.wanted, hgd]
  rw [if_pos hw]
  obtain ⟨w', hrun, r1, r2⟩ := run_make_own (P := Tryd.prog) w w.heap.size 41 5 i0 (.int .u8 0) 1 Tryd.underlying41 hi hz0 hz1 .i64 .i64 n (by rw [hz2]; omega) (by unfold maxLen; omega) (Nat.le_refl _)
  subst hC
  unfold Oper.wp
  simp [execOp, ho, hl, hc, hrun, Result.andThen]
  exact h w' r1 ((Below.refl _ _).grown r2 (Nat.le_refl _) (by intro k e; cases e))
/-- append of a string's bytes, as a step. -/
theorem step_str {w : World} {ops : Array Oper} {o : Oper} {act : Act} {K : Act → World → Prop} {Q : Exit → Act → World → Prop} {EE : Prop} (hgd : o.guard = none) (sl x : Operand)
    (ho : o.op = .call { callee := .builtin .append, args := #[sl, x], argTypes := #[41, 9] })
    (base : Nat) (v : Value) (xs : List Nat) (hs : act.eval sl = v) (hown : Own w base v xs) (s : ByteArray) (hx : act.eval x = .string s)
    (h63 : xs.length + s.size ≤ 140737488355328) (hbase : base ≤ w.heap.size)
    (h : ∀ v' w', Own w' base v' (xs ++ bytesOf s) → Frm (fun k => v.ownBlock = some k) w w' → K (act.put o.dst v') w') :
    if Region.wanted o (yielded ops act.tmps) = true then Oper.wp Tryd.prog o act w K Q else EE := by
  obtain ⟨i0, hi, hz0, hz1, hz2⟩ := info_parts info8
  have hw : Region.wanted o (yielded ops act.tmps) = true := by simp [Region.wanted, hgd]
  rw [if_pos hw]
  obtain ⟨v', w', hr, h2, h3, h4⟩ := Lib.run_append_own_string (P := Tryd.prog) w base 41 9 o.type 5 i0 Tryd.underlying41 Tryd.underlying9 hi hz0 hz1 hz2 v xs.length (xs.map bv) hown s (by unfold maxLen; omega) h63 hbase
  unfold Oper.wp execOp
  simp only [ho, resolve, invoke, builtin, Sem.run_bind, Sem.run_pure, Result.andThen_ok, List.map_toArray, List.map_cons, List.map_nil, hs, hx, hr]
  refine h v' w' ?_ (frm_grown h3)
  unfold Own
  rw [List.length_append, List.map_append, bytesOf_len, ← strCells_eq]
  exact h2
theorem room_two (w : World) (x y : Nat) (hx : x < 256) (hy : y < 256) (t : TypeId) : Bts (w.alloc (.cells #[.int .u8 (x : Int), .int .u8 (y : Int)] t)) (some ⟨w.heap.size, 0, none⟩) 2 2 [x, y] := by
  refine ⟨rfl, by decide, by decide, fun c hc => ?_, fun e => by simp at e, fun k hk => ⟨_, _, rfl, ?_⟩⟩
  · simp only [List.mem_cons, List.not_mem_nil, or_false] at hc
    rcases hc with rfl | rfl <;> assumption
  · rw [World.cell?_alloc_at _ _ _ _ rfl, Nat.zero_add]
    match k, hk with
    | 0, _ => exact ⟨x, rfl, rfl⟩
    | 1, _ => exact ⟨y, rfl, rfl⟩
    | k + 2, hk => omega

/-- The operations of that statement. -/
def opsP1 : Array Oper := #[{ dst := some 10, op := Go.Op.fieldAddr 30 (Go.Operand.tmp 5) 6, type := 0, pos := "law.go:71", after := #[], guard := none },
    { dst := some 11, op := Go.Op.load 9 (Go.Operand.tmp 10), type := 9, pos := "law.go:71", after := #[{ on := 0, ground := Go.Ground.data }], guard := none },
    { dst := some 12, op := Go.Op.call { callee := Go.Callee.builtin Go.Builtin.len, args := #[Go.Operand.tmp 11], argTypes := #[9] }, type := 3, pos := "law.go:71", after := #[{ on := 1, ground := Go.Ground.data }], guard := none },
    { dst := some 13, op := Go.Op.binOp Go.BinOp.add 3 (Go.Operand.tmp 12) (Go.Operand.const (Go.Value.int Go.IntKind.i64 2)) 3, type := 3, pos := "law.go:71", after := #[{ on := 2, ground := Go.Ground.data }], guard := none },
    { dst := some 14, op := Go.Op.makeSlice 41 (Go.Operand.const (Go.Value.int Go.IntKind.i64 0)) (Go.Operand.tmp 13), type := 41, pos := "law.go:71", after := #[{ on := 3, ground := Go.Ground.data }], guard := none },
    { dst := some 15, op := Go.Op.fieldAddr 30 (Go.Operand.tmp 5) 6, type := 0, pos := "law.go:71", after := #[], guard := none },
    { dst := some 16, op := Go.Op.load 9 (Go.Operand.tmp 15), type := 9, pos := "law.go:71", after := #[{ on := 5, ground := Go.Ground.data }], guard := none },
    { dst := some 17, op := Go.Op.call { callee := Go.Callee.builtin Go.Builtin.append, args := #[Go.Operand.tmp 14, Go.Operand.tmp 16], argTypes := #[41, 9] }, type := 41, pos := "law.go:71", after := #[{ on := 4, ground := Go.Ground.data }, { on := 6, ground := Go.Ground.data }], guard := none },
    { dst := some 18, op := Go.Op.buildSlice 41 2 #[(0, Go.Operand.const (Go.Value.int Go.IntKind.u8 201)), (1, Go.Operand.const (Go.Value.int Go.IntKind.u8 202))], type := 41, pos := "law.go:71", after := #[], guard := none },
    { dst := some 19, op := Go.Op.call { callee := Go.Callee.builtin Go.Builtin.append, args := #[Go.Operand.tmp 17, Go.Operand.tmp 18], argTypes := #[41, 41] }, type := 41, pos := "law.go:71", after := #[{ on := 7, ground := Go.Ground.data }, { on := 8, ground := Go.Ground.data }, { on := 7, ground := Go.Ground.chain }], guard := none },
    { dst := some 7, op := Go.Op.assign (Go.Operand.tmp 19), type := 41, pos := "law.go:71", after := #[{ on := 9, ground := Go.Ground.data }, { on := 9, ground := Go.Ground.chain }, { on := 0, ground := Go.Ground.phase }, { on := 1, ground := Go.Ground.phase }, { on := 2, ground := Go.Ground.phase }, { on := 3, ground := Go.Ground.phase }, { on := 4, ground := Go.Ground.phase }, { on := 5, ground := Go.Ground.phase }, { on := 6, ground := Go.Ground.phase }, { on := 7, ground := Go.Ground.phase }, { on := 8, ground := Go.Ground.phase }, { on := 9, ground := Go.Ground.phase }], guard := none }]

set_option maxRecDepth 100000 in
set_option maxHeartbeats 1600000 in
theorem rp9 {W : World} {bx n : Nat} {S : ByteArray} (x0 x1 x2 x3 x4 x6 x7 x8 x9 : Value) (hn : S.size = n) (hS : n ≤ 140737488351232) (Q : Act → World → Prop)
    (fin : Hid (∀ (g c : Nat) (y10 y11 y12 y13 y14 y15 y16 y17 y18 y19 : Value) (w' : World), Own w' W.heap.size (.slice (some ⟨g, 0, none⟩) (n + 2) c) (bytesOf S ++ [201, 202]) → Below W.heap.size W w' → n + 2 ≤ c → Q { tmps := #[x0, x1, x2, x3, x4, .pointer (some ⟨bx, 0, none⟩), x6, .slice (some ⟨g, 0, none⟩) (n + 2) c, x8, x9, y10, y11, y12, y13, y14, y15, y16, y17, y18, y19, undef, undef, undef, undef, undef, undef, undef, undef, undef, undef, undef, undef, undef, undef, undef, undef, undef, undef, undef, undef, undef, undef, undef, undef, undef, undef, undef, undef, undef, undef, undef, undef, undef, undef, undef, undef, undef, undef, undef, undef, undef, undef, undef, undef, undef, undef, undef, undef, undef, undef, undef, undef, undef, undef, undef, undef, undef, undef, undef, undef, undef, undef, undef, undef, undef, undef, undef, undef, undef, undef, undef, undef, undef, undef, undef, undef, undef, undef, undef, undef, undef, undef, undef, undef, undef, undef, undef, undef, undef, undef, undef, undef, undef, undef, undef, undef, undef, undef, undef, undef, undef, undef, undef, undef, undef, undef, undef, undef, undef, undef, undef, undef, undef, undef, undef, undef, undef, undef, undef, undef, undef, undef, undef, undef, undef], defers := [] } w'))
    (gx : Nat) (v7 y10 y11 y12 y13 y14 y15 y16 : Value) (w5 : World) (HS5 : Hid (w5.cell? ⟨bx, 6, none⟩ = some (.string S))) (HO5 : Hid (Own w5 W.heap.size v7 (bytesOf S))) (HX5 : Hid (Bts w5 (some ⟨gx, 0, none⟩) 2 2 [201, 202])) (HB5 : Hid (Below W.heap.size W w5)) (hbx : W.cell? ⟨bx, 6, none⟩ = some (.string S)) :
    AnyK Tryd.prog .any opsP1 (OnlyN Q) (fun wz => wz.cell? ⟨bx, 6, none⟩ = some (.string S)) 10 2 #[true, true, true, true, true, true, true, true, true, false, false] { tmps := #[x0, x1, x2, x3, x4, .pointer (some ⟨bx, 0, none⟩), x6, x7, x8, x9, y10, y11, y12, y13, y14, y15, y16, v7, .slice (some ⟨gx, 0, none⟩) 2 2, undef, undef, undef, undef, undef, undef, undef, undef, undef, undef, undef, undef, undef, undef, undef, undef, undef, undef, undef, undef, undef, undef, undef, undef, undef, undef, undef, undef, undef, undef, undef, undef, undef, undef, undef, undef, undef, undef, undef, undef, undef, undef, undef, undef, undef, undef, undef, undef, undef, undef, undef, undef, undef, undef, undef, undef, undef, undef, undef, undef, undef, undef, undef, undef, undef, undef, undef, undef, undef, undef, undef, undef, undef, undef, undef, undef, undef, undef, undef, undef, undef, undef, undef, undef, undef, undef, undef, undef, undef, undef, undef, undef, undef, undef, undef, undef, undef, undef, undef, undef, undef, undef, undef, undef, undef, undef, undef, undef, undef, undef, undef, undef, undef, undef, undef, undef, undef, undef, undef, undef, undef, undef, undef, undef, undef, undef], defers := [] } w5 := by
  have HL : Hid ((bytesOf S).length + 2 ≤ 140737488355328) := by unfold Hid; rw [bytesOf_len, hn]; omega
  have HLN : Hid ((bytesOf S ++ [201, 202]).length = n + 2) := by unfold Hid; rw [List.length_append, bytesOf_len, hn]; rfl
  refine anyK_one (i := 9) (o := { dst := some 19, op := Go.Op.call { callee := Go.Callee.builtin Go.Builtin.append, args := #[Go.Operand.tmp 17, Go.Operand.tmp 18], argTypes := #[41, 41] }, type := 41, pos := "law.go:71", after := #[{ on := 7, ground := Go.Ground.data }, { on := 8, ground := Go.Ground.data }, { on := 7, ground := Go.Ground.chain }], guard := none }) (by kernel_rfl) rfl (fun K hK => ?_)
  refine step_lie rfl (.tmp 17) (.tmp 18) rfl W.heap.size v7 (bytesOf S) rfl HO5.out ⟨gx, 0, none⟩ 2 2 [201, 202] rfl HX5.out (by decide) HL.out HB5.out.size ?_
  intro v9 w9 ho hf hq
  obtain ⟨g, c, rfl, hg, hc⟩ := own_some ho HLN.out (by omega)
  have HO9 := hide ho
  have HC9 := hide hc
  have HB9 := hide (HB5.out.trans (hf.below HB5.out.size (fun k e => (World.ownsRow.lt HO5.out k e).1)))
  clear ho hf hq hg hc
  refine hK.out _ _ (fun _ => cell_below hbx HB9.out) ?_
  clear hK K
  try simp only [Act.put, List.setIfInBounds_toArray, List.set_cons_zero, List.set_cons_succ]
  refine anyK_one (i := 10) (o := { dst := some 7, op := Go.Op.assign (Go.Operand.tmp 19), type := 41, pos := "law.go:71", after := #[{ on := 9, ground := Go.Ground.data }, { on := 9, ground := Go.Ground.chain }, { on := 0, ground := Go.Ground.phase }, { on := 1, ground := Go.Ground.phase }, { on := 2, ground := Go.Ground.phase }, { on := 3, ground := Go.Ground.phase }, { on := 4, ground := Go.Ground.phase }, { on := 5, ground := Go.Ground.phase }, { on := 6, ground := Go.Ground.phase }, { on := 7, ground := Go.Ground.phase }, { on := 8, ground := Go.Ground.phase }, { on := 9, ground := Go.Ground.phase }], guard := none }) (by kernel_rfl) rfl (fun K hK => ?_)
  go_simp
  try go_wp2_with fail
  refine hK.out _ _ (fun h => absurd h (by decide)) ?_
  clear hK K
  try simp only [Act.put, List.setIfInBounds_toArray, List.set_cons_zero, List.set_cons_succ]
  refine anyK_done (by kernel_rfl) ?_ _
  exact fin.out _ _ _ _ _ _ _ _ _ _ _ _ _ HO9.out HB9.out HC9.out

set_option maxRecDepth 100000 in
set_option maxHeartbeats 1600000 in
theorem rp1 {W : World} {bx n : Nat} {S : ByteArray} (x0 x1 x2 x3 x4 x6 x7 x8 x9 : Value) (hn : S.size = n) (hS : n ≤ 140737488351232) (Q : Act → World → Prop)
    (fin : Hid (∀ (g c : Nat) (y10 y11 y12 y13 y14 y15 y16 y17 y18 y19 : Value) (w' : World), Own w' W.heap.size (.slice (some ⟨g, 0, none⟩) (n + 2) c) (bytesOf S ++ [201, 202]) → Below W.heap.size W w' → n + 2 ≤ c → Q { tmps := #[x0, x1, x2, x3, x4, .pointer (some ⟨bx, 0, none⟩), x6, .slice (some ⟨g, 0, none⟩) (n + 2) c, x8, x9, y10, y11, y12, y13, y14, y15, y16, y17, y18, y19, undef, undef, undef, undef, undef, undef, undef, undef, undef, undef, undef, undef, undef, undef, undef, undef, undef, undef, undef, undef, undef, undef, undef, undef, undef, undef, undef, undef, undef, undef, undef, undef, undef, undef, undef, undef, undef, undef, undef, undef, undef, undef, undef, undef, undef, undef, undef, undef, undef, undef, undef, undef, undef, undef, undef, undef, undef, undef, undef, undef, undef, undef, undef, undef, undef, undef, undef, undef, undef, undef, undef, undef, undef, undef, undef, undef, undef, undef, undef, undef, undef, undef, undef, undef, undef, undef, undef, undef, undef, undef, undef, undef, undef, undef, undef, undef, undef, undef, undef, undef, undef, undef, undef, undef, undef, undef, undef, undef, undef, undef, undef, undef, undef, undef, undef, undef, undef, undef, undef, undef, undef, undef, undef, undef, undef], defers := [] } w')) (hbx : W.cell? ⟨bx, 6, none⟩ = some (.string S)) :
    Code.wp Tryd.prog (Code.region 1 opsP1 true) (OnlyN Q) { tmps := #[x0, x1, x2, x3, x4, .pointer (some ⟨bx, 0, none⟩), x6, x7, x8, x9, undef, undef, undef, undef, undef, undef, undef, undef, undef, undef, undef, undef, undef, undef, undef, undef, undef, undef, undef, undef, undef, undef, undef, undef, undef, undef, undef, undef, undef, undef, undef, undef, undef, undef, undef, undef, undef, undef, undef, undef, undef, undef, undef, undef, undef, undef, undef, undef, undef, undef, undef, undef, undef, undef, undef, undef, undef, undef, undef, undef, undef, undef, undef, undef, undef, undef, undef, undef, undef, undef, undef, undef, undef, undef, undef, undef, undef, undef, undef, undef, undef, undef, undef, undef, undef, undef, undef, undef, undef, undef, undef, undef, undef, undef, undef, undef, undef, undef, undef, undef, undef, undef, undef, undef, undef, undef, undef, undef, undef, undef, undef, undef, undef, undef, undef, undef, undef, undef, undef, undef, undef, undef, undef, undef, undef, undef, undef, undef, undef, undef, undef, undef, undef, undef, undef], defers := [] } W := by
  have hH : W.drew.cell? ⟨bx, 6, none⟩ = some (.string S) := hbx
  have hn2 : IntKind.i64.wrap ((n : Int) + 2) = ((n + 2 : Nat) : Int) := by rw [IntKind.wrap_i64]; omega
  have HN2 : Hid (((n : Int) + 2) = ((n + 2 : Nat) : Int)) := by unfold Hid; omega
  refine region_anyK (S := (fun wz => wz.cell? ⟨bx, 6, none⟩ = some (.string S))) (k := 10) (by kernel_rfl) ?_
  show AnyK Tryd.prog .any opsP1 (OnlyN Q) (fun wz => wz.cell? ⟨bx, 6, none⟩ = some (.string S)) 10 11 #[false, false, false, false, false, false, false, false, false, false, false] _ _
  refine anyK_takeP (i := 0) (oi := { dst := some 10, op := Go.Op.fieldAddr 30 (Go.Operand.tmp 5) 6, type := 0, pos := "law.go:71", after := #[], guard := none }) (v := ?_) rfl (by kernel_rfl) (by kernel_rfl) (by kernel_rfl) (fun _ _ _ h => h) (by rfl) (fun _ => hH) (Or.inl ⟨by rfl, ?_⟩) ?_
  rotate_left
  · intro wz
    go_simp
    try with_reducible rfl
  try simp only [Act.put, List.setIfInBounds_toArray, List.set_cons_zero, List.set_cons_succ]
  refine anyK_takeL (i := 1) (oi := { dst := some 11, op := Go.Op.load 9 (Go.Operand.tmp 10), type := 9, pos := "law.go:71", after := #[{ on := 0, ground := Go.Ground.data }], guard := none }) (ok := { dst := some 7, op := Go.Op.assign (Go.Operand.tmp 19), type := 41, pos := "law.go:71", after := #[{ on := 9, ground := Go.Ground.data }, { on := 9, ground := Go.Ground.chain }, { on := 0, ground := Go.Ground.phase }, { on := 1, ground := Go.Ground.phase }, { on := 2, ground := Go.Ground.phase }, { on := 3, ground := Go.Ground.phase }, { on := 4, ground := Go.Ground.phase }, { on := 5, ground := Go.Ground.phase }, { on := 6, ground := Go.Ground.phase }, { on := 7, ground := Go.Ground.phase }, { on := 8, ground := Go.Ground.phase }, { on := 9, ground := Go.Ground.phase }], guard := none }) (v := ?_) rfl rfl (by kernel_rfl) (by kernel_rfl) (by kernel_rfl) (by kernel_rfl) (by kernel_rfl) (fun _ _ _ h => h) (by rfl) hH (Or.inl ⟨by rfl, ?_⟩) ?_
  rotate_left
  · intro wz hSw
    have q0 : wz.cell? ⟨bx, 6, none⟩ = some (.string S) := hSw
    go_simp
    try with_reducible rfl
  try simp only [Act.put, List.setIfInBounds_toArray, List.set_cons_zero, List.set_cons_succ]
  refine anyK_takeP (i := 2) (oi := { dst := some 12, op := Go.Op.call { callee := Go.Callee.builtin Go.Builtin.len, args := #[Go.Operand.tmp 11], argTypes := #[9] }, type := 3, pos := "law.go:71", after := #[{ on := 1, ground := Go.Ground.data }], guard := none }) (v := ?_) rfl (by kernel_rfl) (by kernel_rfl) (by kernel_rfl) (fun _ _ _ h => h) (by rfl) (fun _ => hH) (Or.inl ⟨by rfl, ?_⟩) ?_
  rotate_left
  · intro wz
    go_simp
    try with_reducible rfl
  try simp only [Act.put, List.setIfInBounds_toArray, List.set_cons_zero, List.set_cons_succ]
  refine anyK_takeP (i := 3) (oi := { dst := some 13, op := Go.Op.binOp Go.BinOp.add 3 (Go.Operand.tmp 12) (Go.Operand.const (Go.Value.int Go.IntKind.i64 2)) 3, type := 3, pos := "law.go:71", after := #[{ on := 2, ground := Go.Ground.data }], guard := none }) (v := ?_) rfl (by kernel_rfl) (by kernel_rfl) (by kernel_rfl) (fun _ _ _ h => h) (by rfl) (fun _ => hH) (Or.inl ⟨by rfl, ?_⟩) ?_
  rotate_left
  · intro wz
    go_simp
    try with_reducible rfl
  try simp only [Act.put, List.setIfInBounds_toArray, List.set_cons_zero, List.set_cons_succ]
  refine anyK_takeP (i := 5) (oi := { dst := some 15, op := Go.Op.fieldAddr 30 (Go.Operand.tmp 5) 6, type := 0, pos := "law.go:71", after := #[], guard := none }) (v := ?_) rfl (by kernel_rfl) (by kernel_rfl) (by kernel_rfl) (fun _ _ _ h => h) (by rfl) (fun _ => hH) (Or.inl ⟨by rfl, ?_⟩) ?_
  rotate_left
  · intro wz
    go_simp
    try with_reducible rfl
  try simp only [Act.put, List.setIfInBounds_toArray, List.set_cons_zero, List.set_cons_succ]
  refine anyK_takeL (i := 6) (oi := { dst := some 16, op := Go.Op.load 9 (Go.Operand.tmp 15), type := 9, pos := "law.go:71", after := #[{ on := 5, ground := Go.Ground.data }], guard := none }) (ok := { dst := some 7, op := Go.Op.assign (Go.Operand.tmp 19), type := 41, pos := "law.go:71", after := #[{ on := 9, ground := Go.Ground.data }, { on := 9, ground := Go.Ground.chain }, { on := 0, ground := Go.Ground.phase }, { on := 1, ground := Go.Ground.phase }, { on := 2, ground := Go.Ground.phase }, { on := 3, ground := Go.Ground.phase }, { on := 4, ground := Go.Ground.phase }, { on := 5, ground := Go.Ground.phase }, { on := 6, ground := Go.Ground.phase }, { on := 7, ground := Go.Ground.phase }, { on := 8, ground := Go.Ground.phase }, { on := 9, ground := Go.Ground.phase }], guard := none }) (v := ?_) rfl rfl (by kernel_rfl) (by kernel_rfl) (by kernel_rfl) (by kernel_rfl) (by kernel_rfl) (fun _ _ _ h => h) (by rfl) hH (Or.inl ⟨by rfl, ?_⟩) ?_
  rotate_left
  · intro wz hSw
    have q0 : wz.cell? ⟨bx, 6, none⟩ = some (.string S) := hSw
    go_simp
    try with_reducible rfl
  try simp only [Act.put, List.setIfInBounds_toArray, List.set_cons_zero, List.set_cons_succ]
  have HFIN : Hid (∀ (g c : Nat) (y10 y11 y12 y13 y14 y15 y16 y17 y18 y19 : Value) (w' : World), Own w' W.drew.heap.size (.slice (some ⟨g, 0, none⟩) (n + 2) c) (bytesOf S ++ [201, 202]) → Below W.drew.heap.size W.drew w' → n + 2 ≤ c → Q { tmps := #[x0, x1, x2, x3, x4, .pointer (some ⟨bx, 0, none⟩), x6, .slice (some ⟨g, 0, none⟩) (n + 2) c, x8, x9, y10, y11, y12, y13, y14, y15, y16, y17, y18, y19, undef, undef, undef, undef, undef, undef, undef, undef, undef, undef, undef, undef, undef, undef, undef, undef, undef, undef, undef, undef, undef, undef, undef, undef, undef, undef, undef, undef, undef, undef, undef, undef, undef, undef, undef, undef, undef, undef, undef, undef, undef, undef, undef, undef, undef, undef, undef, undef, undef, undef, undef, undef, undef, undef, undef, undef, undef, undef, undef, undef, undef, undef, undef, undef, undef, undef, undef, undef, undef, undef, undef, undef, undef, undef, undef, undef, undef, undef, undef, undef, undef, undef, undef, undef, undef, undef, undef, undef, undef, undef, undef, undef, undef, undef, undef, undef, undef, undef, undef, undef, undef, undef, undef, undef, undef, undef, undef, undef, undef, undef, undef, undef, undef, undef, undef, undef, undef, undef, undef, undef, undef, undef, undef, undef, undef], defers := [] } w') := fun g c y10 y11 y12 y13 y14 y15 y16 y17 y18 y19 w' a b => fin.out g c y10 y11 y12 y13 y14 y15 y16 y17 y18 y19 w' a ⟨b.os, b.tape, b.output, b.size, b.block⟩
  clear fin hbx
  generalize W.drew = W0 at *
  refine anyK_two (i := 4) (j := 8) (o := { dst := some 14, op := Go.Op.makeSlice 41 (Go.Operand.const (Go.Value.int Go.IntKind.i64 0)) (Go.Operand.tmp 13), type := 41, pos := "law.go:71", after := #[{ on := 3, ground := Go.Ground.data }], guard := none }) (o' := { dst := some 18, op := Go.Op.buildSlice 41 2 #[(0, Go.Operand.const (Go.Value.int Go.IntKind.u8 201)), (1, Go.Operand.const (Go.Value.int Go.IntKind.u8 202))], type := 41, pos := "law.go:71", after := #[], guard := none }) (by kernel_rfl) rfl rfl (fun K hK => ?_) (fun K hK => ?_)
  · refine step_make rfl (.const (.int .i64 0)) (.tmp 13) rfl _ (n + 2) rfl rfl (by first | rfl | exact HN2.out | omega) (by omega) ?_
    intro w4 ho hb
    have HO4 := hide ho
    have HB4 := hide hb
    clear ho hb
    refine hK.out _ _ (fun _ => cell_below hH HB4.out) ?_
    clear hK K
    try simp only [Act.put, List.setIfInBounds_toArray, List.set_cons_zero, List.set_cons_succ]
    refine anyK_two (i := 7) (j := 8) (o := { dst := some 17, op := Go.Op.call { callee := Go.Callee.builtin Go.Builtin.append, args := #[Go.Operand.tmp 14, Go.Operand.tmp 16], argTypes := #[41, 9] }, type := 41, pos := "law.go:71", after := #[{ on := 4, ground := Go.Ground.data }, { on := 6, ground := Go.Ground.data }], guard := none }) (o' := { dst := some 18, op := Go.Op.buildSlice 41 2 #[(0, Go.Operand.const (Go.Value.int Go.IntKind.u8 201)), (1, Go.Operand.const (Go.Value.int Go.IntKind.u8 202))], type := 41, pos := "law.go:71", after := #[], guard := none }) (by kernel_rfl) rfl rfl (fun K hK => ?_) (fun K hK => ?_)
    · refine step_str rfl (.tmp 14) (.tmp 16) rfl _ _ [] rfl HO4.out S rfl (by rw [hn]; simp; omega) HB4.out.size ?_
      intro v7 w7 ho hf
      rw [List.nil_append] at ho
      have HO7 := hide ho
      have HB7 := hide (HB4.out.trans (hf.below HB4.out.size (fun k e => (World.ownsRow.lt HO4.out k e).1)))
      clear ho hf
      refine hK.out _ _ (fun _ => cell_below hH HB7.out) ?_
      clear hK K
      try simp only [Act.put, List.setIfInBounds_toArray, List.set_cons_zero, List.set_cons_succ]
      refine anyK_one (i := 8) (o := { dst := some 18, op := Go.Op.buildSlice 41 2 #[(0, Go.Operand.const (Go.Value.int Go.IntKind.u8 201)), (1, Go.Operand.const (Go.Value.int Go.IntKind.u8 202))], type := 41, pos := "law.go:71", after := #[], guard := none }) (by kernel_rfl) rfl (fun K hK => ?_)
      go_simp
      try go_wp2_with fail
      have HA8 : Hid (Below w7.heap.size w7 (w7.alloc (.cells #[.int .u8 201, .int .u8 202] 5))) := bel_al (Below.refl _ _)
      refine hK.out _ _ (fun _ => cell_below hH (chain HB7.out HA8.out)) ?_
      clear hK K
      try simp only [Act.put, List.setIfInBounds_toArray, List.set_cons_zero, List.set_cons_succ]
      exact rp9 x0 x1 x2 x3 x4 x6 x7 x8 x9 hn hS Q HFIN w7.heap.size v7 _ _ _ _ _ _ _ (w7.alloc (.cells #[.int .u8 201, .int .u8 202] 5)) (cell_below hH (chain HB7.out HA8.out)) (HO7.out.frm (S := fun _ => False) (Frm.ofBelow HA8.out) (fun _ _ h => h)) (room_two w7 201 202 (by decide) (by decide) _) (chain HB7.out HA8.out) hH
    · go_simp
      try go_wp2_with fail
      have HA8 : Hid (Below w4.heap.size w4 (w4.alloc (.cells #[.int .u8 201, .int .u8 202] 5))) := bel_al (Below.refl _ _)
      have HX8 := hide (room_two w4 201 202 (by decide) (by decide) 5)
      have HO8 := hide (HO4.out.frm (S := fun _ => False) (Frm.ofBelow HA8.out) (fun _ _ h => h))
      have HB8 := hide (chain HB4.out HA8.out)
      have HL8 : Hid (∀ k, (Value.slice (some ⟨W0.heap.size, 0, none⟩) 0 (n + 2)).ownBlock = some k → k < w4.heap.size) := fun k e => (World.ownsRow.lt HO4.out k e).2
      refine hK.out _ _ (fun _ => cell_below hH HB8.out) ?_
      clear hK K
      try simp only [Act.put, List.setIfInBounds_toArray, List.set_cons_zero, List.set_cons_succ]
      refine anyK_one (i := 7) (o := { dst := some 17, op := Go.Op.call { callee := Go.Callee.builtin Go.Builtin.append, args := #[Go.Operand.tmp 14, Go.Operand.tmp 16], argTypes := #[41, 9] }, type := 41, pos := "law.go:71", after := #[{ on := 4, ground := Go.Ground.data }, { on := 6, ground := Go.Ground.data }], guard := none }) (by kernel_rfl) rfl (fun K hK => ?_)
      refine step_str rfl (.tmp 14) (.tmp 16) rfl _ _ [] rfl HO8.out S rfl (by rw [hn]; simp; omega) HB8.out.size ?_
      intro v7 w7 ho hf
      rw [List.nil_append] at ho
      have HB7 := hide (HB8.out.trans (hf.below HB8.out.size (fun k e => (World.ownsRow.lt HO8.out k e).1)))
      have HX7 := hide (HX8.out.frm hf (fun b off e he => by
        simp only [Option.some.injEq, Addr.mk.injEq, and_true] at e
        have := HL8.out b he
        omega))
      refine hK.out _ _ (fun _ => cell_below hH HB7.out) ?_
      clear hK K
      try simp only [Act.put, List.setIfInBounds_toArray, List.set_cons_zero, List.set_cons_succ]
      exact rp9 x0 x1 x2 x3 x4 x6 x7 x8 x9 hn hS Q HFIN w4.heap.size v7 _ _ _ _ _ _ _ w7 (cell_below hH HB7.out) ho HX7 HB7 hH
  · go_simp
    try go_wp2_with fail
    have HA8 : Hid (Below W0.heap.size W0 (W0.alloc (.cells #[.int .u8 201, .int .u8 202] 5))) := bel_al (Below.refl _ _)
    have HX8 := hide (room_two W0 201 202 (by decide) (by decide) 5)
    have HZ8 : Hid (W0.heap.size < (W0.alloc (.cells #[.int .u8 201, .int .u8 202] 5)).heap.size) := by unfold Hid; simp
    refine hK.out _ _ (fun _ => cell_below hH HA8.out) ?_
    clear hK K
    try simp only [Act.put, List.setIfInBounds_toArray, List.set_cons_zero, List.set_cons_succ]
    generalize W0.alloc (.cells #[.int .u8 201, .int .u8 202] 5) = W1 at *
    refine anyK_one (i := 4) (o := { dst := some 14, op := Go.Op.makeSlice 41 (Go.Operand.const (Go.Value.int Go.IntKind.i64 0)) (Go.Operand.tmp 13), type := 41, pos := "law.go:71", after := #[{ on := 3, ground := Go.Ground.data }], guard := none }) (by kernel_rfl) rfl (fun K hK => ?_)
    refine step_make rfl (.const (.int .i64 0)) (.tmp 13) rfl _ (n + 2) rfl rfl (by first | rfl | exact HN2.out | omega) (by omega) ?_
    intro w4 ho hb
    have HO4 := hide ho
    have HB4 := hide (chain HA8.out hb)
    have HX4 := hide (HX8.out.below hb)
    clear ho hb
    refine hK.out _ _ (fun _ => cell_below hH HB4.out) ?_
    clear hK K
    try simp only [Act.put, List.setIfInBounds_toArray, List.set_cons_zero, List.set_cons_succ]
    refine anyK_one (i := 7) (o := { dst := some 17, op := Go.Op.call { callee := Go.Callee.builtin Go.Builtin.append, args := #[Go.Operand.tmp 14, Go.Operand.tmp 16], argTypes := #[41, 9] }, type := 41, pos := "law.go:71", after := #[{ on := 4, ground := Go.Ground.data }, { on := 6, ground := Go.Ground.data }], guard := none }) (by kernel_rfl) rfl (fun K hK => ?_)
    refine step_str rfl (.tmp 14) (.tmp 16) rfl _ _ [] rfl HO4.out S rfl (by rw [hn]; simp; omega) (Nat.le_of_lt (World.ownsRow.lt HO4.out _ rfl).2) ?_
    intro v7 w7 ho hf
    rw [List.nil_append] at ho
    have HB7 := hide (HB4.out.trans (hf.below HB4.out.size (fun k e => by have := (World.ownsRow.lt HO4.out k e).1; have := HZ8.out; omega)))
    have HX7 := hide (HX4.out.frm hf (fun b off e he => by
      simp only [Option.some.injEq, Addr.mk.injEq, and_true] at e
      have := (World.ownsRow.lt HO4.out b he).1
      have := HZ8.out
      omega))
    refine hK.out _ _ (fun _ => cell_below hH HB7.out) ?_
    clear hK K
    try simp only [Act.put, List.setIfInBounds_toArray, List.set_cons_zero, List.set_cons_succ]
    exact rp9 x0 x1 x2 x3 x4 x6 x7 x8 x9 hn hS Q HFIN W0.heap.size v7 _ _ _ _ _ _ _ w7 (cell_below hH HB7.out) (ho.wk (by have := HZ8.out; omega)) HX7 HB7 hH
end Go.Proofs.YtkkogkdalcigkaaDoor
