/-
  One put, read back: the last statement.
  One put, read back.
  One put, read back: texts, raw bytes, flags.
  One put, read back: records.
-/
import Derived.Test.YtkkogkdalcigkaaDoorWbEnc
import Derived.Test.YtkkogkdalcigkaaDoorRgK
import Derived.Test.YtkkogkdalcigkaaDoorWOpen
namespace Go.Proofs.YtkkogkdalcigkaaDoor
open Go.RowKit FerryCrc
set_option linter.unusedVariables false
set_option linter.unusedSimpArgs false

/-- The operations of that statement. -/
def opsE : Array Oper := #[{ dst := some 115, op := Go.Op.move (Go.Operand.tmp 7), type := 36, pos := "outright.go:88", after := #[], guard := none },
    { dst := some 116, op := Go.Op.call { callee := Go.Callee.value (Go.Operand.func 18), args := #[Go.Operand.tmp 115], argTypes := #[36] }, type := 3, pos := "outright.go:88", after := #[{ on := 0, ground := Go.Ground.data }], guard := none },
    { dst := some 117, op := Go.Op.move (Go.Operand.tmp 6), type := 3, pos := "outright.go:88", after := #[], guard := none },
    { dst := some 118, op := Go.Op.fieldAddr 30 (Go.Operand.tmp 3) 3, type := 0, pos := "outright.go:88", after := #[], guard := none },
    { dst := some 119, op := Go.Op.load 3 (Go.Operand.tmp 118), type := 3, pos := "outright.go:88", after := #[{ on := 3, ground := Go.Ground.data }], guard := none },
    { dst := some 120, op := Go.Op.binOp Go.BinOp.eql 3 (Go.Operand.tmp 117) (Go.Operand.tmp 119) 3, type := 4, pos := "outright.go:88", after := #[{ on := 2, ground := Go.Ground.data }, { on := 4, ground := Go.Ground.data }], guard := none },
    { dst := some 121, op := Go.Op.move (Go.Operand.tmp 120), type := 4, pos := "outright.go:88", after := #[{ on := 5, ground := Go.Ground.data }, { on := 1, ground := Go.Ground.chain }], guard := none },
    { dst := some 122, op := Go.Op.move (Go.Operand.tmp 8), type := 9, pos := "outright.go:88", after := #[{ on := 6, ground := Go.Ground.guard }, { on := 12, ground := Go.Ground.gcOnly Go.Departure.lateStores }], guard := some (6, true) },
    { dst := some 123, op := Go.Op.fieldAddr 30 (Go.Operand.tmp 3) 6, type := 0, pos := "outright.go:88", after := #[{ on := 6, ground := Go.Ground.guard }, { on := 12, ground := Go.Ground.gcOnly Go.Departure.lateStores }], guard := some (6, true) },
    { dst := some 124, op := Go.Op.load 9 (Go.Operand.tmp 123), type := 9, pos := "outright.go:88", after := #[{ on := 8, ground := Go.Ground.data }, { on := 6, ground := Go.Ground.guard }, { on := 12, ground := Go.Ground.gcOnly Go.Departure.lateStores }], guard := some (6, true) },
    { dst := some 125, op := Go.Op.binOp Go.BinOp.eql 9 (Go.Operand.tmp 122) (Go.Operand.tmp 124) 9, type := 4, pos := "outright.go:88", after := #[{ on := 7, ground := Go.Ground.data }, { on := 9, ground := Go.Ground.data }, { on := 6, ground := Go.Ground.guard }, { on := 12, ground := Go.Ground.gcOnly Go.Departure.lateStores }], guard := some (6, true) },
    { dst := some 126, op := Go.Op.pick (Go.Operand.tmp 121) (Go.Operand.tmp 125) (Go.Operand.const (Go.Value.bool false)), type := 4, pos := "outright.go:88", after := #[{ on := 6, ground := Go.Ground.data }, { on := 10, ground := Go.Ground.data }, { on := 12, ground := Go.Ground.gcOnly Go.Departure.lateStores }], guard := none },
    { dst := some 4, op := Go.Op.assign (Go.Operand.tmp 116), type := 3, pos := "outright.go:88", after := #[{ on := 1, ground := Go.Ground.data }, { on := 6, ground := Go.Ground.chain }, { on := 0, ground := Go.Ground.phase }, { on := 1, ground := Go.Ground.phase }, { on := 2, ground := Go.Ground.textOnly Go.Departure.lateStores }, { on := 3, ground := Go.Ground.textOnly Go.Departure.lateStores }, { on := 4, ground := Go.Ground.textOnly Go.Departure.lateStores }, { on := 5, ground := Go.Ground.textOnly Go.Departure.lateStores }, { on := 6, ground := Go.Ground.textOnly Go.Departure.lateStores }, { on := 7, ground := Go.Ground.textOnly Go.Departure.lateStores }, { on := 8, ground := Go.Ground.textOnly Go.Departure.lateStores }, { on := 9, ground := Go.Ground.textOnly Go.Departure.lateStores }, { on := 10, ground := Go.Ground.textOnly Go.Departure.lateStores }, { on := 11, ground := Go.Ground.textOnly Go.Departure.lateStores }], guard := none },
    { dst := some 5, op := Go.Op.assign (Go.Operand.tmp 126), type := 4, pos := "outright.go:88", after := #[{ on := 11, ground := Go.Ground.data }, { on := 12, ground := Go.Ground.chain }, { on := 0, ground := Go.Ground.phase }, { on := 1, ground := Go.Ground.phase }, { on := 2, ground := Go.Ground.phase }, { on := 3, ground := Go.Ground.phase }, { on := 4, ground := Go.Ground.phase }, { on := 5, ground := Go.Ground.phase }, { on := 6, ground := Go.Ground.phase }, { on := 7, ground := Go.Ground.phase }, { on := 8, ground := Go.Ground.phase }, { on := 9, ground := Go.Ground.phase }, { on := 10, ground := Go.Ground.phase }, { on := 11, ground := Go.Ground.phase }, { on := 12, ground := Go.Ground.phase }], guard := none }]

set_option maxRecDepth 100000 in
set_option maxHeartbeats 1600000 in
theorem one_end {W : World} {bx code : Nat} {n' N : Int} {s' S : ByteArray} {ev : Value} {bq bs : Bool} {x0 x1 x2 x4 x5 x9 x10 x11 x12 x13 x14 x15 x16 x17 x18 x19 x20 x21 x22 x23 x24 x25 x26 x27 x28 x29 x30 x31 x32 x33 x34 x35 x36 x37 x38 x39 x40 x41 x42 x43 x44 x45 x46 x47 x48 x49 x50 x51 x52 x53 x54 x55 x56 x57 x58 x59 x60 x61 x62 x63 x64 x65 x66 x67 x68 x69 x70 x71 x72 x73 x74 x75 x76 x77 x78 x79 x80 x81 x82 x83 x84 x85 x86 x87 x88 x89 x90 x91 x92 x93 x94 x95 x96 x97 x98 x99 x100 x101 x102 x103 x104 x105 x106 x107 x108 x109 x110 x111 x112 x113 x114 : Value} (Q : Act → World → Prop) (hq : (n' == N) = bq) (hs : (s'.toList == S.toList) = bs)
    (HC : Hid (Calls Tryd.prog 18 #[ev] W.drew fun e w' => e = .returned (.int .i64 (code : Int)) ∧ W.drew = w'))
    (fin : Hid (∀ (y115 y116 y117 y118 y119 y120 y121 y122 y123 y124 y125 y126 : Value), Q { tmps := #[x0, x1, x2, .pointer (some ⟨bx, 0, none⟩), .int .i64 (code : Int), .bool (bq && bs), .int .i64 n', ev, .string s', x9, x10, x11, x12, x13, x14, x15, x16, x17, x18, x19, x20, x21, x22, x23, x24, x25, x26, x27, x28, x29, x30, x31, x32, x33, x34, x35, x36, x37, x38, x39, x40, x41, x42, x43, x44, x45, x46, x47, x48, x49, x50, x51, x52, x53, x54, x55, x56, x57, x58, x59, x60, x61, x62, x63, x64, x65, x66, x67, x68, x69, x70, x71, x72, x73, x74, x75, x76, x77, x78, x79, x80, x81, x82, x83, x84, x85, x86, x87, x88, x89, x90, x91, x92, x93, x94, x95, x96, x97, x98, x99, x100, x101, x102, x103, x104, x105, x106, x107, x108, x109, x110, x111, x112, x113, x114, y115, y116, y117, y118, y119, y120, y121, y122, y123, y124, y125, y126], defers := [] } W.drew)) (h3 : W.cell? ⟨bx, 3, none⟩ = some (.int .i64 N)) (h6 : W.cell? ⟨bx, 6, none⟩ = some (.string S)) :
    Code.wp Tryd.prog (Code.region 26 opsE true) (OnlyN Q) { tmps := #[x0, x1, x2, .pointer (some ⟨bx, 0, none⟩), x4, x5, .int .i64 n', ev, .string s', x9, x10, x11, x12, x13, x14, x15, x16, x17, x18, x19, x20, x21, x22, x23, x24, x25, x26, x27, x28, x29, x30, x31, x32, x33, x34, x35, x36, x37, x38, x39, x40, x41, x42, x43, x44, x45, x46, x47, x48, x49, x50, x51, x52, x53, x54, x55, x56, x57, x58, x59, x60, x61, x62, x63, x64, x65, x66, x67, x68, x69, x70, x71, x72, x73, x74, x75, x76, x77, x78, x79, x80, x81, x82, x83, x84, x85, x86, x87, x88, x89, x90, x91, x92, x93, x94, x95, x96, x97, x98, x99, x100, x101, x102, x103, x104, x105, x106, x107, x108, x109, x110, x111, x112, x113, x114, undef, undef, undef, undef, undef, undef, undef, undef, undef, undef, undef, undef], defers := [] } W := by
  have hH : W.drew.cell? ⟨bx, 3, none⟩ = some (.int .i64 N) ∧ W.drew.cell? ⟨bx, 6, none⟩ = some (.string S) := ⟨h3, h6⟩
  refine region_anyK (S := (fun wz => wz.cell? ⟨bx, 3, none⟩ = some (.int .i64 N) ∧ wz.cell? ⟨bx, 6, none⟩ = some (.string S))) (k := 13) (by kernel_rfl) ?_
  show AnyK Tryd.prog .any opsE (OnlyN Q) (fun wz => wz.cell? ⟨bx, 3, none⟩ = some (.int .i64 N) ∧ wz.cell? ⟨bx, 6, none⟩ = some (.string S)) 13 14 #[false, false, false, false, false, false, false, false, false, false, false, false, false, false] _ _
  refine anyK_takeP (i := 0) (oi := { dst := some 115, op := Go.Op.move (Go.Operand.tmp 7), type := 36, pos := "outright.go:88", after := #[], guard := none }) (v := ?_) rfl (by kernel_rfl) (by kernel_rfl) (by kernel_rfl) (fun _ _ _ h => h) (by rfl) (fun _ => hH) (Or.inl ⟨by rfl, ?_⟩) ?_
  rotate_left
  · intro wz
    go_simp
    try with_reducible rfl
  try simp only [Act.put, List.setIfInBounds_toArray, List.set_cons_zero, List.set_cons_succ]
  refine anyK_takeP (i := 2) (oi := { dst := some 117, op := Go.Op.move (Go.Operand.tmp 6), type := 3, pos := "outright.go:88", after := #[], guard := none }) (v := ?_) rfl (by kernel_rfl) (by kernel_rfl) (by kernel_rfl) (fun _ _ _ h => h) (by rfl) (fun _ => hH) (Or.inl ⟨by rfl, ?_⟩) ?_
  rotate_left
  · intro wz
    go_simp
    try with_reducible rfl
  try simp only [Act.put, List.setIfInBounds_toArray, List.set_cons_zero, List.set_cons_succ]
  refine anyK_takeP (i := 3) (oi := { dst := some 118, op := Go.Op.fieldAddr 30 (Go.Operand.tmp 3) 3, type := 0, pos := "outright.go:88", after := #[], guard := none }) (v := ?_) rfl (by kernel_rfl) (by kernel_rfl) (by kernel_rfl) (fun _ _ _ h => h) (by rfl) (fun _ => hH) (Or.inl ⟨by rfl, ?_⟩) ?_
  rotate_left
  · intro wz
    go_simp
    try with_reducible rfl
  try simp only [Act.put, List.setIfInBounds_toArray, List.set_cons_zero, List.set_cons_succ]
  refine anyK_takeL (i := 4) (oi := { dst := some 119, op := Go.Op.load 3 (Go.Operand.tmp 118), type := 3, pos := "outright.go:88", after := #[{ on := 3, ground := Go.Ground.data }], guard := none }) (ok := { dst := some 5, op := Go.Op.assign (Go.Operand.tmp 126), type := 4, pos := "outright.go:88", after := #[{ on := 11, ground := Go.Ground.data }, { on := 12, ground := Go.Ground.chain }, { on := 0, ground := Go.Ground.phase }, { on := 1, ground := Go.Ground.phase }, { on := 2, ground := Go.Ground.phase }, { on := 3, ground := Go.Ground.phase }, { on := 4, ground := Go.Ground.phase }, { on := 5, ground := Go.Ground.phase }, { on := 6, ground := Go.Ground.phase }, { on := 7, ground := Go.Ground.phase }, { on := 8, ground := Go.Ground.phase }, { on := 9, ground := Go.Ground.phase }, { on := 10, ground := Go.Ground.phase }, { on := 11, ground := Go.Ground.phase }, { on := 12, ground := Go.Ground.phase }], guard := none }) (v := ?_) rfl rfl (by kernel_rfl) (by kernel_rfl) (by kernel_rfl) (by kernel_rfl) (by kernel_rfl) (fun _ _ _ h => h) (by rfl) hH (Or.inl ⟨by rfl, ?_⟩) ?_
  rotate_left
  · intro wz hSw
    obtain ⟨q0, q1⟩ := hSw
    go_simp
    try with_reducible rfl
  try simp only [Act.put, List.setIfInBounds_toArray, List.set_cons_zero, List.set_cons_succ]
  refine anyK_takeP (i := 5) (oi := { dst := some 120, op := Go.Op.binOp Go.BinOp.eql 3 (Go.Operand.tmp 117) (Go.Operand.tmp 119) 3, type := 4, pos := "outright.go:88", after := #[{ on := 2, ground := Go.Ground.data }, { on := 4, ground := Go.Ground.data }], guard := none }) (v := .bool bq) rfl (by kernel_rfl) (by kernel_rfl) (by kernel_rfl) (fun _ _ _ h => h) (by rfl) (fun _ => hH) (Or.inl ⟨by rfl, ?_⟩) ?_
  · intro wz
    go_simp
    try with_reducible rfl
  try simp only [Act.put, List.setIfInBounds_toArray, List.set_cons_zero, List.set_cons_succ]
  refine anyK_one (i := 1) (o := { dst := some 116, op := Go.Op.call { callee := Go.Callee.value (Go.Operand.func 18), args := #[Go.Operand.tmp 115], argTypes := #[36] }, type := 3, pos := "outright.go:88", after := #[{ on := 0, ground := Go.Ground.data }], guard := none }) (by kernel_rfl) rfl (fun K hK => ?_)
  go_simp
  try go_wp2_with fail
  with_reducible refine Calls.mono HC.out ?_
  rintro e w2 ⟨rfl, rfl⟩
  refine hK.out _ _ (fun _ => hH) ?_
  clear hK K
  try simp only [Act.put, List.setIfInBounds_toArray, List.set_cons_zero, List.set_cons_succ]
  refine anyK_takeP (i := 6) (oi := { dst := some 121, op := Go.Op.move (Go.Operand.tmp 120), type := 4, pos := "outright.go:88", after := #[{ on := 5, ground := Go.Ground.data }, { on := 1, ground := Go.Ground.chain }], guard := none }) (v := ?_) rfl (by kernel_rfl) (by kernel_rfl) (by kernel_rfl) (fun _ _ _ h => h) (by rfl) (fun _ => hH) (Or.inl ⟨by rfl, ?_⟩) ?_
  rotate_left
  · intro wz
    go_simp
    try with_reducible rfl
  try simp only [Act.put, List.setIfInBounds_toArray, List.set_cons_zero, List.set_cons_succ]
  refine anyK_takeP (i := 12) (oi := { dst := some 4, op := Go.Op.assign (Go.Operand.tmp 116), type := 3, pos := "outright.go:88", after := #[{ on := 1, ground := Go.Ground.data }, { on := 6, ground := Go.Ground.chain }, { on := 0, ground := Go.Ground.phase }, { on := 1, ground := Go.Ground.phase }, { on := 2, ground := Go.Ground.textOnly Go.Departure.lateStores }, { on := 3, ground := Go.Ground.textOnly Go.Departure.lateStores }, { on := 4, ground := Go.Ground.textOnly Go.Departure.lateStores }, { on := 5, ground := Go.Ground.textOnly Go.Departure.lateStores }, { on := 6, ground := Go.Ground.textOnly Go.Departure.lateStores }, { on := 7, ground := Go.Ground.textOnly Go.Departure.lateStores }, { on := 8, ground := Go.Ground.textOnly Go.Departure.lateStores }, { on := 9, ground := Go.Ground.textOnly Go.Departure.lateStores }, { on := 10, ground := Go.Ground.textOnly Go.Departure.lateStores }, { on := 11, ground := Go.Ground.textOnly Go.Departure.lateStores }], guard := none }) (v := ?_) rfl (by kernel_rfl) (by kernel_rfl) (by kernel_rfl) (fun _ _ _ h => h) (by rfl) (fun _ => hH) (Or.inl ⟨by rfl, ?_⟩) ?_
  rotate_left
  · intro wz
    go_simp
    try with_reducible rfl
  try simp only [Act.put, List.setIfInBounds_toArray, List.set_cons_zero, List.set_cons_succ]
  cases bq
  · refine anyK_takeP (i := 7) (oi := { dst := some 122, op := Go.Op.move (Go.Operand.tmp 8), type := 9, pos := "outright.go:88", after := #[{ on := 6, ground := Go.Ground.guard }, { on := 12, ground := Go.Ground.gcOnly Go.Departure.lateStores }], guard := some (6, true) }) (v := undef) rfl (by kernel_rfl) (by kernel_rfl) (by kernel_rfl) (fun _ _ _ h => h) (by rfl) (fun _ => hH) (Or.inr ⟨by rfl, rfl⟩) ?_
    try simp only [Act.put, List.setIfInBounds_toArray, List.set_cons_zero, List.set_cons_succ]
    refine anyK_takeP (i := 8) (oi := { dst := some 123, op := Go.Op.fieldAddr 30 (Go.Operand.tmp 3) 6, type := 0, pos := "outright.go:88", after := #[{ on := 6, ground := Go.Ground.guard }, { on := 12, ground := Go.Ground.gcOnly Go.Departure.lateStores }], guard := some (6, true) }) (v := undef) rfl (by kernel_rfl) (by kernel_rfl) (by kernel_rfl) (fun _ _ _ h => h) (by rfl) (fun _ => hH) (Or.inr ⟨by rfl, rfl⟩) ?_
    try simp only [Act.put, List.setIfInBounds_toArray, List.set_cons_zero, List.set_cons_succ]
    refine anyK_takeP (i := 9) (oi := { dst := some 124, op := Go.Op.load 9 (Go.Operand.tmp 123), type := 9, pos := "outright.go:88", after := #[{ on := 8, ground := Go.Ground.data }, { on := 6, ground := Go.Ground.guard }, { on := 12, ground := Go.Ground.gcOnly Go.Departure.lateStores }], guard := some (6, true) }) (v := undef) rfl (by kernel_rfl) (by kernel_rfl) (by kernel_rfl) (fun _ _ _ h => h) (by rfl) (fun _ => hH) (Or.inr ⟨by rfl, rfl⟩) ?_
    try simp only [Act.put, List.setIfInBounds_toArray, List.set_cons_zero, List.set_cons_succ]
    refine anyK_takeP (i := 10) (oi := { dst := some 125, op := Go.Op.binOp Go.BinOp.eql 9 (Go.Operand.tmp 122) (Go.Operand.tmp 124) 9, type := 4, pos := "outright.go:88", after := #[{ on := 7, ground := Go.Ground.data }, { on := 9, ground := Go.Ground.data }, { on := 6, ground := Go.Ground.guard }, { on := 12, ground := Go.Ground.gcOnly Go.Departure.lateStores }], guard := some (6, true) }) (v := undef) rfl (by kernel_rfl) (by kernel_rfl) (by kernel_rfl) (fun _ _ _ h => h) (by rfl) (fun _ => hH) (Or.inr ⟨by rfl, rfl⟩) ?_
    try simp only [Act.put, List.setIfInBounds_toArray, List.set_cons_zero, List.set_cons_succ]
    refine anyK_takeP (i := 11) (oi := { dst := some 126, op := Go.Op.pick (Go.Operand.tmp 121) (Go.Operand.tmp 125) (Go.Operand.const (Go.Value.bool false)), type := 4, pos := "outright.go:88", after := #[{ on := 6, ground := Go.Ground.data }, { on := 10, ground := Go.Ground.data }, { on := 12, ground := Go.Ground.gcOnly Go.Departure.lateStores }], guard := none }) (v := ?_) rfl (by kernel_rfl) (by kernel_rfl) (by kernel_rfl) (fun _ _ _ h => h) (by rfl) (fun _ => hH) (Or.inl ⟨by rfl, ?_⟩) ?_
    rotate_left
    · intro wz
      go_simp
      try with_reducible rfl
    try simp only [Act.put, List.setIfInBounds_toArray, List.set_cons_zero, List.set_cons_succ]
    refine anyK_one (i := 13) (o := { dst := some 5, op := Go.Op.assign (Go.Operand.tmp 126), type := 4, pos := "outright.go:88", after := #[{ on := 11, ground := Go.Ground.data }, { on := 12, ground := Go.Ground.chain }, { on := 0, ground := Go.Ground.phase }, { on := 1, ground := Go.Ground.phase }, { on := 2, ground := Go.Ground.phase }, { on := 3, ground := Go.Ground.phase }, { on := 4, ground := Go.Ground.phase }, { on := 5, ground := Go.Ground.phase }, { on := 6, ground := Go.Ground.phase }, { on := 7, ground := Go.Ground.phase }, { on := 8, ground := Go.Ground.phase }, { on := 9, ground := Go.Ground.phase }, { on := 10, ground := Go.Ground.phase }, { on := 11, ground := Go.Ground.phase }, { on := 12, ground := Go.Ground.phase }], guard := none }) (by kernel_rfl) rfl (fun K hK => ?_)
    go_simp
    try go_wp2_with fail
    refine hK.out _ _ (fun h => absurd h (by decide)) ?_
    clear hK K
    try simp only [Act.put, List.setIfInBounds_toArray, List.set_cons_zero, List.set_cons_succ]
    refine anyK_done (by kernel_rfl) ?_ _
    exact fin.out _ _ _ _ _ _ _ _ _ _ _ _
  · refine anyK_takeP (i := 7) (oi := { dst := some 122, op := Go.Op.move (Go.Operand.tmp 8), type := 9, pos := "outright.go:88", after := #[{ on := 6, ground := Go.Ground.guard }, { on := 12, ground := Go.Ground.gcOnly Go.Departure.lateStores }], guard := some (6, true) }) (v := ?_) rfl (by kernel_rfl) (by kernel_rfl) (by kernel_rfl) (fun _ _ _ h => h) (by rfl) (fun _ => hH) (Or.inl ⟨by rfl, ?_⟩) ?_
    rotate_left
    · intro wz
      go_simp
      try with_reducible rfl
    try simp only [Act.put, List.setIfInBounds_toArray, List.set_cons_zero, List.set_cons_succ]
    refine anyK_takeP (i := 8) (oi := { dst := some 123, op := Go.Op.fieldAddr 30 (Go.Operand.tmp 3) 6, type := 0, pos := "outright.go:88", after := #[{ on := 6, ground := Go.Ground.guard }, { on := 12, ground := Go.Ground.gcOnly Go.Departure.lateStores }], guard := some (6, true) }) (v := ?_) rfl (by kernel_rfl) (by kernel_rfl) (by kernel_rfl) (fun _ _ _ h => h) (by rfl) (fun _ => hH) (Or.inl ⟨by rfl, ?_⟩) ?_
    rotate_left
    · intro wz
      go_simp
      try with_reducible rfl
    try simp only [Act.put, List.setIfInBounds_toArray, List.set_cons_zero, List.set_cons_succ]
    refine anyK_takeL (i := 9) (oi := { dst := some 124, op := Go.Op.load 9 (Go.Operand.tmp 123), type := 9, pos := "outright.go:88", after := #[{ on := 8, ground := Go.Ground.data }, { on := 6, ground := Go.Ground.guard }, { on := 12, ground := Go.Ground.gcOnly Go.Departure.lateStores }], guard := some (6, true) }) (ok := { dst := some 5, op := Go.Op.assign (Go.Operand.tmp 126), type := 4, pos := "outright.go:88", after := #[{ on := 11, ground := Go.Ground.data }, { on := 12, ground := Go.Ground.chain }, { on := 0, ground := Go.Ground.phase }, { on := 1, ground := Go.Ground.phase }, { on := 2, ground := Go.Ground.phase }, { on := 3, ground := Go.Ground.phase }, { on := 4, ground := Go.Ground.phase }, { on := 5, ground := Go.Ground.phase }, { on := 6, ground := Go.Ground.phase }, { on := 7, ground := Go.Ground.phase }, { on := 8, ground := Go.Ground.phase }, { on := 9, ground := Go.Ground.phase }, { on := 10, ground := Go.Ground.phase }, { on := 11, ground := Go.Ground.phase }, { on := 12, ground := Go.Ground.phase }], guard := none }) (v := ?_) rfl rfl (by kernel_rfl) (by kernel_rfl) (by kernel_rfl) (by kernel_rfl) (by kernel_rfl) (fun _ _ _ h => h) (by rfl) hH (Or.inl ⟨by rfl, ?_⟩) ?_
    rotate_left
    · intro wz hSw
      obtain ⟨q0, q1⟩ := hSw
      go_simp
      try with_reducible rfl
    try simp only [Act.put, List.setIfInBounds_toArray, List.set_cons_zero, List.set_cons_succ]
    refine anyK_takeP (i := 10) (oi := { dst := some 125, op := Go.Op.binOp Go.BinOp.eql 9 (Go.Operand.tmp 122) (Go.Operand.tmp 124) 9, type := 4, pos := "outright.go:88", after := #[{ on := 7, ground := Go.Ground.data }, { on := 9, ground := Go.Ground.data }, { on := 6, ground := Go.Ground.guard }, { on := 12, ground := Go.Ground.gcOnly Go.Departure.lateStores }], guard := some (6, true) }) (v := .bool bs) rfl (by kernel_rfl) (by kernel_rfl) (by kernel_rfl) (fun _ _ _ h => h) (by rfl) (fun _ => hH) (Or.inl ⟨by rfl, ?_⟩) ?_
    · intro wz
      go_simp
      try with_reducible rfl
    try simp only [Act.put, List.setIfInBounds_toArray, List.set_cons_zero, List.set_cons_succ]
    refine anyK_takeP (i := 11) (oi := { dst := some 126, op := Go.Op.pick (Go.Operand.tmp 121) (Go.Operand.tmp 125) (Go.Operand.const (Go.Value.bool false)), type := 4, pos := "outright.go:88", after := #[{ on := 6, ground := Go.Ground.data }, { on := 10, ground := Go.Ground.data }, { on := 12, ground := Go.Ground.gcOnly Go.Departure.lateStores }], guard := none }) (v := ?_) rfl (by kernel_rfl) (by kernel_rfl) (by kernel_rfl) (fun _ _ _ h => h) (by rfl) (fun _ => hH) (Or.inl ⟨by rfl, ?_⟩) ?_
    rotate_left
    · intro wz
      go_simp
      try with_reducible rfl
    try simp only [Act.put, List.setIfInBounds_toArray, List.set_cons_zero, List.set_cons_succ]
    refine anyK_one (i := 13) (o := { dst := some 5, op := Go.Op.assign (Go.Operand.tmp 126), type := 4, pos := "outright.go:88", after := #[{ on := 11, ground := Go.Ground.data }, { on := 12, ground := Go.Ground.chain }, { on := 0, ground := Go.Ground.phase }, { on := 1, ground := Go.Ground.phase }, { on := 2, ground := Go.Ground.phase }, { on := 3, ground := Go.Ground.phase }, { on := 4, ground := Go.Ground.phase }, { on := 5, ground := Go.Ground.phase }, { on := 6, ground := Go.Ground.phase }, { on := 7, ground := Go.Ground.phase }, { on := 8, ground := Go.Ground.phase }, { on := 9, ground := Go.Ground.phase }, { on := 10, ground := Go.Ground.phase }, { on := 11, ground := Go.Ground.phase }, { on := 12, ground := Go.Ground.phase }], guard := none }) (by kernel_rfl) rfl (fun K hK => ?_)
    go_simp
    try go_wp2_with fail
    refine hK.out _ _ (fun h => absurd h (by decide)) ?_
    clear hK K
    try simp only [Act.put, List.setIfInBounds_toArray, List.set_cons_zero, List.set_cons_succ]
    refine anyK_done (by kernel_rfl) ?_ _
    exact fin.out _ _ _ _ _ _ _ _ _ _ _ _
end Go.Proofs.YtkkogkdalcigkaaDoor
namespace Go.Proofs.YtkkogkdalcigkaaDoor
open Go.RowKit FerryCrc
set_option linter.unusedVariables false
set_option linter.unusedSimpArgs false

set_option maxRecDepth 100000 in
set_option maxHeartbeats 4000000 in
theorem one_u8 {E : Nat → Addr} (c g len p : Nat) (L X R : List Nat) (sec : Bool) (cur : Int) (N : Nat) (lo hi : Int) (S : ByteArray) (w : World) (h : Cur w c g len p len L) (he : Errs w E) (hN : N < 256 ^ 1) (hx : L.drop p ++ X = be N 1 ++ R) :
    Calls Tryd.prog 61 #[.pointer (some ⟨c, 0, none⟩), .agg #[.int .i64 1, .bool sec, .int .i64 cur, .int .i64 (N : Int), .int .i64 lo, .int .i64 hi, .string S]] w fun e w' => One w c g len p L 1 e w' := by
  have hle := h.le
  have hmo := h.bts.most
  have hsz := h.bts.size
  have HN : Hid (1 ≤ len - p → nbe (cut L p 1) = N) := fun h1 => by
    have := cut_pre0 hx (by rw [be_len]; omega)
    rw [be_len] at this
    rw [this]; exact nbe_be _ _ (by decide) hN
  have HA : Hid (Below w.heap.size w (w.alloc (.cells #[.int .i64 1, .bool sec, .int .i64 cur, .int .i64 (N : Int), .int .i64 lo, .int .i64 hi, .string S] 30))) := (Below.refl _ _).alloc (Nat.le_refl _) _
  have H := hide (h.below HA.out)
  have HE := hide (he.below HA.out)
  have z3 : (w.alloc (.cells #[.int .i64 1, .bool sec, .int .i64 cur, .int .i64 (N : Int), .int .i64 lo, .int .i64 hi, .string S] 30)).cell? ⟨w.heap.size, 3, none⟩ = some (.int .i64 (N : Int)) := (World.cell?_alloc_at _ _ _ _ rfl).trans rfl
  have z6 : (w.alloc (.cells #[.int .i64 1, .bool sec, .int .i64 cur, .int .i64 (N : Int), .int .i64 lo, .int .i64 hi, .string S] 30)).cell? ⟨w.heap.size, 6, none⟩ = some (.string S) := (World.cell?_alloc_at _ _ _ _ rfl).trans rfl
  have hcl := h.lt
  clear h he hx
  go_enter Tryd.func61, Tryd.ntmps61
  go_wp2_with fail
  refine Calls.mono (cU8_any c g len p len L _ H.out HE.out.three) ?_
  rintro e w1 (⟨hs, ev, rfl, ha, hb⟩ | ⟨hs, rfl, q1, q2⟩)
  · have HC := hide (code_any (w := w1.drew) (HE.out.below (hb.drew)) ev 1 p ((at_isErr ha (by decide) (by decide)).below (Below.refl _ _).drew))
    have y3 := cell_below z3 hb
    have y6 := cell_below z6 hb
    have H1 := hide ((H.out.below hb).below (Below.refl _ _).drew)
    have H2 := hide (Frm.ofBelow (S := fun j => j = c) (below_alloc_pre hb)).drew
    clear ha hb
    go_wp2_with fail
    refine wp_onlyN ?_
    refine one_end _ rfl rfl HC ?hf y3 y6
    case hf =>
    unfold Hid
    intro y115 y116 y117 y118 y119 y120 y121 y122 y123 y124 y125 y126
    go_wp2
    go_ret2
    exact ⟨_, _, _, rfl, H1.out, H2.out, .inr ⟨by omega, .inl rfl⟩⟩
  · have y3 := q2.cell z3 (show ¬ (w.heap.size = c) by omega)
    have y6 := q2.cell z6 (show ¬ (w.heap.size = c) by omega)
    have H1 := hide (q1.below (Below.refl _ _).drew)
    have H2 := hide (frm_alloc_pre q2).drew
    have HC := hide (code_none w1.drew)
    rw [HN.out hs]
    clear q1 q2
    go_wp2_with fail
    refine wp_onlyN ?_
    refine one_end _ rfl rfl HC ?hf y3 y6
    case hf =>
    unfold Hid
    intro y115 y116 y117 y118 y119 y120 y121 y122 y123 y124 y125 y126
    go_wp2
    go_ret2
    exact ⟨_, _, _, rfl, H1.out, H2.out, .inl ⟨by omega, rfl, by simp, rfl⟩⟩

set_option maxRecDepth 100000 in
set_option maxHeartbeats 4000000 in
theorem one_u16 {E : Nat → Addr} (c g len p : Nat) (L X R : List Nat) (sec : Bool) (cur : Int) (N : Nat) (lo hi : Int) (S : ByteArray) (w : World) (h : Cur w c g len p len L) (he : Errs w E) (hN : N < 256 ^ 2) (hx : L.drop p ++ X = be N 2 ++ R) :
    Calls Tryd.prog 61 #[.pointer (some ⟨c, 0, none⟩), .agg #[.int .i64 2, .bool sec, .int .i64 cur, .int .i64 (N : Int), .int .i64 lo, .int .i64 hi, .string S]] w fun e w' => One w c g len p L 2 e w' := by
  have hle := h.le
  have hmo := h.bts.most
  have hsz := h.bts.size
  have HN : Hid (2 ≤ len - p → nbe (cut L p 2) = N) := fun h1 => by
    have := cut_pre0 hx (by rw [be_len]; omega)
    rw [be_len] at this
    rw [this]; exact nbe_be _ _ (by decide) hN
  have HA : Hid (Below w.heap.size w (w.alloc (.cells #[.int .i64 2, .bool sec, .int .i64 cur, .int .i64 (N : Int), .int .i64 lo, .int .i64 hi, .string S] 30))) := (Below.refl _ _).alloc (Nat.le_refl _) _
  have H := hide (h.below HA.out)
  have HE := hide (he.below HA.out)
  have z3 : (w.alloc (.cells #[.int .i64 2, .bool sec, .int .i64 cur, .int .i64 (N : Int), .int .i64 lo, .int .i64 hi, .string S] 30)).cell? ⟨w.heap.size, 3, none⟩ = some (.int .i64 (N : Int)) := (World.cell?_alloc_at _ _ _ _ rfl).trans rfl
  have z6 : (w.alloc (.cells #[.int .i64 2, .bool sec, .int .i64 cur, .int .i64 (N : Int), .int .i64 lo, .int .i64 hi, .string S] 30)).cell? ⟨w.heap.size, 6, none⟩ = some (.string S) := (World.cell?_alloc_at _ _ _ _ rfl).trans rfl
  have hcl := h.lt
  clear h he hx
  go_enter Tryd.func61, Tryd.ntmps61
  go_wp2_with fail
  refine Calls.mono (cU16_any c g len p len L _ H.out HE.out.three) ?_
  rintro e w1 (⟨hs, ev, rfl, ha, hb⟩ | ⟨hs, rfl, q1, q2⟩)
  · have HC := hide (code_any (w := w1.drew) (HE.out.below (hb.drew)) ev 1 p ((at_isErr ha (by decide) (by decide)).below (Below.refl _ _).drew))
    have y3 := cell_below z3 hb
    have y6 := cell_below z6 hb
    have H1 := hide ((H.out.below hb).below (Below.refl _ _).drew)
    have H2 := hide (Frm.ofBelow (S := fun j => j = c) (below_alloc_pre hb)).drew
    clear ha hb
    go_wp2_with fail
    refine wp_onlyN ?_
    refine one_end _ rfl rfl HC ?hf y3 y6
    case hf =>
    unfold Hid
    intro y115 y116 y117 y118 y119 y120 y121 y122 y123 y124 y125 y126
    go_wp2
    go_ret2
    exact ⟨_, _, _, rfl, H1.out, H2.out, .inr ⟨by omega, .inl rfl⟩⟩
  · have y3 := q2.cell z3 (show ¬ (w.heap.size = c) by omega)
    have y6 := q2.cell z6 (show ¬ (w.heap.size = c) by omega)
    have H1 := hide (q1.below (Below.refl _ _).drew)
    have H2 := hide (frm_alloc_pre q2).drew
    have HC := hide (code_none w1.drew)
    rw [HN.out hs]
    clear q1 q2
    go_wp2_with fail
    refine wp_onlyN ?_
    refine one_end _ rfl rfl HC ?hf y3 y6
    case hf =>
    unfold Hid
    intro y115 y116 y117 y118 y119 y120 y121 y122 y123 y124 y125 y126
    go_wp2
    go_ret2
    exact ⟨_, _, _, rfl, H1.out, H2.out, .inl ⟨by omega, rfl, by simp, rfl⟩⟩

set_option maxRecDepth 100000 in
set_option maxHeartbeats 4000000 in
theorem one_u32 {E : Nat → Addr} (c g len p : Nat) (L X R : List Nat) (sec : Bool) (cur : Int) (N : Nat) (lo hi : Int) (S : ByteArray) (w : World) (h : Cur w c g len p len L) (he : Errs w E) (hN : N < 256 ^ 4) (hx : L.drop p ++ X = be N 4 ++ R) :
    Calls Tryd.prog 61 #[.pointer (some ⟨c, 0, none⟩), .agg #[.int .i64 3, .bool sec, .int .i64 cur, .int .i64 (N : Int), .int .i64 lo, .int .i64 hi, .string S]] w fun e w' => One w c g len p L 4 e w' := by
  have hle := h.le
  have hmo := h.bts.most
  have hsz := h.bts.size
  have HN : Hid (4 ≤ len - p → nbe (cut L p 4) = N) := fun h1 => by
    have := cut_pre0 hx (by rw [be_len]; omega)
    rw [be_len] at this
    rw [this]; exact nbe_be _ _ (by decide) hN
  have HA : Hid (Below w.heap.size w (w.alloc (.cells #[.int .i64 3, .bool sec, .int .i64 cur, .int .i64 (N : Int), .int .i64 lo, .int .i64 hi, .string S] 30))) := (Below.refl _ _).alloc (Nat.le_refl _) _
  have H := hide (h.below HA.out)
  have HE := hide (he.below HA.out)
  have z3 : (w.alloc (.cells #[.int .i64 3, .bool sec, .int .i64 cur, .int .i64 (N : Int), .int .i64 lo, .int .i64 hi, .string S] 30)).cell? ⟨w.heap.size, 3, none⟩ = some (.int .i64 (N : Int)) := (World.cell?_alloc_at _ _ _ _ rfl).trans rfl
  have z6 : (w.alloc (.cells #[.int .i64 3, .bool sec, .int .i64 cur, .int .i64 (N : Int), .int .i64 lo, .int .i64 hi, .string S] 30)).cell? ⟨w.heap.size, 6, none⟩ = some (.string S) := (World.cell?_alloc_at _ _ _ _ rfl).trans rfl
  have hcl := h.lt
  clear h he hx
  go_enter Tryd.func61, Tryd.ntmps61
  go_wp2_with fail
  refine Calls.mono (cU32_any c g len p len L _ H.out HE.out.three) ?_
  rintro e w1 (⟨hs, ev, rfl, ha, hb⟩ | ⟨hs, rfl, q1, q2⟩)
  · have HC := hide (code_any (w := w1.drew) (HE.out.below (hb.drew)) ev 1 p ((at_isErr ha (by decide) (by decide)).below (Below.refl _ _).drew))
    have y3 := cell_below z3 hb
    have y6 := cell_below z6 hb
    have H1 := hide ((H.out.below hb).below (Below.refl _ _).drew)
    have H2 := hide (Frm.ofBelow (S := fun j => j = c) (below_alloc_pre hb)).drew
    clear ha hb
    go_wp2_with fail
    refine wp_onlyN ?_
    refine one_end _ rfl rfl HC ?hf y3 y6
    case hf =>
    unfold Hid
    intro y115 y116 y117 y118 y119 y120 y121 y122 y123 y124 y125 y126
    go_wp2
    go_ret2
    exact ⟨_, _, _, rfl, H1.out, H2.out, .inr ⟨by omega, .inl rfl⟩⟩
  · have y3 := q2.cell z3 (show ¬ (w.heap.size = c) by omega)
    have y6 := q2.cell z6 (show ¬ (w.heap.size = c) by omega)
    have H1 := hide (q1.below (Below.refl _ _).drew)
    have H2 := hide (frm_alloc_pre q2).drew
    have HC := hide (code_none w1.drew)
    rw [HN.out hs]
    clear q1 q2
    go_wp2_with fail
    refine wp_onlyN ?_
    refine one_end _ rfl rfl HC ?hf y3 y6
    case hf =>
    unfold Hid
    intro y115 y116 y117 y118 y119 y120 y121 y122 y123 y124 y125 y126
    go_wp2
    go_ret2
    exact ⟨_, _, _, rfl, H1.out, H2.out, .inl ⟨by omega, rfl, by simp, rfl⟩⟩
end Go.Proofs.YtkkogkdalcigkaaDoor
namespace Go.Proofs.YtkkogkdalcigkaaDoor
open Go.RowKit FerryCrc
set_option linter.unusedVariables false
set_option linter.unusedSimpArgs false

theorem bit_low (N : Int) : bits .and .i64 N 1 = 0 ∨ bits .and .i64 N 1 = 1 := by
  have key : (BitVec.ofInt 64 N &&& BitVec.ofInt 64 1).toNat = (BitVec.ofInt 64 N).toNat % 2 := by
    rw [BitVec.toNat_and]
    show (BitVec.ofInt 64 N).toNat &&& 1 = _
    exact Nat.and_one_is_mod _
  have h2 : bits .and .i64 N 1 = IntKind.i64.wrap ((BitVec.ofInt 64 N &&& BitVec.ofInt 64 1).toNat : Nat) := rfl
  rw [h2, key, IntKind.wrap_i64]
  omega

set_option maxRecDepth 100000 in
set_option maxHeartbeats 4000000 in
theorem one_text {E : Nat → Addr} (c g len p : Nat) (L X R : List Nat) (sec : Bool) (cur : Int) (N lo hi : Int) (S : ByteArray) (w : World) (h : Cur w c g len p len L) (he : Errs w E) (hS : S.size ≤ 65535) (hx : L.drop p ++ X = (be S.size 2 ++ bytesOf S) ++ R) :
    Calls Tryd.prog 61 #[.pointer (some ⟨c, 0, none⟩), .agg #[.int .i64 6, .bool sec, .int .i64 cur, .int .i64 N, .int .i64 lo, .int .i64 hi, .string S]] w fun e w' => One w c g len p L (2 + S.size) e w' := by
  have hle := h.le
  have hmo := h.bts.most
  have hsz := h.bts.size
  rw [List.append_assoc] at hx
  have HN : Hid (2 ≤ len - p → nbe (cut L p 2) = S.size) := fun h1 => by
    have := cut_pre0 hx (by rw [be_len]; omega)
    rw [be_len] at this
    rw [this]; exact be_two _ hS
  have HS : Hid (2 + S.size ≤ len - p → str (cut L (p + 2) S.size) = S) := fun h1 => by
    have := cut_pre hx (by rw [be_len, bytesOf_len]; omega)
    rw [be_len, bytesOf_len] at this
    rw [this]; exact str_bytesOf S
  have HA : Hid (Below w.heap.size w (w.alloc (.cells #[.int .i64 6, .bool sec, .int .i64 cur, .int .i64 N, .int .i64 lo, .int .i64 hi, .string S] 30))) := (Below.refl _ _).alloc (Nat.le_refl _) _
  have H := hide (h.below HA.out)
  have HE := hide (he.below HA.out)
  have z3 : (w.alloc (.cells #[.int .i64 6, .bool sec, .int .i64 cur, .int .i64 N, .int .i64 lo, .int .i64 hi, .string S] 30)).cell? ⟨w.heap.size, 3, none⟩ = some (.int .i64 N) := (World.cell?_alloc_at _ _ _ _ rfl).trans rfl
  have z6 : (w.alloc (.cells #[.int .i64 6, .bool sec, .int .i64 cur, .int .i64 N, .int .i64 lo, .int .i64 hi, .string S] 30)).cell? ⟨w.heap.size, 6, none⟩ = some (.string S) := (World.cell?_alloc_at _ _ _ _ rfl).trans rfl
  have hcl := h.lt
  clear h he hx
  go_enter Tryd.func61, Tryd.ntmps61
  go_wp2_with fail
  by_cases h2 : len - p < 2
  · refine Calls.mono (text_short c g len p len L 65535 (E 1) _ H.out HE.out.v1 h2) ?_
    rintro e w1 ⟨ev, rfl, ha, hb⟩
    have HC := hide (code_any (w := w1.drew) (HE.out.below (hb.drew)) ev 1 p ((at_isErr ha (by decide) (by decide)).below (Below.refl _ _).drew))
    have y3 := cell_below z3 hb
    have y6 := cell_below z6 hb
    have H1 := hide ((H.out.below hb).below (Below.refl _ _).drew)
    have H2 := hide (Frm.ofBelow (S := fun j => j = c) (below_alloc_pre hb)).drew
    clear ha hb
    go_wp2_with fail
    refine wp_onlyN ?_
    refine one_end _ rfl rfl HC ?hf y3 y6
    case hf =>
    unfold Hid
    intro y115 y116 y117 y118 y119 y120 y121 y122 y123 y124 y125 y126
    go_wp2
    go_ret2
    exact ⟨_, _, _, rfl, H1.out, H2.out, .inr ⟨by omega, .inl rfl⟩⟩
  by_cases h3 : len - (p + 2) < S.size
  · refine Calls.mono (text_cut c g len p len L 65535 (E 1) _ H.out HE.out.v1 (by omega) (by rw [HN.out (by omega)]; omega) (by rw [HN.out (by omega)]; omega)) ?_
    rintro e w1 ⟨ev, rfl, ha, hb⟩
    have HC := hide (code_any (w := w1.drew) (HE.out.below (hb.drew)) ev 1 (p + 2 : Nat) ((at_isErr ha (by decide) (by decide)).below (Below.refl _ _).drew))
    have y3 := cell_below z3 hb
    have y6 := cell_below z6 hb
    have H1 := hide ((H.out.below hb).below (Below.refl _ _).drew)
    have H2 := hide (Frm.ofBelow (S := fun j => j = c) (below_alloc_pre hb)).drew
    clear ha hb
    go_wp2_with fail
    refine wp_onlyN ?_
    refine one_end _ rfl rfl HC ?hf y3 y6
    case hf =>
    unfold Hid
    intro y115 y116 y117 y118 y119 y120 y121 y122 y123 y124 y125 y126
    go_wp2
    go_ret2
    exact ⟨_, _, _, rfl, H1.out, H2.out, .inr ⟨by omega, .inl rfl⟩⟩
  · refine Calls.mono (text_ok c g len p len L 65535 _ H.out (by omega) (by rw [HN.out (by omega)]; omega) (by rw [HN.out (by omega)]; omega)) ?_
    rintro e w1 ⟨rfl, q1, q2⟩
    rw [HN.out (by omega)] at q1 ⊢
    rw [HS.out (by omega)]
    have y3 := q2.cell z3 (show ¬ (w.heap.size = c) by omega)
    have y6 := q2.cell z6 (show ¬ (w.heap.size = c) by omega)
    have H1 := hide (q1.below (Below.refl _ _).drew)
    have H2 := hide (frm_alloc_pre q2).drew
    have HC := hide (code_none w1.drew)
    clear q1 q2
    go_wp2_with fail
    refine wp_onlyN ?_
    refine one_end _ rfl rfl HC ?hf y3 y6
    case hf =>
    unfold Hid
    intro y115 y116 y117 y118 y119 y120 y121 y122 y123 y124 y125 y126
    go_wp2
    go_ret2
    exact ⟨_, _, _, rfl, H1.out, H2.out, .inl ⟨by omega, rfl, by simp, by omega⟩⟩

set_option maxRecDepth 100000 in
set_option maxHeartbeats 4000000 in
theorem one_raw {E : Nat → Addr} (c g len p : Nat) (L X R : List Nat) (sec : Bool) (cur : Int) (N lo hi : Int) (S : ByteArray) (w : World) (h : Cur w c g len p len L) (he : Errs w E) (hx : L.drop p ++ X = bytesOf S ++ R) :
    Calls Tryd.prog 61 #[.pointer (some ⟨c, 0, none⟩), .agg #[.int .i64 5, .bool sec, .int .i64 cur, .int .i64 N, .int .i64 lo, .int .i64 hi, .string S]] w fun e w' => One w c g len p L S.size e w' := by
  have hle := h.le
  have hmo := h.bts.most
  have hsz := h.bts.size
  have hsm := h.bts.small
  have HS : Hid (S.size ≤ len - p → str (cut L p S.size) = S) := fun h1 => by
    have := cut_pre0 hx (by rw [bytesOf_len]; omega)
    rw [bytesOf_len] at this
    rw [this]; exact str_bytesOf S
  have HA : Hid (Below w.heap.size w (w.alloc (.cells #[.int .i64 5, .bool sec, .int .i64 cur, .int .i64 N, .int .i64 lo, .int .i64 hi, .string S] 30))) := (Below.refl _ _).alloc (Nat.le_refl _) _
  have H := hide (h.below HA.out)
  have HE := hide (he.below HA.out)
  have z3 : (w.alloc (.cells #[.int .i64 5, .bool sec, .int .i64 cur, .int .i64 N, .int .i64 lo, .int .i64 hi, .string S] 30)).cell? ⟨w.heap.size, 3, none⟩ = some (.int .i64 N) := (World.cell?_alloc_at _ _ _ _ rfl).trans rfl
  have z6 : (w.alloc (.cells #[.int .i64 5, .bool sec, .int .i64 cur, .int .i64 N, .int .i64 lo, .int .i64 hi, .string S] 30)).cell? ⟨w.heap.size, 6, none⟩ = some (.string S) := (World.cell?_alloc_at _ _ _ _ rfl).trans rfl
  have hcl := h.lt
  clear h he hx
  obtain ⟨n, hn⟩ : ∃ n, S.size = n := ⟨_, rfl⟩
  rw [hn] at HS ⊢
  go_enter Tryd.func61, Tryd.ntmps61
  go_wp2_with fail
  by_cases h2 : len - p < n
  · refine Calls.mono (raw_short c g len p len L n (E 1) _ H.out HE.out.v1 h2) ?_
    rintro e w1 ⟨ev, rfl, ha, hb⟩
    have hcv := bts_string (w := w1) (a := none) (n := 0) (c := 0) (l := []) ⟨rfl, by decide, by decide, by simp, fun _ => ⟨rfl, rfl⟩, fun k hk => by omega⟩
    have HC := hide (code_any (w := w1.drew) (HE.out.below (hb.drew)) ev 1 p ((at_isErr ha (by decide) (by decide)).below (Below.refl _ _).drew))
    have y3 := cell_below z3 hb
    have y6 := cell_below z6 hb
    have H1 := hide ((H.out.below hb).below (Below.refl _ _).drew)
    have H2 := hide (Frm.ofBelow (S := fun j => j = c) (below_alloc_pre hb)).drew
    clear ha hb
    go_wp2_with fail
    refine wp_onlyN ?_
    refine one_end _ rfl rfl HC ?hf y3 y6
    case hf =>
    unfold Hid
    intro y115 y116 y117 y118 y119 y120 y121 y122 y123 y124 y125 y126
    go_wp2
    go_ret2
    exact ⟨_, _, _, rfl, H1.out, H2.out, .inr ⟨by omega, .inl rfl⟩⟩
  · refine Calls.mono (raw_ok c g len p len L n _ H.out (by omega)) ?_
    rintro e w1 ⟨b, hbb, rfl, q0, q1, q2⟩
    have hcv := bts_string (w := w1) (a := some ⟨b, 0, none⟩) (n := n) (c := n) (l := cut L p n) ((q0.bts (by unfold cut; rw [List.length_take, List.length_drop]; omega) (by omega) (fun x hx => hsm x (List.mem_of_mem_drop (List.mem_of_mem_take hx)))))
    rw [HS.out (by omega)] at hcv
    have y3 := q2.cell z3 (show ¬ (w.heap.size = c) by omega)
    have y6 := q2.cell z6 (show ¬ (w.heap.size = c) by omega)
    have H1 := hide (q1.below (Below.refl _ _).drew)
    have H2 := hide (frm_alloc_pre q2).drew
    have HC := hide (code_none w1.drew)
    clear q1 q2
    go_wp2_with fail
    refine wp_onlyN ?_
    refine one_end _ rfl rfl HC ?hf y3 y6
    case hf =>
    unfold Hid
    intro y115 y116 y117 y118 y119 y120 y121 y122 y123 y124 y125 y126
    go_wp2
    go_ret2
    exact ⟨_, _, _, rfl, H1.out, H2.out, .inl ⟨by omega, rfl, by simp, rfl⟩⟩

set_option maxRecDepth 100000 in
set_option maxHeartbeats 4000000 in
theorem one_flag {E : Nat → Addr} (c g len p : Nat) (L X R : List Nat) (sec : Bool) (cur : Int) (N lo hi : Int) (S : ByteArray) (w : World) (h : Cur w c g len p len L) (w0 : World) (he0 : Errs w0 E) (hb0 : Below w0.heap.size w0 w) (hc0 : w0.heap.size ≤ c) (v : Nat) (hv : v < 2) (hbit : bits .and .i64 N 1 = (v : Int)) (hx : L.drop p ++ X = be v 1 ++ R) :
    Calls Tryd.prog 61 #[.pointer (some ⟨c, 0, none⟩), .agg #[.int .i64 4, .bool sec, .int .i64 cur, .int .i64 N, .int .i64 lo, .int .i64 hi, .string S]] w fun e w' => One w c g len p L 1 e w' := by
  have HEW : Hid (∀ W, Frm (fun j => j = c) w W → Errs W E) := fun W hf => he0.below (hb0.trans (hf.below hb0.size (fun j e => by omega)))
  have he := HEW.out w (Frm.refl _ _)
  have hle := h.le
  have hmo := h.bts.most
  have hsz := h.bts.size
  have HN : Hid (1 ≤ len - p → nbe (cut L p 1) = v) := fun h1 => by
    have := cut_pre0 hx (by rw [be_len]; omega)
    rw [be_len] at this
    rw [this]; exact nbe_be _ _ (by decide) (by omega)
  have HA : Hid (Below w.heap.size w (w.alloc (.cells #[.int .i64 4, .bool sec, .int .i64 cur, .int .i64 N, .int .i64 lo, .int .i64 hi, .string S] 30))) := (Below.refl _ _).alloc (Nat.le_refl _) _
  have H := hide (h.below HA.out)
  have HE := hide (he.below HA.out)
  have z3 : (w.alloc (.cells #[.int .i64 4, .bool sec, .int .i64 cur, .int .i64 N, .int .i64 lo, .int .i64 hi, .string S] 30)).cell? ⟨w.heap.size, 3, none⟩ = some (.int .i64 N) := (World.cell?_alloc_at _ _ _ _ rfl).trans rfl
  have z6 : (w.alloc (.cells #[.int .i64 4, .bool sec, .int .i64 cur, .int .i64 N, .int .i64 lo, .int .i64 hi, .string S] 30)).cell? ⟨w.heap.size, 6, none⟩ = some (.string S) := (World.cell?_alloc_at _ _ _ _ rfl).trans rfl
  have hcl := h.lt
  clear h he hx he0 hb0
  go_enter Tryd.func61, Tryd.ntmps61
  go_wp2_with fail
  by_cases h2 : len - p < 1
  · refine Calls.mono (flag_of (E := E) (p := p) (g := g) (len := len) (bd := len) (L := L) (v := 0) (k := 1) (q := p) (p' := p) _ (Calls.mono (ranged_short c g len p len L 1 0 1 (E 1) _ H.out HE.out.v1 (by decide) h2) (fun e w' hh => by
      obtain ⟨ev, h1, ha, hb⟩ := hh
      exact pans_at h1 ha (by decide) (by decide) H.out hb))) ?_
    rintro e w1 ⟨ev, rfl, ha, q1, q2⟩
    have y3 := q2.cell z3 (show ¬ (w.heap.size = c) by omega)
    have H1 := hide (q1.below (Below.refl _ _).drew)
    have H2 := hide (frm_alloc_pre q2).drew
    have HEE := hide (HEW.out _ H2.out)
    have HC := hide (code_any (w := w1.drew) HEE.out ev 1 p (ha.below (Below.refl _ _).drew))
    clear ha q1 q2
    rcases (show v = 0 ∨ v = 1 by omega) with rfl | rfl
    · go_wp2_with fail
      go_region_held3 (fun wz => wz.cell? ⟨w.heap.size, 3, none⟩ = some (.int .i64 N)) (exact y3) (first | (go_at_call 18; refine HC.out.mono ?_; rintro e w2 ⟨rfl, rfl⟩))
      go_wp2
      go_ret2
      exact ⟨_, _, _, rfl, H1.out, H2.out, .inr ⟨by omega, .inl rfl⟩⟩
    · go_wp2_with fail
      go_region_held3 (fun wz => wz.cell? ⟨w.heap.size, 3, none⟩ = some (.int .i64 N)) (exact y3) (first | (go_at_call 18; refine HC.out.mono ?_; rintro e w2 ⟨rfl, rfl⟩))
      go_wp2
      go_ret2
      exact ⟨_, _, _, rfl, H1.out, H2.out, .inr ⟨by omega, .inl rfl⟩⟩
  · refine Calls.mono (flag_of (E := E) (p := p) (g := g) (len := len) (bd := len) (L := L) (v := (v : Int)) (k := 0) (q := -1) (p' := p + 1) _ (Calls.mono (ranged_ok c g len p len L 1 0 1 _ H.out (by decide) (by omega) (by omega) (by rw [HN.out (by omega)]; omega)) (fun e w' hh => by
      obtain ⟨h1, q1, q2⟩ := hh
      rw [HN.out (by omega)] at h1
      exact pans_ok h1 q1 q2))) ?_
    rintro e w1 ⟨ev, rfl, ha, q1, q2⟩
    obtain rfl : ev = .nilIface := by
      rcases ha with ⟨h, _⟩ | ⟨h, _⟩ | ⟨h, _⟩
      · exact h
      · omega
      · omega
    have y3 := q2.cell z3 (show ¬ (w.heap.size = c) by omega)
    have H1 := hide (q1.below (Below.refl _ _).drew)
    have H2 := hide (frm_alloc_pre q2).drew
    have HC := hide (code_none w1.drew)
    clear ha q1 q2
    rcases (show v = 0 ∨ v = 1 by omega) with rfl | rfl
    · go_wp2_with fail
      go_region_held3 (fun wz => wz.cell? ⟨w.heap.size, 3, none⟩ = some (.int .i64 N)) (exact y3) (first | (go_at_call 18; refine HC.out.mono ?_; rintro e w2 ⟨rfl, rfl⟩))
      go_wp2
      go_ret2
      exact ⟨_, _, _, rfl, H1.out, H2.out, .inl ⟨by omega, rfl, by simp, rfl⟩⟩
    · go_wp2_with fail
      go_region_held3 (fun wz => wz.cell? ⟨w.heap.size, 3, none⟩ = some (.int .i64 N)) (exact y3) (first | (go_at_call 18; refine HC.out.mono ?_; rintro e w2 ⟨rfl, rfl⟩))
      go_wp2
      go_ret2
      exact ⟨_, _, _, rfl, H1.out, H2.out, .inl ⟨by omega, rfl, by simp, rfl⟩⟩
end Go.Proofs.YtkkogkdalcigkaaDoor
namespace Go.Proofs.YtkkogkdalcigkaaDoor
open Go.RowKit FerryCrc
set_option linter.unusedVariables false
set_option linter.unusedSimpArgs false

theorem at_shape {w : World} {base : Nat} {v : Value} {a : Addr} {p : Int} (h : AtErr w base v a p) : ∃ b, v = .iface 105 (.pointer (some ⟨b, 0, none⟩)) := by
  obtain ⟨b, _, rfl, _⟩ := h
  exact ⟨b, rfl⟩

set_option maxRecDepth 100000 in
set_option maxHeartbeats 4000000 in
theorem one_record {E : Nat → Addr} (c g len p : Nat) (L X R : List Nat) (sec : Bool) (cur : Int) (N : Nat) (lo hi : Int) (S : ByteArray) (w : World) (h : Cur w c g len p len L) (w0 : World) (he0 : Errs w0 E) (hb0 : Below w0.heap.size w0 w) (hc0 : w0.heap.size ≤ c) (hN : 1 ≤ N) (hS : S.size ≤ 65535) (hx : L.drop p ++ X = encR N (bytesOf S) ++ R) :
    Calls Tryd.prog 61 #[.pointer (some ⟨c, 0, none⟩), .agg #[.int .i64 7, .bool sec, .int .i64 cur, .int .i64 (N : Int), .int .i64 lo, .int .i64 hi, .string S]] w fun e w' => One w c g len p L (S.size + 3) e w' := by
  have HEW : Hid (∀ W, Frm (fun j => j = c) w W → Errs W E) := fun W hf => he0.below (hb0.trans (hf.below hb0.size (fun j e => by omega)))
  have he := HEW.out w (Frm.refl _ _)
  have hle := h.le
  have hmo := h.bts.most
  have hsz := h.bts.size
  have hsm := h.bts.small
  have hx1 : L.drop p ++ X = [N] ++ (be S.size 2 ++ (bytesOf S ++ R)) := by rw [hx]; unfold encR; simp [bytesOf_len]
  have hx2 : L.drop p ++ X = ([N] ++ be S.size 2) ++ (bytesOf S ++ R) := by rw [hx1]; simp
  have HT : Hid (1 ≤ len - p → L[p]? = some N) := fun h1 => by
    have := congrArg (fun l => l[0]?) hx1
    simp only [List.singleton_append, List.getElem?_cons_zero] at this
    rw [List.getElem?_append_left (by rw [List.length_drop]; omega), List.getElem?_drop, Nat.add_zero] at this
    exact this
  have HN : Hid (3 ≤ len - p → nbe (cut L (p + 1) 2) = S.size) := fun h1 => by
    have := cut_pre hx1 (by rw [be_len]; simp; omega)
    rw [be_len] at this
    simp only [List.length_singleton] at this
    rw [this]; exact be_two _ hS
  have HS : Hid (S.size + 3 ≤ len - p → str (cut L (p + 3) S.size) = S) := fun h1 => by
    have := cut_pre hx2 (by simp [be_len, bytesOf_len]; omega)
    simp only [List.length_append, List.length_singleton, be_len, bytesOf_len] at this
    rw [this]; exact str_bytesOf S
  have HA : Hid (Below w.heap.size w (w.alloc (.cells #[.int .i64 7, .bool sec, .int .i64 cur, .int .i64 (N : Int), .int .i64 lo, .int .i64 hi, .string S] 30))) := (Below.refl _ _).alloc (Nat.le_refl _) _
  have H := hide (h.below HA.out)
  have HE := hide (he.below HA.out)
  have z3 : (w.alloc (.cells #[.int .i64 7, .bool sec, .int .i64 cur, .int .i64 (N : Int), .int .i64 lo, .int .i64 hi, .string S] 30)).cell? ⟨w.heap.size, 3, none⟩ = some (.int .i64 (N : Int)) := (World.cell?_alloc_at _ _ _ _ rfl).trans rfl
  have z6 : (w.alloc (.cells #[.int .i64 7, .bool sec, .int .i64 cur, .int .i64 (N : Int), .int .i64 lo, .int .i64 hi, .string S] 30)).cell? ⟨w.heap.size, 6, none⟩ = some (.string S) := (World.cell?_alloc_at _ _ _ _ rfl).trans rfl
  have hcl := h.lt
  clear h he hx hx1 hx2 he0 hb0
  obtain ⟨n, hn⟩ : ∃ n, S.size = n := ⟨_, rfl⟩
  rw [hn] at HS HN hS ⊢
  go_enter Tryd.func61, Tryd.ntmps61
  go_wp2_with fail
  by_cases h2 : len - p < 3
  · refine Calls.mono (crec_tag (E := E) c g len p len 1 p L (N : Int) _ (tag_short c g len p len L (E 1) _ H.out HE.out.v1 h2)) ?_
    rintro e w1 ⟨ev, rfl, ha, hb⟩
    have HC := hide (code_any (w := w1.drew) (HE.out.below (hb.drew)) ev 1 p ((at_isErr ha (by decide) (by decide)).below (Below.refl _ _).drew))
    have HC1 := hide (code_any (w := w1) (HE.out.below hb) ev 1 p (at_isErr ha (by decide) (by decide)))
    have H1 := hide (H.out.below hb)
    have H2 := hide (Frm.ofBelow (S := fun j => j = c) (below_alloc_pre hb))
    obtain ⟨b', rfl⟩ := at_shape ha
    clear ha hb
    go_wp2_with (first | (go_at_call 18; first | (refine HC.out.mono ?_; rintro e w2 ⟨rfl, rfl⟩) | (refine HC1.out.mono ?_; rintro e w2 ⟨rfl, rfl⟩)))
    go_ret2
    exact ⟨_, _, _, rfl, (by first | exact H1.out | exact H1.out.below (Below.refl _ _).drew), (by first | exact H2.out | exact H2.out.drew), .inr ⟨by omega, .inl rfl⟩⟩
  by_cases h3 : len - (p + 3) < n
  · refine Calls.mono (crec_len (E := E) c g len p len N L _ H.out HE.out (by omega) (HT.out (by omega)) (by omega) (by rw [HN.out (by omega)]; exact h3)) ?_
    rintro e w1 ⟨ev, rfl, ha, hb⟩
    have HC := hide (code_any (w := w1.drew) (HE.out.below (hb.drew)) ev 5 (p + 1 : Nat) ((at_isErr ha (by decide) (by decide)).below (Below.refl _ _).drew))
    have HC1 := hide (code_any (w := w1) (HE.out.below hb) ev 5 (p + 1 : Nat) (at_isErr ha (by decide) (by decide)))
    have H1 := hide (H.out.below hb)
    have H2 := hide (Frm.ofBelow (S := fun j => j = c) (below_alloc_pre hb))
    obtain ⟨b', rfl⟩ := at_shape ha
    clear ha hb
    go_wp2_with (first | (go_at_call 18; first | (refine HC.out.mono ?_; rintro e w2 ⟨rfl, rfl⟩) | (refine HC1.out.mono ?_; rintro e w2 ⟨rfl, rfl⟩)))
    go_ret2
    exact ⟨_, _, _, rfl, (by first | exact H1.out | exact H1.out.below (Below.refl _ _).drew), (by first | exact H2.out | exact H2.out.drew), .inr ⟨by omega, .inr rfl⟩⟩
  · refine Calls.mono (crec_ok c g len p len N n L _ H.out ⟨by omega, HT.out (by omega), by omega, HN.out (by omega), by omega⟩) ?_
    rintro e w1 ⟨k, hk, rfl, q1, q2, q3⟩
    have hk' : w.heap.size < k := by simp at hk; omega
    have HQ1 := hide q1
    have HQ2 := hide q2
    have HF := hide (frm_alloc_pre q3)
    have y3 := q3.cell z3 (show ¬ (w.heap.size = c) by omega)
    have y6 := q3.cell z6 (show ¬ (w.heap.size = c) by omega)
    clear q1 q2 q3
    go_wp2_with fail
    refine Calls.mono (left_any k g len (p + 3) (p + 3 + n) L _ HQ2.out) ?_
    rintro e w2 ⟨rfl, hb2⟩
    rw [show p + 3 + n - (p + 3) = n by omega]
    have HQ1b := hide (HQ1.out.below hb2)
    have HQ2b := hide (HQ2.out.below hb2)
    have HF2 := hide (HF.out.trans (Frm.ofBelow (S := fun j => j = c) hb2) (fun j _ t => t))
    have x3 := cell_below y3 hb2
    have x6 := cell_below y6 hb2
    clear hb2 HQ1 HQ2 HF
    go_wp2_with fail
    refine Calls.mono (raw_ok k g len (p + 3) (p + 3 + n) L n _ HQ2b.out (by omega)) ?_
    rintro e w3 ⟨b, hbb, rfl, q0, q1, q2⟩
    have hcv := bts_string (w := w3) (a := some ⟨b, 0, none⟩) (n := n) (c := n) (l := cut L (p + 3) n) (q0.bts (by unfold cut; rw [List.length_take, List.length_drop]; omega) (by omega) (fun x hx => hsm x (List.mem_of_mem_drop (List.mem_of_mem_take hx))))
    rw [HS.out (by omega)] at hcv
    have v3 := q2.cell x3 (show ¬ (w.heap.size = k) by omega)
    have v6 := q2.cell x6 (show ¬ (w.heap.size = k) by omega)
    have hkc : k ≠ c := by omega
    have HQ1c := hide (HQ1b.out.frm q2 (fun e => hkc e.symm) (fun e => HQ2b.out.ne e))
    have HQ2c := hide q1
    have HF3 := hide (HF2.out.trans q2 (fun j hj e => by omega))
    clear q0 q1 q2 y3 y6 x3 x6 HQ1b HQ2b HF2
    go_wp2_with fail
    refine Calls.mono (end_ok k g len (p + 3 + n) (p + 3 + n) L _ HQ2c.out (by omega)) ?_
    rintro e w4 ⟨rfl, hb4⟩
    have HQ1d := hide (HQ1c.out.below hb4)
    have HQ2d := hide (HQ2c.out.below hb4)
    have HF4 := hide (HF3.out.trans (Frm.ofBelow (S := fun j => j = c) hb4) (fun j _ t => t))
    have u3 := cell_below v3 hb4
    have u6 := cell_below v6 hb4
    clear hb4 HQ1c HQ2c HF3 v3 v6
    go_wp2_with fail
    refine Calls.mono (at_any k g len (p + 3 + n) (p + 3 + n) L _ HQ2d.out) ?_
    rintro e w5 ⟨rfl, rfl⟩
    go_wp2_with fail
    refine Calls.mono (at_any c g len (p + 3 + n) len L _ HQ1d.out) ?_
    rintro e w5 ⟨rfl, rfl⟩
    have HC := hide (code_none w4.drew)
    go_wp2_with fail
    refine wp_onlyN ?_
    refine one_end _ rfl rfl HC ?hf u3 u6
    case hf =>
    unfold Hid
    intro y115 y116 y117 y118 y119 y120 y121 y122 y123 y124 y125 y126
    go_wp2
    go_ret2
    exact ⟨_, _, _, rfl, HQ1d.out.below (Below.refl _ _).drew, HF4.out.drew, .inl ⟨by omega, rfl, by simp, by omega⟩⟩
end Go.Proofs.YtkkogkdalcigkaaDoor
