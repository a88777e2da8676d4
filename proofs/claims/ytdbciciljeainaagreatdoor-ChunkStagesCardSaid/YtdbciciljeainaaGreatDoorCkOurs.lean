/-
  The law's ours and theirs: a stage for the program, as new memory; for the document.
-/
import Derived.Test.YtdbciciljeainaaGreatDoorXfAdd
import Derived.Deep.RegionHeld3
namespace Go.Proofs.YtdbciciljeainaaGreatDoor
open Go.RowKit FerryCrc
set_option linter.unusedVariables false
set_option linter.unusedSimpArgs false

set_option maxRecDepth 100000 in
set_option maxHeartbeats 4000000 in
theorem theirs_any (pt st tt b r m : Int) (a : Option Addr) (n c : Nat) (w : World) : Calls Tryz.prog 12 #[.agg #[.int .i64 pt, .int .i64 st, .int .i64 tt, .int .i64 b, .int .i64 r, .int .i64 m, .slice a n c]] w fun e w' => e = .returned (.agg #[.int .i64 pt, .int .i64 st, .int .i64 tt, .int .i64 b, .int .i64 r, .int .i64 m, .slice a n c]) ∧ Below w.heap.size w w' := by
  obtain ⟨W, hW, B0, B1, D0⟩ := box2 w [.int .i64 pt, .int .i64 st, .int .i64 tt, .int .i64 b, .int .i64 r, .int .i64 m, .slice a n c] 34 [.int .i64 0, .int .i64 0, .int .i64 0, .int .i64 0, .int .i64 0, .int .i64 0, .slice none 0 0] 26
  obtain ⟨q, hq⟩ : ∃ q, w.heap.size + 1 = q := ⟨_, rfl⟩
  have HQ0 : Hid (w.heap.size < q) := by unfold Hid; omega
  rw [hq] at B1
  have HB0 := hide B0
  have HB1 := hide B1
  have HWD := hide hW
  have HQQ := hide hq
  have HD := hide D0
  clear B0 B1 D0 hW hq
  go_enter Tryz.func12, Tryz.ntmps12
  go_upto_region 1 with fail
  have hW := HWD.out
  have hq := HQQ.out
  clear HWD HQQ
  simp only [hW, hq]
  clear hW hq
  have c0 := HB0.out.cell 0 rfl
  have c1 := HB0.out.cell 1 rfl
  have c2 := HB0.out.cell 2 rfl
  have c3 := HB0.out.cell 3 rfl
  have c4 := HB0.out.cell 4 rfl
  have c5 := HB0.out.cell 5 rfl
  have c6 := HB0.out.cell 6 rfl
  have g0 := HB1.out.cell 0 rfl
  have g1 := HB1.out.cell 1 rfl
  have g2 := HB1.out.cell 2 rfl
  have g3 := HB1.out.cell 3 rfl
  have g4 := HB1.out.cell 4 rfl
  have g5 := HB1.out.cell 5 rfl
  have g6 := HB1.out.cell 6 rfl
  have f0 := HB1.out.frozen 0
  have f1 := HB1.out.frozen 1
  have f2 := HB1.out.frozen 2
  have f3 := HB1.out.frozen 3
  have f4 := HB1.out.frozen 4
  have f5 := HB1.out.frozen 5
  have f6 := HB1.out.frozen 6
  have Q1 := hide (HB1.out.sets [.int .i64 pt, .int .i64 st, .int .i64 tt, .int .i64 b, .int .i64 r, .int .i64 m, .slice a n c] rfl)
  have Q3 := hide (below_sets (Nat.le_of_lt HQ0.out) [.int .i64 pt, .int .i64 st, .int .i64 tt, .int .i64 b, .int .i64 r, .int .i64 m, .slice a n c] 0 HD.out)
  go_wp2
  obtain ⟨W9, hW9⟩ : ∃ W9, (((((((W.setCell ⟨q, 0, none⟩ (.int .i64 pt)).setCell ⟨q, 1, none⟩ (.int .i64 st)).setCell ⟨q, 2, none⟩ (.int .i64 tt)).setCell ⟨q, 3, none⟩ (.int .i64 b)).setCell ⟨q, 4, none⟩ (.int .i64 r)).setCell ⟨q, 5, none⟩ (.int .i64 m)).setCell ⟨q, 6, none⟩ (.slice a n c)) = W9 := ⟨_, rfl⟩
  simp only [hW9]
  rw [show World.setCells W q 0 [.int .i64 pt, .int .i64 st, .int .i64 tt, .int .i64 b, .int .i64 r, .int .i64 m, .slice a n c] = W9 from hW9] at Q1 Q3
  clear hW9
  have e0 := Q1.out.cell 0 rfl
  have e1 := Q1.out.cell 1 rfl
  have e2 := Q1.out.cell 2 rfl
  have e3 := Q1.out.cell 3 rfl
  have e4 := Q1.out.cell 4 rfl
  have e5 := Q1.out.cell 5 rfl
  have e6 := Q1.out.cell 6 rfl
  refine bodyPost_ret (v := .agg #[.int .i64 pt, .int .i64 st, .int .i64 tt, .int .i64 b, .int .i64 r, .int .i64 m, .slice a n c]) (by simp [results, Tryz.results12, go_sem, e0, e1, e2, e3, e4, e5, e6]) rfl ?_
  exact ⟨rfl, Q3.out⟩
theorem step_tx {w : World} {o : Oper} {act : Act} {K : Act → World → Prop} {Q : Exit → Act → World → Prop} (hgd : o.guard = none) (s x : Operand) (t e : TypeId)
    (ho : o.op = .call { callee := .builtin .append, args := #[s, x], argTypes := #[t, t] }) (ht : Tryz.prog.underlying t = some (.slice e))
    {size bytes : Nat} {zc : Array Value} (hinfo : (Tryz.prog.info? e).map (fun i => (i.size, i.bytes, i.zero.map (·.cells))) = some (size, bytes, some zc)) (hzc : zc.size = size) (h0 : 0 < size)
    (base : Nat) (v : Value) (n : Nat) (xs : List Value) (hs : act.eval s = v) (hv : w.ownsRow base e size v n xs)
    (a : Option Addr) (m c : Nat) (cs : List Value) (hx : act.eval x = .slice a m c) (hr : Row w a m c size cs) (one : ∀ u ∈ cs, u.oneCell' = true)
    (b1 : n + m ≤ maxLen) (b2 : (n + m) * bytes ≤ 140737488355328) (hbase : base ≤ w.heap.size)
    (h : ∀ v' w', w'.ownsRow base e size v' (n + m) (xs ++ cs) → Below base w w' → K (act.put o.dst v') w') : Oper.wp Tryz.prog o act w K Q := by
  obtain ⟨i, z, h2, h3, h4, h5, h6⟩ := info_open hinfo
  obtain ⟨v', w', hrun, k1, k2⟩ : ∃ v' w', (Builtin.append_ #[t, t] o.type #[v, .slice a m c]).run Tryz.prog w = .ok v' w' ∧ w'.ownsRow base e size v' (n + m) (xs ++ cs) ∧ Below base w w' := by
    by_cases hm : m = 0
    · subst hm
      obtain rfl : cs = [] := List.length_eq_zero_iff.1 (by simpa using hr.size)
      obtain ⟨b, cap, rfl, hb⟩ := RLk.row (.inl hv)
      exact ⟨_, w, run_append_empty (P := Tryz.prog) w t o.type e i ht h2 b a n cap c hb.fit, by simpa using hv, Below.refl _ _⟩
    · match a, hr with
      | none, hr => exact absurd (hr.null rfl).1 hm
      | some ad, hr =>
        have hcell : ∀ j u, cs[j]? = some u → w.cell? (ad.add j) = some u := fun j u hu => by
          obtain ⟨b, off, ha, hc⟩ := hr.cell j u hu
          simp only [Option.some.injEq] at ha
          subst ha
          rw [add_lit']
          exact hc
        obtain ⟨v', w', hrun, k1, k2, _⟩ := run_append_own (P := Tryz.prog) w base t o.type e i z size bytes ht h2 h3 h4 h5 (by rw [h6]; exact hzc) h0 v n xs hv ad m c cs hr.size hcell one b1 b2 hbase
        exact ⟨v', w', hrun, k1, (Below.refl _ _).grown k2 hbase (fun j e => (World.ownsRow.lt hv j e).1)⟩
  unfold Oper.wp execOp
  simp only [ho, resolve, invoke, builtin, Sem.run_bind, Sem.run_pure, Result.andThen_ok, List.map_toArray, List.map_cons, List.map_nil, hs, hx, hrun]
  exact h v' w' k1 k2
set_option maxRecDepth 100000 in
set_option maxHeartbeats 4000000 in
theorem ours_any (pt st tt b r m : Int) (a : Option Addr) (n c : Nat) (P : List ByteArray) {w : World} (hP : Txs w a n c P) (hn : n * 16 ≤ 140737488355328) : Calls Tryz.prog 8 #[.agg #[.int .i64 pt, .int .i64 st, .int .i64 tt, .int .i64 b, .int .i64 r, .int .i64 m, .slice a n c]] w fun e w' => ∃ va vc, e = .returned (.agg #[.int .i64 pt, .int .i64 st, .int .i64 tt, .int .i64 b, .int .i64 r, .int .i64 m, .slice va n vc]) ∧ TxOwn w' w.heap.size (.slice va n vc) P ∧ Below w.heap.size w w' := by
  have hPs := hP.size
  obtain ⟨W, hW, B0, B1, D0⟩ := box2 w [.int .i64 pt, .int .i64 st, .int .i64 tt, .int .i64 b, .int .i64 r, .int .i64 m, .slice a n c] 26 [.int .i64 0, .int .i64 0, .int .i64 0, .int .i64 0, .int .i64 0, .int .i64 0, .slice none 0 0] 34
  obtain ⟨q, hq⟩ : ∃ q, w.heap.size + 1 = q := ⟨_, rfl⟩
  have HQ0 : Hid (w.heap.size < q) := by unfold Hid; omega
  rw [hq] at B1
  have HB0 := hide B0
  have HB1 := hide B1
  have HWD := hide hW
  have HQQ := hide hq
  have HD := hide D0
  have HP := hide (hP.below D0)
  have HN : Hid (n * 16 ≤ 140737488355328) := hn
  clear B0 B1 D0 hW hq hP hn
  go_enter Tryz.func8, Tryz.ntmps8
  go_upto_region 1 with fail
  have hW := HWD.out
  have hq := HQQ.out
  clear HWD HQQ
  simp only [hW, hq]
  clear hW hq
  have HSB : Hid (∀ wz, Below W.heap.size W wz → wz.cell? ⟨w.heap.size, 0, none⟩ = some (.int .i64 pt) ∧ wz.cell? ⟨w.heap.size, 1, none⟩ = some (.int .i64 st) ∧ wz.cell? ⟨w.heap.size, 2, none⟩ = some (.int .i64 tt) ∧ wz.cell? ⟨w.heap.size, 3, none⟩ = some (.int .i64 b) ∧ wz.cell? ⟨w.heap.size, 4, none⟩ = some (.int .i64 r) ∧ wz.cell? ⟨w.heap.size, 5, none⟩ = some (.int .i64 m) ∧ wz.cell? ⟨w.heap.size, 6, none⟩ = some (.slice a n c)) := fun wz hb => ⟨(HB0.out.below hb).cell 0 rfl, (HB0.out.below hb).cell 1 rfl, (HB0.out.below hb).cell 2 rfl, (HB0.out.below hb).cell 3 rfl, (HB0.out.below hb).cell 4 rfl, (HB0.out.below hb).cell 5 rfl, (HB0.out.below hb).cell 6 rfl⟩
  have HWL : Hid (w.heap.size < W.heap.size ∧ q < W.heap.size) := ⟨HB0.out.lt, HB1.out.lt⟩
  refine wp_region_held_drew (S := fun wz => wz.cell? ⟨w.heap.size, 0, none⟩ = some (.int .i64 pt) ∧ wz.cell? ⟨w.heap.size, 1, none⟩ = some (.int .i64 st) ∧ wz.cell? ⟨w.heap.size, 2, none⟩ = some (.int .i64 tt) ∧ wz.cell? ⟨w.heap.size, 3, none⟩ = some (.int .i64 b) ∧ wz.cell? ⟨w.heap.size, 4, none⟩ = some (.int .i64 r) ∧ wz.cell? ⟨w.heap.size, 5, none⟩ = some (.int .i64 m) ∧ wz.cell? ⟨w.heap.size, 6, none⟩ = some (.slice a n c)) (by kernel_rfl) (HSB.out _ (Below.refl _ _).drew) (fun hHeld => ?_)
  refine wpAnyH_take (i := 0) (oi := { dst := some 3, op := Go.Op.fieldAddr 26 (Go.Operand.tmp 1) 0, type := 0, pos := "law.go:20", after := #[], guard := none }) (v := ?_) rfl (by kernel_rfl) (by kernel_rfl) (by kernel_rfl) (fun _ _ _ h => h) (Or.inl ⟨by rfl, ?_⟩) (by assumption) ?_
  rotate_left
  · intro wq hSw
    obtain ⟨q0, q1, q2, q3, q4, q5, q6⟩ := hSw
    go_simp
    try with_reducible rfl
  simp only [Act.put, List.setIfInBounds_toArray, List.set_cons_zero, List.set_cons_succ]
  refine wpAnyH_take (i := 1) (oi := { dst := some 4, op := Go.Op.load 3 (Go.Operand.tmp 3), type := 3, pos := "law.go:20", after := #[{ on := 0, ground := Go.Ground.data }], guard := none }) (v := ?_) rfl (by kernel_rfl) (by kernel_rfl) (by kernel_rfl) (fun _ _ _ h => h) (Or.inl ⟨by rfl, ?_⟩) (by assumption) ?_
  rotate_left
  · intro wq hSw
    obtain ⟨q0, q1, q2, q3, q4, q5, q6⟩ := hSw
    go_simp
    try with_reducible rfl
  simp only [Act.put, List.setIfInBounds_toArray, List.set_cons_zero, List.set_cons_succ]
  refine wpAnyH_take (i := 2) (oi := { dst := some 5, op := Go.Op.fieldAddr 26 (Go.Operand.tmp 1) 1, type := 0, pos := "law.go:20", after := #[], guard := none }) (v := ?_) rfl (by kernel_rfl) (by kernel_rfl) (by kernel_rfl) (fun _ _ _ h => h) (Or.inl ⟨by rfl, ?_⟩) (by assumption) ?_
  rotate_left
  · intro wq hSw
    obtain ⟨q0, q1, q2, q3, q4, q5, q6⟩ := hSw
    go_simp
    try with_reducible rfl
  simp only [Act.put, List.setIfInBounds_toArray, List.set_cons_zero, List.set_cons_succ]
  refine wpAnyH_take (i := 3) (oi := { dst := some 6, op := Go.Op.load 3 (Go.Operand.tmp 5), type := 3, pos := "law.go:20", after := #[{ on := 2, ground := Go.Ground.data }], guard := none }) (v := ?_) rfl (by kernel_rfl) (by kernel_rfl) (by kernel_rfl) (fun _ _ _ h => h) (Or.inl ⟨by rfl, ?_⟩) (by assumption) ?_
  rotate_left
  · intro wq hSw
    obtain ⟨q0, q1, q2, q3, q4, q5, q6⟩ := hSw
    go_simp
    try with_reducible rfl
  simp only [Act.put, List.setIfInBounds_toArray, List.set_cons_zero, List.set_cons_succ]
  refine wpAnyH_take (i := 4) (oi := { dst := some 7, op := Go.Op.fieldAddr 26 (Go.Operand.tmp 1) 2, type := 0, pos := "law.go:20", after := #[], guard := none }) (v := ?_) rfl (by kernel_rfl) (by kernel_rfl) (by kernel_rfl) (fun _ _ _ h => h) (Or.inl ⟨by rfl, ?_⟩) (by assumption) ?_
  rotate_left
  · intro wq hSw
    obtain ⟨q0, q1, q2, q3, q4, q5, q6⟩ := hSw
    go_simp
    try with_reducible rfl
  simp only [Act.put, List.setIfInBounds_toArray, List.set_cons_zero, List.set_cons_succ]
  refine wpAnyH_take (i := 5) (oi := { dst := some 8, op := Go.Op.load 3 (Go.Operand.tmp 7), type := 3, pos := "law.go:20", after := #[{ on := 4, ground := Go.Ground.data }], guard := none }) (v := ?_) rfl (by kernel_rfl) (by kernel_rfl) (by kernel_rfl) (fun _ _ _ h => h) (Or.inl ⟨by rfl, ?_⟩) (by assumption) ?_
  rotate_left
  · intro wq hSw
    obtain ⟨q0, q1, q2, q3, q4, q5, q6⟩ := hSw
    go_simp
    try with_reducible rfl
  simp only [Act.put, List.setIfInBounds_toArray, List.set_cons_zero, List.set_cons_succ]
  refine wpAnyH_take (i := 6) (oi := { dst := some 9, op := Go.Op.fieldAddr 26 (Go.Operand.tmp 1) 3, type := 0, pos := "law.go:20", after := #[], guard := none }) (v := ?_) rfl (by kernel_rfl) (by kernel_rfl) (by kernel_rfl) (fun _ _ _ h => h) (Or.inl ⟨by rfl, ?_⟩) (by assumption) ?_
  rotate_left
  · intro wq hSw
    obtain ⟨q0, q1, q2, q3, q4, q5, q6⟩ := hSw
    go_simp
    try with_reducible rfl
  simp only [Act.put, List.setIfInBounds_toArray, List.set_cons_zero, List.set_cons_succ]
  refine wpAnyH_take (i := 7) (oi := { dst := some 10, op := Go.Op.load 23 (Go.Operand.tmp 9), type := 23, pos := "law.go:20", after := #[{ on := 6, ground := Go.Ground.data }], guard := none }) (v := ?_) rfl (by kernel_rfl) (by kernel_rfl) (by kernel_rfl) (fun _ _ _ h => h) (Or.inl ⟨by rfl, ?_⟩) (by assumption) ?_
  rotate_left
  · intro wq hSw
    obtain ⟨q0, q1, q2, q3, q4, q5, q6⟩ := hSw
    go_simp
    try with_reducible rfl
  simp only [Act.put, List.setIfInBounds_toArray, List.set_cons_zero, List.set_cons_succ]
  refine wpAnyH_take (i := 9) (oi := { dst := some 12, op := Go.Op.fieldAddr 26 (Go.Operand.tmp 1) 4, type := 0, pos := "law.go:20", after := #[], guard := none }) (v := ?_) rfl (by kernel_rfl) (by kernel_rfl) (by kernel_rfl) (fun _ _ _ h => h) (Or.inl ⟨by rfl, ?_⟩) (by assumption) ?_
  rotate_left
  · intro wq hSw
    obtain ⟨q0, q1, q2, q3, q4, q5, q6⟩ := hSw
    go_simp
    try with_reducible rfl
  simp only [Act.put, List.setIfInBounds_toArray, List.set_cons_zero, List.set_cons_succ]
  refine wpAnyH_take (i := 10) (oi := { dst := some 13, op := Go.Op.load 24 (Go.Operand.tmp 12), type := 24, pos := "law.go:20", after := #[{ on := 9, ground := Go.Ground.data }], guard := none }) (v := ?_) rfl (by kernel_rfl) (by kernel_rfl) (by kernel_rfl) (fun _ _ _ h => h) (Or.inl ⟨by rfl, ?_⟩) (by assumption) ?_
  rotate_left
  · intro wq hSw
    obtain ⟨q0, q1, q2, q3, q4, q5, q6⟩ := hSw
    go_simp
    try with_reducible rfl
  simp only [Act.put, List.setIfInBounds_toArray, List.set_cons_zero, List.set_cons_succ]
  refine wpAnyH_ready (rs := [8]) (by kernel_rfl) (by simp) ?_
  refine AllReadyH.cons (o := { dst := some 11, op := Go.Op.buildSlice 24 0 #[], type := 24, pos := "law.go:20", after := #[], guard := none }) rfl (fun K hK => ?_) AllReadyH.nil
  go_simp
  have BE : Hid (Below W.heap.size W (W.alloc (.cells #[] 9)).drew) := ((Below.refl _ _).alloc (Nat.le_refl _) _).drew
  have OE : Hid ((W.alloc (.cells #[] 9)).drew.ownsRow W.heap.size 9 1 (.slice (some ⟨W.heap.size, 0, none⟩) 0 0) 0 []) := World.ownsRow_lit W #[] 0 (Nat.le_refl _) (by decide) rfl
  refine hK.out _ _ (HSB.out _ BE.out) (fun hHeld2 => ?_)
  clear hK K
  try simp only [Act.put, List.setIfInBounds_toArray, List.set_cons_zero, List.set_cons_succ]
  generalize (W.alloc (.cells #[] 9)).drew = WA at *
  refine wpAnyH_ready (rs := [11]) (by kernel_rfl) (by simp) ?_
  refine AllReadyH.cons (o := { dst := some 14, op := Go.Op.call { callee := Go.Callee.builtin Go.Builtin.append, args := #[Go.Operand.tmp 11, Go.Operand.tmp 13], argTypes := #[24, 24] }, type := 24, pos := "law.go:20", after := #[{ on := 8, ground := Go.Ground.data }, { on := 10, ground := Go.Ground.data }], guard := none }) rfl (fun K hK => ?_) AllReadyH.nil
  refine step_tx rfl (.tmp 11) (.tmp 13) 24 9 rfl Tryz.underlying24 infoTx rfl (by decide) W.heap.size _ 0 [] rfl OE.out a n c (P.flatMap tv) rfl (HP.out.row.below BE.out) (tv_one P) (by have := HN.out; unfold maxLen; omega) (by have := HN.out; omega) BE.out.size ?_
  intro v2 w2 h2 b2
  rw [List.nil_append, Nat.zero_add] at h2
  have HV : Hid (TxOwn w2 W.heap.size v2 P) := by unfold Hid TxOwn LOwn; rw [hPs]; exact h2
  have D2 := hide (BE.out.trans b2)
  clear h2 b2 OE BE
  obtain ⟨va, vc, hv, -⟩ := HV.out.rcs
  rw [hPs] at hv
  subst hv
  refine hK.out _ _ (HSB.out _ D2.out) (fun hHeld3 => ?_)
  clear hK K
  try simp only [Act.put, List.setIfInBounds_toArray, List.set_cons_zero, List.set_cons_succ]
  refine wpAnyH_take (i := 12) (oi := { dst := some 15, op := Go.Op.build 34 #[(0, Go.Operand.tmp 4), (1, Go.Operand.tmp 6), (2, Go.Operand.tmp 8), (3, Go.Operand.tmp 10), (4, Go.Operand.tmp 14)], type := 34, pos := "law.go:20", after := #[{ on := 1, ground := Go.Ground.data }, { on := 3, ground := Go.Ground.data }, { on := 5, ground := Go.Ground.data }, { on := 7, ground := Go.Ground.data }, { on := 11, ground := Go.Ground.data }], guard := none }) (v := ?_) rfl (by kernel_rfl) (by kernel_rfl) (by kernel_rfl) (fun _ _ _ h => h) (Or.inl ⟨by rfl, ?_⟩) (by assumption) ?_
  rotate_left
  · intro wq hSw
    obtain ⟨q0, q1, q2, q3, q4, q5, q6⟩ := hSw
    go_simp
    try with_reducible rfl
  simp only [Act.put, List.setIfInBounds_toArray, List.set_cons_zero, List.set_cons_succ]
  have M1 := hide (HB1.out.below D2.out)
  have g0 := M1.out.cell 0 rfl
  have g1 := M1.out.cell 1 rfl
  have g2 := M1.out.cell 2 rfl
  have g3 := M1.out.cell 3 rfl
  have g4 := M1.out.cell 4 rfl
  have g5 := M1.out.cell 5 rfl
  have g6 := M1.out.cell 6 rfl
  have f0 := M1.out.frozen 0
  have f1 := M1.out.frozen 1
  have f2 := M1.out.frozen 2
  have f3 := M1.out.frozen 3
  have f4 := M1.out.frozen 4
  have f5 := M1.out.frozen 5
  have f6 := M1.out.frozen 6
  have Q1 := hide (M1.out.sets [.int .i64 pt, .int .i64 st, .int .i64 tt, .int .i64 b, .int .i64 r, .int .i64 m, .slice va n vc] rfl)
  have Q2 := hide (LOwn.fars (HV.out.off HWL.out.2) [.int .i64 pt, .int .i64 st, .int .i64 tt, .int .i64 b, .int .i64 r, .int .i64 m, .slice va n vc] 0 HV.out)
  have Q3 := hide (below_sets (Nat.le_of_lt HQ0.out) [.int .i64 pt, .int .i64 st, .int .i64 tt, .int .i64 b, .int .i64 r, .int .i64 m, .slice va n vc] 0 (chain HD.out D2.out))
  have S9 : Hid ((((((((((w2.setCell ⟨q, 0, none⟩ (.int .i64 pt)).setCell ⟨q, 1, none⟩ (.int .i64 st)).setCell ⟨q, 2, none⟩ (.int .i64 tt)).setCell ⟨q, 3, none⟩ (.int .i64 b)).setCell ⟨q, 4, none⟩ (.int .i64 r)).setCell ⟨q, 5, none⟩ (.int .i64 m)).setCell ⟨q, 6, none⟩ (.slice va n vc))).cell? ⟨w.heap.size, 0, none⟩ = some (.int .i64 pt) ∧ ((((((((w2.setCell ⟨q, 0, none⟩ (.int .i64 pt)).setCell ⟨q, 1, none⟩ (.int .i64 st)).setCell ⟨q, 2, none⟩ (.int .i64 tt)).setCell ⟨q, 3, none⟩ (.int .i64 b)).setCell ⟨q, 4, none⟩ (.int .i64 r)).setCell ⟨q, 5, none⟩ (.int .i64 m)).setCell ⟨q, 6, none⟩ (.slice va n vc))).cell? ⟨w.heap.size, 1, none⟩ = some (.int .i64 st) ∧ ((((((((w2.setCell ⟨q, 0, none⟩ (.int .i64 pt)).setCell ⟨q, 1, none⟩ (.int .i64 st)).setCell ⟨q, 2, none⟩ (.int .i64 tt)).setCell ⟨q, 3, none⟩ (.int .i64 b)).setCell ⟨q, 4, none⟩ (.int .i64 r)).setCell ⟨q, 5, none⟩ (.int .i64 m)).setCell ⟨q, 6, none⟩ (.slice va n vc))).cell? ⟨w.heap.size, 2, none⟩ = some (.int .i64 tt) ∧ ((((((((w2.setCell ⟨q, 0, none⟩ (.int .i64 pt)).setCell ⟨q, 1, none⟩ (.int .i64 st)).setCell ⟨q, 2, none⟩ (.int .i64 tt)).setCell ⟨q, 3, none⟩ (.int .i64 b)).setCell ⟨q, 4, none⟩ (.int .i64 r)).setCell ⟨q, 5, none⟩ (.int .i64 m)).setCell ⟨q, 6, none⟩ (.slice va n vc))).cell? ⟨w.heap.size, 3, none⟩ = some (.int .i64 b) ∧ ((((((((w2.setCell ⟨q, 0, none⟩ (.int .i64 pt)).setCell ⟨q, 1, none⟩ (.int .i64 st)).setCell ⟨q, 2, none⟩ (.int .i64 tt)).setCell ⟨q, 3, none⟩ (.int .i64 b)).setCell ⟨q, 4, none⟩ (.int .i64 r)).setCell ⟨q, 5, none⟩ (.int .i64 m)).setCell ⟨q, 6, none⟩ (.slice va n vc))).cell? ⟨w.heap.size, 4, none⟩ = some (.int .i64 r) ∧ ((((((((w2.setCell ⟨q, 0, none⟩ (.int .i64 pt)).setCell ⟨q, 1, none⟩ (.int .i64 st)).setCell ⟨q, 2, none⟩ (.int .i64 tt)).setCell ⟨q, 3, none⟩ (.int .i64 b)).setCell ⟨q, 4, none⟩ (.int .i64 r)).setCell ⟨q, 5, none⟩ (.int .i64 m)).setCell ⟨q, 6, none⟩ (.slice va n vc))).cell? ⟨w.heap.size, 5, none⟩ = some (.int .i64 m) ∧ ((((((((w2.setCell ⟨q, 0, none⟩ (.int .i64 pt)).setCell ⟨q, 1, none⟩ (.int .i64 st)).setCell ⟨q, 2, none⟩ (.int .i64 tt)).setCell ⟨q, 3, none⟩ (.int .i64 b)).setCell ⟨q, 4, none⟩ (.int .i64 r)).setCell ⟨q, 5, none⟩ (.int .i64 m)).setCell ⟨q, 6, none⟩ (.slice va n vc))).cell? ⟨w.heap.size, 6, none⟩ = some (.slice a n c))) := by
    have M0 := Bk.others (Nat.ne_of_lt HQ0.out) [.int .i64 pt, .int .i64 st, .int .i64 tt, .int .i64 b, .int .i64 r, .int .i64 m, .slice va n vc] 0 (HB0.out.below D2.out)
    exact ⟨M0.cell 0 rfl, M0.cell 1 rfl, M0.cell 2 rfl, M0.cell 3 rfl, M0.cell 4 rfl, M0.cell 5 rfl, M0.cell 6 rfl⟩
  refine wpAnyH_ready (rs := [13]) (by kernel_rfl) (by simp) ?_
  refine AllReadyH.cons (o := { dst := none, op := Go.Op.store 34 (Go.Operand.tmp 2) (Go.Operand.tmp 15), type := 0, pos := "law.go:20", after := #[{ on := 12, ground := Go.Ground.data }, { on := 11, ground := Go.Ground.chain }, { on := 0, ground := Go.Ground.phase }, { on := 1, ground := Go.Ground.phase }, { on := 2, ground := Go.Ground.phase }, { on := 3, ground := Go.Ground.phase }, { on := 4, ground := Go.Ground.phase }, { on := 5, ground := Go.Ground.phase }, { on := 6, ground := Go.Ground.phase }, { on := 7, ground := Go.Ground.phase }, { on := 8, ground := Go.Ground.phase }, { on := 9, ground := Go.Ground.phase }, { on := 10, ground := Go.Ground.phase }, { on := 11, ground := Go.Ground.phase }, { on := 12, ground := Go.Ground.phase }], guard := none }) rfl (fun K hK => ?_) AllReadyH.nil
  go_simp
  refine hK.out _ _ S9.out (fun hHeld4 => ?_)
  clear hK K
  refine wpAnyH_done (by kernel_rfl) ?_ _
  clear hHeld hHeld2 hHeld3 hHeld4 S9 g0 f0 g1 f1 g2 f2 g3 f3 g4 f4 g5 f5 g6 f6
  go_wp2
  obtain ⟨W9, hW9⟩ : ∃ W9, (((((((w2.setCell ⟨q, 0, none⟩ (.int .i64 pt)).setCell ⟨q, 1, none⟩ (.int .i64 st)).setCell ⟨q, 2, none⟩ (.int .i64 tt)).setCell ⟨q, 3, none⟩ (.int .i64 b)).setCell ⟨q, 4, none⟩ (.int .i64 r)).setCell ⟨q, 5, none⟩ (.int .i64 m)).setCell ⟨q, 6, none⟩ (.slice va n vc)) = W9 := ⟨_, rfl⟩
  simp only [hW9]
  rw [show World.setCells w2 q 0 [.int .i64 pt, .int .i64 st, .int .i64 tt, .int .i64 b, .int .i64 r, .int .i64 m, .slice va n vc] = W9 from hW9] at Q1 Q2 Q3
  clear hW9
  have e0 := Q1.out.cell 0 rfl
  have e1 := Q1.out.cell 1 rfl
  have e2 := Q1.out.cell 2 rfl
  have e3 := Q1.out.cell 3 rfl
  have e4 := Q1.out.cell 4 rfl
  have e5 := Q1.out.cell 5 rfl
  have e6 := Q1.out.cell 6 rfl
  refine bodyPost_ret (v := .agg #[.int .i64 pt, .int .i64 st, .int .i64 tt, .int .i64 b, .int .i64 r, .int .i64 m, .slice va n vc]) (by simp [results, Tryz.results8, go_sem, e0, e1, e2, e3, e4, e5, e6]) rfl ?_
  exact ⟨va, vc, rfl, Q2.out.weaken (Nat.le_of_lt HWL.out.1), Q3.out⟩
end Go.Proofs.YtdbciciljeainaaGreatDoor
