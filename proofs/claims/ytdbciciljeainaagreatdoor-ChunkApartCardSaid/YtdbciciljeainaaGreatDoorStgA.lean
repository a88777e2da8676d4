/-
  The law's code; the document's Put.
  The law's ours and theirs: a stage for the program, as new memory; for the document.
  The document's Begin.
  The document's Same of stages that are alike, and of one that came in with none.
-/
import Derived.Test.YtdbciciljeainaaGreatDoorCkKnown
import Derived.Test.YtdbciciljeainaaGreatDoorErrHitQ
import Derived.Test.YtdbciciljeainaaGreatDoorPlainQ
import Derived.Test.YtdbciciljeainaaGreatDoorXfAdd
import Derived.Deep.RegionHeld3
import Derived.Test.YtdbciciljeainaaGreatDoorXrChk
import Derived.Test.YtdbciciljeainaaGreatDoorXrAck
namespace Go.Proofs.YtdbciciljeainaaGreatDoor
open Go.RowKit FerryCrc
set_option linter.unusedVariables false
set_option linter.unusedSimpArgs false

set_option maxRecDepth 100000 in
theorem lcode_any {w : World} {E : Nat → Addr} (he : Errs w E) (i : Nat) (hi : i ≤ 20) :
    Calls Tryz.prog 13 #[erv E i] w fun e w' => e = .returned (.int .i64 (i : Int)) ∧ Below w.heap.size w w' := by
  have hv := erv_bare E i hi
  have H1 := hide (place_bare he _ i hv)
  have HE := hide he
  have HV := hide hv
  clear he hv
  generalize erv E i = v at *
  go_enter Tryz.func13, Tryz.ntmps13
  go_wp2_with fail
  refine Calls.mono H1.out ?_
  rintro e w1 ⟨rfl, b1⟩
  have H2 := hide (code_any (HE.out.below b1) _ i _ (HV.out.err (w := w1)))
  have B1 := hide b1
  clear b1
  go_wp2_with fail
  refine Calls.mono H2.out ?_
  rintro e w2 ⟨rfl, rfl⟩
  go_wp2
  go_ret
  exact ⟨rfl, B1.out⟩

end Go.Proofs.YtdbciciljeainaaGreatDoor
namespace Go.Proofs.YtdbciciljeainaaGreatDoor
open Go.RowKit FerryCrc
set_option linter.unusedVariables false
set_option linter.unusedSimpArgs false

set_option maxRecDepth 100000 in
set_option maxHeartbeats 4000000 in
theorem theirs_any (pt st tt b r m : Int) (a : Option Addr) (n c : Nat) (w : World) : Calls Tryz.prog 12 #[.agg #[.int .i64 pt, .int .i64 st, .int .i64 tt, .int .i64 b, .int .i64 r, .int .i64 m, .slice a n c]] w fun e w' => e = .returned (.agg #[.int .i64 pt, .int .i64 st, .int .i64 tt, .int .i64 b, .int .i64 r, .int .i64 m, .slice a n c]) ∧ Below w.heap.size w w' := by
  obtain ⟨W, hW, B0, B1, D0⟩ := box2 w [.int .i64 pt, .int .i64 st, .int .i64 tt, .int .i64 b, .int .i64 r, .int .i64 m, .slice a n c] 34 [.int .i64 0, .int .i64 0, .int .i64 0, .int .i64 0, .int .i64 0, .int .i64 0, .slice none 0 0] 26
  obtain ⟨q, hq⟩ : ∃ q, w.heap.size + 1 = q := ⟨_, rfl⟩
  have HQ0 : Hid (w.heap.size < q) := by unfold Hid; omega
  rw [hq] at B1
  have HB0 := hide B0
  have HB1 := hide B1
  have HWD := hide hW
  have HQQ := hide hq
  have HD := hide D0
  clear B0 B1 D0 hW hq
  go_enter Tryz.func12, Tryz.ntmps12
  go_upto_region 1 with fail
  have hW := HWD.out
  have hq := HQQ.out
  clear HWD HQQ
  simp only [hW, hq]
  clear hW hq
  have c0 := HB0.out.cell 0 rfl
  have c1 := HB0.out.cell 1 rfl
  have c2 := HB0.out.cell 2 rfl
  have c3 := HB0.out.cell 3 rfl
  have c4 := HB0.out.cell 4 rfl
  have c5 := HB0.out.cell 5 rfl
  have c6 := HB0.out.cell 6 rfl
  have g0 := HB1.out.cell 0 rfl
  have g1 := HB1.out.cell 1 rfl
  have g2 := HB1.out.cell 2 rfl
  have g3 := HB1.out.cell 3 rfl
  have g4 := HB1.out.cell 4 rfl
  have g5 := HB1.out.cell 5 rfl
  have g6 := HB1.out.cell 6 rfl
  have f0 := HB1.out.frozen 0
  have f1 := HB1.out.frozen 1
  have f2 := HB1.out.frozen 2
  have f3 := HB1.out.frozen 3
  have f4 := HB1.out.frozen 4
  have f5 := HB1.out.frozen 5
  have f6 := HB1.out.frozen 6
  have Q1 := hide (HB1.out.sets [.int .i64 pt, .int .i64 st, .int .i64 tt, .int .i64 b, .int .i64 r, .int .i64 m, .slice a n c] rfl)
  have Q3 := hide (below_sets (Nat.le_of_lt HQ0.out) [.int .i64 pt, .int .i64 st, .int .i64 tt, .int .i64 b, .int .i64 r, .int .i64 m, .slice a n c] 0 HD.out)
  go_wp2
  obtain ⟨W9, hW9⟩ : ∃ W9, (((((((W.setCell ⟨q, 0, none⟩ (.int .i64 pt)).setCell ⟨q, 1, none⟩ (.int .i64 st)).setCell ⟨q, 2, none⟩ (.int .i64 tt)).setCell ⟨q, 3, none⟩ (.int .i64 b)).setCell ⟨q, 4, none⟩ (.int .i64 r)).setCell ⟨q, 5, none⟩ (.int .i64 m)).setCell ⟨q, 6, none⟩ (.slice a n c)) = W9 := ⟨_, rfl⟩
  simp only [hW9]
  rw [show World.setCells W q 0 [.int .i64 pt, .int .i64 st, .int .i64 tt, .int .i64 b, .int .i64 r, .int .i64 m, .slice a n c] = W9 from hW9] at Q1 Q3
  clear hW9
  have e0 := Q1.out.cell 0 rfl
  have e1 := Q1.out.cell 1 rfl
  have e2 := Q1.out.cell 2 rfl
  have e3 := Q1.out.cell 3 rfl
  have e4 := Q1.out.cell 4 rfl
  have e5 := Q1.out.cell 5 rfl
  have e6 := Q1.out.cell 6 rfl
  refine bodyPost_ret (v := .agg #[.int .i64 pt, .int .i64 st, .int .i64 tt, .int .i64 b, .int .i64 r, .int .i64 m, .slice a n c]) (by simp [results, Tryz.results12, go_sem, e0, e1, e2, e3, e4, e5, e6]) rfl ?_
  exact ⟨rfl, Q3.out⟩
theorem step_tx {w : World} {o : Oper} {act : Act} {K : Act → World → Prop} {Q : Exit → Act → World → Prop} (hgd : o.guard = none) (s x : Operand) (t e : TypeId)
    (ho : o.op = .call { callee := .builtin .append, args := #[s, x], argTypes := #[t, t] }) (ht : Tryz.prog.underlying t = some (.slice e))
    {size bytes : Nat} {zc : Array Value} (hinfo : (Tryz.prog.info? e).map (fun i => (i.size, i.bytes, i.zero.map (·.cells))) = some (size, bytes, some zc)) (hzc : zc.size = size) (h0 : 0 < size)
    (base : Nat) (v : Value) (n : Nat) (xs : List Value) (hs : act.eval s = v) (hv : w.ownsRow base e size v n xs)
    (a : Option Addr) (m c : Nat) (cs : List Value) (hx : act.eval x = .slice a m c) (hr : Row w a m c size cs) (one : ∀ u ∈ cs, u.oneCell' = true)
    (b1 : n + m ≤ maxLen) (b2 : (n + m) * bytes ≤ 140737488355328) (hbase : base ≤ w.heap.size)
    (h : ∀ v' w', w'.ownsRow base e size v' (n + m) (xs ++ cs) → Below base w w' → K (act.put o.dst v') w') : Oper.wp Tryz.prog o act w K Q := by
  obtain ⟨i, z, h2, h3, h4, h5, h6⟩ := info_open hinfo
  obtain ⟨v', w', hrun, k1, k2⟩ : ∃ v' w', (Builtin.append_ #[t, t] o.type #[v, .slice a m c]).run Tryz.prog w = .ok v' w' ∧ w'.ownsRow base e size v' (n + m) (xs ++ cs) ∧ Below base w w' := by
    by_cases hm : m = 0
    · subst hm
      obtain rfl : cs = [] := List.length_eq_zero_iff.1 (by simpa using hr.size)
      obtain ⟨b, cap, rfl, hb⟩ := RLk.row (.inl hv)
      exact ⟨_, w, run_append_empty (P := Tryz.prog) w t o.type e i ht h2 b a n cap c hb.fit, by simpa using hv, Below.refl _ _⟩
    · match a, hr with
      | none, hr => exact absurd (hr.null rfl).1 hm
      | some ad, hr =>
        have hcell : ∀ j u, cs[j]? = some u → w.cell? (ad.add j) = some u := fun j u hu => by
          obtain ⟨b, off, ha, hc⟩ := hr.cell j u hu
          simp only [Option.some.injEq] at ha
          subst ha
          rw [add_lit']
          exact hc
        obtain ⟨v', w', hrun, k1, k2, _⟩ := run_append_own (P := Tryz.prog) w base t o.type e i z size bytes ht h2 h3 h4 h5 (by rw [h6]; exact hzc) h0 v n xs hv ad m c cs hr.size hcell one b1 b2 hbase
        exact ⟨v', w', hrun, k1, (Below.refl _ _).grown k2 hbase (fun j e => (World.ownsRow.lt hv j e).1)⟩
  unfold Oper.wp execOp
  simp only [ho, resolve, invoke, builtin, Sem.run_bind, Sem.run_pure, Result.andThen_ok, List.map_toArray, List.map_cons, List.map_nil, hs, hx, hrun]
  exact h v' w' k1 k2
set_option maxRecDepth 100000 in
set_option maxHeartbeats 4000000 in
theorem ours_any (pt st tt b r m : Int) (a : Option Addr) (n c : Nat) (P : List ByteArray) {w : World} (hP : Txs w a n c P) (hn : n * 16 ≤ 140737488355328) : Calls Tryz.prog 8 #[.agg #[.int .i64 pt, .int .i64 st, .int .i64 tt, .int .i64 b, .int .i64 r, .int .i64 m, .slice a n c]] w fun e w' => ∃ va vc, e = .returned (.agg #[.int .i64 pt, .int .i64 st, .int .i64 tt, .int .i64 b, .int .i64 r, .int .i64 m, .slice va n vc]) ∧ TxOwn w' w.heap.size (.slice va n vc) P ∧ Below w.heap.size w w' := by
  have hPs := hP.size
  obtain ⟨W, hW, B0, B1, D0⟩ := box2 w [.int .i64 pt, .int .i64 st, .int .i64 tt, .int .i64 b, .int .i64 r, .int .i64 m, .slice a n c] 26 [.int .i64 0, .int .i64 0, .int .i64 0, .int .i64 0, .int .i64 0, .int .i64 0, .slice none 0 0] 34
  obtain ⟨q, hq⟩ : ∃ q, w.heap.size + 1 = q := ⟨_, rfl⟩
  have HQ0 : Hid (w.heap.size < q) := by unfold Hid; omega
  rw [hq] at B1
  have HB0 := hide B0
  have HB1 := hide B1
  have HWD := hide hW
  have HQQ := hide hq
  have HD := hide D0
  have HP := hide (hP.below D0)
  have HN : Hid (n * 16 ≤ 140737488355328) := hn
  clear B0 B1 D0 hW hq hP hn
  go_enter Tryz.func8, Tryz.ntmps8
  go_upto_region 1 with fail
  have hW := HWD.out
  have hq := HQQ.out
  clear HWD HQQ
  simp only [hW, hq]
  clear hW hq
  have HSB : Hid (∀ wz, Below W.heap.size W wz → wz.cell? ⟨w.heap.size, 0, none⟩ = some (.int .i64 pt) ∧ wz.cell? ⟨w.heap.size, 1, none⟩ = some (.int .i64 st) ∧ wz.cell? ⟨w.heap.size, 2, none⟩ = some (.int .i64 tt) ∧ wz.cell? ⟨w.heap.size, 3, none⟩ = some (.int .i64 b) ∧ wz.cell? ⟨w.heap.size, 4, none⟩ = some (.int .i64 r) ∧ wz.cell? ⟨w.heap.size, 5, none⟩ = some (.int .i64 m) ∧ wz.cell? ⟨w.heap.size, 6, none⟩ = some (.slice a n c)) := fun wz hb => ⟨(HB0.out.below hb).cell 0 rfl, (HB0.out.below hb).cell 1 rfl, (HB0.out.below hb).cell 2 rfl, (HB0.out.below hb).cell 3 rfl, (HB0.out.below hb).cell 4 rfl, (HB0.out.below hb).cell 5 rfl, (HB0.out.below hb).cell 6 rfl⟩
  have HWL : Hid (w.heap.size < W.heap.size ∧ q < W.heap.size) := ⟨HB0.out.lt, HB1.out.lt⟩
  refine wp_region_held_drew (S := fun wz => wz.cell? ⟨w.heap.size, 0, none⟩ = some (.int .i64 pt) ∧ wz.cell? ⟨w.heap.size, 1, none⟩ = some (.int .i64 st) ∧ wz.cell? ⟨w.heap.size, 2, none⟩ = some (.int .i64 tt) ∧ wz.cell? ⟨w.heap.size, 3, none⟩ = some (.int .i64 b) ∧ wz.cell? ⟨w.heap.size, 4, none⟩ = some (.int .i64 r) ∧ wz.cell? ⟨w.heap.size, 5, none⟩ = some (.int .i64 m) ∧ wz.cell? ⟨w.heap.size, 6, none⟩ = some (.slice a n c)) (by kernel_rfl) (HSB.out _ (Below.refl _ _).drew) (fun hHeld => ?_)
  refine wpAnyH_take (i := 0) (oi := { dst := some 3, op := Go.Op.fieldAddr 26 (Go.Operand.tmp 1) 0, type := 0, pos := "law.go:20", after := #[], guard := none }) (v := ?_) rfl (by kernel_rfl) (by kernel_rfl) (by kernel_rfl) (fun _ _ _ h => h) (Or.inl ⟨by rfl, ?_⟩) (by assumption) ?_
  rotate_left
  · intro wq hSw
    obtain ⟨q0, q1, q2, q3, q4, q5, q6⟩ := hSw
    go_simp
    try with_reducible rfl
  simp only [Act.put, List.setIfInBounds_toArray, List.set_cons_zero, List.set_cons_succ]
  refine wpAnyH_take (i := 1) (oi := { dst := some 4, op := Go.Op.load 3 (Go.Operand.tmp 3), type := 3, pos := "law.go:20", after := #[{ on := 0, ground := Go.Ground.data }], guard := none }) (v := ?_) rfl (by kernel_rfl) (by kernel_rfl) (by kernel_rfl) (fun _ _ _ h => h) (Or.inl ⟨by rfl, ?_⟩) (by assumption) ?_
  rotate_left
  · intro wq hSw
    obtain ⟨q0, q1, q2, q3, q4, q5, q6⟩ := hSw
    go_simp
    try with_reducible rfl
  simp only [Act.put, List.setIfInBounds_toArray, List.set_cons_zero, List.set_cons_succ]
  refine wpAnyH_take (i := 2) (oi := { dst := some 5, op := Go.Op.fieldAddr 26 (Go.Operand.tmp 1) 1, type := 0, pos := "law.go:20", after := #[], guard := none }) (v := ?_) rfl (by kernel_rfl) (by kernel_rfl) (by kernel_rfl) (fun _ _ _ h => h) (Or.inl ⟨by rfl, ?_⟩) (by assumption) ?_
  rotate_left
  · intro wq hSw
    obtain ⟨q0, q1, q2, q3, q4, q5, q6⟩ := hSw
    go_simp
    try with_reducible rfl
  simp only [Act.put, List.setIfInBounds_toArray, List.set_cons_zero, List.set_cons_succ]
  refine wpAnyH_take (i := 3) (oi := { dst := some 6, op := Go.Op.load 3 (Go.Operand.tmp 5), type := 3, pos := "law.go:20", after := #[{ on := 2, ground := Go.Ground.data }], guard := none }) (v := ?_) rfl (by kernel_rfl) (by kernel_rfl) (by kernel_rfl) (fun _ _ _ h => h) (Or.inl ⟨by rfl, ?_⟩) (by assumption) ?_
  rotate_left
  · intro wq hSw
    obtain ⟨q0, q1, q2, q3, q4, q5, q6⟩ := hSw
    go_simp
    try with_reducible rfl
  simp only [Act.put, List.setIfInBounds_toArray, List.set_cons_zero, List.set_cons_succ]
  refine wpAnyH_take (i := 4) (oi := { dst := some 7, op := Go.Op.fieldAddr 26 (Go.Operand.tmp 1) 2, type := 0, pos := "law.go:20", after := #[], guard := none }) (v := ?_) rfl (by kernel_rfl) (by kernel_rfl) (by kernel_rfl) (fun _ _ _ h => h) (Or.inl ⟨by rfl, ?_⟩) (by assumption) ?_
  rotate_left
  · intro wq hSw
    obtain ⟨q0, q1, q2, q3, q4, q5, q6⟩ := hSw
    go_simp
    try with_reducible rfl
  simp only [Act.put, List.setIfInBounds_toArray, List.set_cons_zero, List.set_cons_succ]
  refine wpAnyH_take (i := 5) (oi := { dst := some 8, op := Go.Op.load 3 (Go.Operand.tmp 7), type := 3, pos := "law.go:20", after := #[{ on := 4, ground := Go.Ground.data }], guard := none }) (v := ?_) rfl (by kernel_rfl) (by kernel_rfl) (by kernel_rfl) (fun _ _ _ h => h) (Or.inl ⟨by rfl, ?_⟩) (by assumption) ?_
  rotate_left
  · intro wq hSw
    obtain ⟨q0, q1, q2, q3, q4, q5, q6⟩ := hSw
    go_simp
    try with_reducible rfl
  simp only [Act.put, List.setIfInBounds_toArray, List.set_cons_zero, List.set_cons_succ]
  refine wpAnyH_take (i := 6) (oi := { dst := some 9, op := Go.Op.fieldAddr 26 (Go.Operand.tmp 1) 3, type := 0, pos := "law.go:20", after := #[], guard := none }) (v := ?_) rfl (by kernel_rfl) (by kernel_rfl) (by kernel_rfl) (fun _ _ _ h => h) (Or.inl ⟨by rfl, ?_⟩) (by assumption) ?_
  rotate_left
  · intro wq hSw
    obtain ⟨q0, q1, q2, q3, q4, q5, q6⟩ := hSw
    go_simp
    try with_reducible rfl
  simp only [Act.put, List.setIfInBounds_toArray, List.set_cons_zero, List.set_cons_succ]
  refine wpAnyH_take (i := 7) (oi := { dst := some 10, op := Go.Op.load 23 (Go.Operand.tmp 9), type := 23, pos := "law.go:20", after := #[{ on := 6, ground := Go.Ground.data }], guard := none }) (v := ?_) rfl (by kernel_rfl) (by kernel_rfl) (by kernel_rfl) (fun _ _ _ h => h) (Or.inl ⟨by rfl, ?_⟩) (by assumption) ?_
  rotate_left
  · intro wq hSw
    obtain ⟨q0, q1, q2, q3, q4, q5, q6⟩ := hSw
    go_simp
    try with_reducible rfl
  simp only [Act.put, List.setIfInBounds_toArray, List.set_cons_zero, List.set_cons_succ]
  refine wpAnyH_take (i := 9) (oi := { dst := some 12, op := Go.Op.fieldAddr 26 (Go.Operand.tmp 1) 4, type := 0, pos := "law.go:20", after := #[], guard := none }) (v := ?_) rfl (by kernel_rfl) (by kernel_rfl) (by kernel_rfl) (fun _ _ _ h => h) (Or.inl ⟨by rfl, ?_⟩) (by assumption) ?_
  rotate_left
  · intro wq hSw
    obtain ⟨q0, q1, q2, q3, q4, q5, q6⟩ := hSw
    go_simp
    try with_reducible rfl
  simp only [Act.put, List.setIfInBounds_toArray, List.set_cons_zero, List.set_cons_succ]
  refine wpAnyH_take (i := 10) (oi := { dst := some 13, op := Go.Op.load 24 (Go.Operand.tmp 12), type := 24, pos := "law.go:20", after := #[{ on := 9, ground := Go.Ground.data }], guard := none }) (v := ?_) rfl (by kernel_rfl) (by kernel_rfl) (by kernel_rfl) (fun _ _ _ h => h) (Or.inl ⟨by rfl, ?_⟩) (by assumption) ?_
  rotate_left
  · intro wq hSw
    obtain ⟨q0, q1, q2, q3, q4, q5, q6⟩ := hSw
    go_simp
    try with_reducible rfl
  simp only [Act.put, List.setIfInBounds_toArray, List.set_cons_zero, List.set_cons_succ]
  refine wpAnyH_ready (rs := [8]) (by kernel_rfl) (by simp) ?_
  refine AllReadyH.cons (o := { dst := some 11, op := Go.Op.buildSlice 24 0 #[], type := 24, pos := "law.go:20", after := #[], guard := none }) rfl (fun K hK => ?_) AllReadyH.nil
  go_simp
  have BE : Hid (Below W.heap.size W (W.alloc (.cells #[] 9)).drew) := ((Below.refl _ _).alloc (Nat.le_refl _) _).drew
  have OE : Hid ((W.alloc (.cells #[] 9)).drew.ownsRow W.heap.size 9 1 (.slice (some ⟨W.heap.size, 0, none⟩) 0 0) 0 []) := World.ownsRow_lit W #[] 0 (Nat.le_refl _) (by decide) rfl
  refine hK.out _ _ (HSB.out _ BE.out) (fun hHeld2 => ?_)
  clear hK K
  try simp only [Act.put, List.setIfInBounds_toArray, List.set_cons_zero, List.set_cons_succ]
  generalize (W.alloc (.cells #[] 9)).drew = WA at *
  refine wpAnyH_ready (rs := [11]) (by kernel_rfl) (by simp) ?_
  refine AllReadyH.cons (o := { dst := some 14, op := Go.Op.call { callee := Go.Callee.builtin Go.Builtin.append, args := #[Go.Operand.tmp 11, Go.Operand.tmp 13], argTypes := #[24, 24] }, type := 24, pos := "law.go:20", after := #[{ on := 8, ground := Go.Ground.data }, { on := 10, ground := Go.Ground.data }], guard := none }) rfl (fun K hK => ?_) AllReadyH.nil
  refine step_tx rfl (.tmp 11) (.tmp 13) 24 9 rfl Tryz.underlying24 infoTx rfl (by decide) W.heap.size _ 0 [] rfl OE.out a n c (P.flatMap tv) rfl (HP.out.row.below BE.out) (tv_one P) (by have := HN.out; unfold maxLen; omega) (by have := HN.out; omega) BE.out.size ?_
  intro v2 w2 h2 b2
  rw [List.nil_append, Nat.zero_add] at h2
  have HV : Hid (TxOwn w2 W.heap.size v2 P) := by unfold Hid TxOwn LOwn; rw [hPs]; exact h2
  have D2 := hide (BE.out.trans b2)
  clear h2 b2 OE BE
  obtain ⟨va, vc, hv, -⟩ := HV.out.rcs
  rw [hPs] at hv
  subst hv
  refine hK.out _ _ (HSB.out _ D2.out) (fun hHeld3 => ?_)
  clear hK K
  try simp only [Act.put, List.setIfInBounds_toArray, List.set_cons_zero, List.set_cons_succ]
  refine wpAnyH_take (i := 12) (oi := { dst := some 15, op := Go.Op.build 34 #[(0, Go.Operand.tmp 4), (1, Go.Operand.tmp 6), (2, Go.Operand.tmp 8), (3, Go.Operand.tmp 10), (4, Go.Operand.tmp 14)], type := 34, pos := "law.go:20", after := #[{ on := 1, ground := Go.Ground.data }, { on := 3, ground := Go.Ground.data }, { on := 5, ground := Go.Ground.data }, { on := 7, ground := Go.Ground.data }, { on := 11, ground := Go.Ground.data }], guard := none }) (v := ?_) rfl (by kernel_rfl) (by kernel_rfl) (by kernel_rfl) (fun _ _ _ h => h) (Or.inl ⟨by rfl, ?_⟩) (by assumption) ?_
  rotate_left
  · intro wq hSw
    obtain ⟨q0, q1, q2, q3, q4, q5, q6⟩ := hSw
    go_simp
    try with_reducible rfl
  simp only [Act.put, List.setIfInBounds_toArray, List.set_cons_zero, List.set_cons_succ]
  have M1 := hide (HB1.out.below D2.out)
  have g0 := M1.out.cell 0 rfl
  have g1 := M1.out.cell 1 rfl
  have g2 := M1.out.cell 2 rfl
  have g3 := M1.out.cell 3 rfl
  have g4 := M1.out.cell 4 rfl
  have g5 := M1.out.cell 5 rfl
  have g6 := M1.out.cell 6 rfl
  have f0 := M1.out.frozen 0
  have f1 := M1.out.frozen 1
  have f2 := M1.out.frozen 2
  have f3 := M1.out.frozen 3
  have f4 := M1.out.frozen 4
  have f5 := M1.out.frozen 5
  have f6 := M1.out.frozen 6
  have Q1 := hide (M1.out.sets [.int .i64 pt, .int .i64 st, .int .i64 tt, .int .i64 b, .int .i64 r, .int .i64 m, .slice va n vc] rfl)
  have Q2 := hide (LOwn.fars (HV.out.off HWL.out.2) [.int .i64 pt, .int .i64 st, .int .i64 tt, .int .i64 b, .int .i64 r, .int .i64 m, .slice va n vc] 0 HV.out)
  have Q3 := hide (below_sets (Nat.le_of_lt HQ0.out) [.int .i64 pt, .int .i64 st, .int .i64 tt, .int .i64 b, .int .i64 r, .int .i64 m, .slice va n vc] 0 (chain HD.out D2.out))
  have S9 : Hid ((((((((((w2.setCell ⟨q, 0, none⟩ (.int .i64 pt)).setCell ⟨q, 1, none⟩ (.int .i64 st)).setCell ⟨q, 2, none⟩ (.int .i64 tt)).setCell ⟨q, 3, none⟩ (.int .i64 b)).setCell ⟨q, 4, none⟩ (.int .i64 r)).setCell ⟨q, 5, none⟩ (.int .i64 m)).setCell ⟨q, 6, none⟩ (.slice va n vc))).cell? ⟨w.heap.size, 0, none⟩ = some (.int .i64 pt) ∧ ((((((((w2.setCell ⟨q, 0, none⟩ (.int .i64 pt)).setCell ⟨q, 1, none⟩ (.int .i64 st)).setCell ⟨q, 2, none⟩ (.int .i64 tt)).setCell ⟨q, 3, none⟩ (.int .i64 b)).setCell ⟨q, 4, none⟩ (.int .i64 r)).setCell ⟨q, 5, none⟩ (.int .i64 m)).setCell ⟨q, 6, none⟩ (.slice va n vc))).cell? ⟨w.heap.size, 1, none⟩ = some (.int .i64 st) ∧ ((((((((w2.setCell ⟨q, 0, none⟩ (.int .i64 pt)).setCell ⟨q, 1, none⟩ (.int .i64 st)).setCell ⟨q, 2, none⟩ (.int .i64 tt)).setCell ⟨q, 3, none⟩ (.int .i64 b)).setCell ⟨q, 4, none⟩ (.int .i64 r)).setCell ⟨q, 5, none⟩ (.int .i64 m)).setCell ⟨q, 6, none⟩ (.slice va n vc))).cell? ⟨w.heap.size, 2, none⟩ = some (.int .i64 tt) ∧ ((((((((w2.setCell ⟨q, 0, none⟩ (.int .i64 pt)).setCell ⟨q, 1, none⟩ (.int .i64 st)).setCell ⟨q, 2, none⟩ (.int .i64 tt)).setCell ⟨q, 3, none⟩ (.int .i64 b)).setCell ⟨q, 4, none⟩ (.int .i64 r)).setCell ⟨q, 5, none⟩ (.int .i64 m)).setCell ⟨q, 6, none⟩ (.slice va n vc))).cell? ⟨w.heap.size, 3, none⟩ = some (.int .i64 b) ∧ ((((((((w2.setCell ⟨q, 0, none⟩ (.int .i64 pt)).setCell ⟨q, 1, none⟩ (.int .i64 st)).setCell ⟨q, 2, none⟩ (.int .i64 tt)).setCell ⟨q, 3, none⟩ (.int .i64 b)).setCell ⟨q, 4, none⟩ (.int .i64 r)).setCell ⟨q, 5, none⟩ (.int .i64 m)).setCell ⟨q, 6, none⟩ (.slice va n vc))).cell? ⟨w.heap.size, 4, none⟩ = some (.int .i64 r) ∧ ((((((((w2.setCell ⟨q, 0, none⟩ (.int .i64 pt)).setCell ⟨q, 1, none⟩ (.int .i64 st)).setCell ⟨q, 2, none⟩ (.int .i64 tt)).setCell ⟨q, 3, none⟩ (.int .i64 b)).setCell ⟨q, 4, none⟩ (.int .i64 r)).setCell ⟨q, 5, none⟩ (.int .i64 m)).setCell ⟨q, 6, none⟩ (.slice va n vc))).cell? ⟨w.heap.size, 5, none⟩ = some (.int .i64 m) ∧ ((((((((w2.setCell ⟨q, 0, none⟩ (.int .i64 pt)).setCell ⟨q, 1, none⟩ (.int .i64 st)).setCell ⟨q, 2, none⟩ (.int .i64 tt)).setCell ⟨q, 3, none⟩ (.int .i64 b)).setCell ⟨q, 4, none⟩ (.int .i64 r)).setCell ⟨q, 5, none⟩ (.int .i64 m)).setCell ⟨q, 6, none⟩ (.slice va n vc))).cell? ⟨w.heap.size, 6, none⟩ = some (.slice a n c))) := by
    have M0 := Bk.others (Nat.ne_of_lt HQ0.out) [.int .i64 pt, .int .i64 st, .int .i64 tt, .int .i64 b, .int .i64 r, .int .i64 m, .slice va n vc] 0 (HB0.out.below D2.out)
    exact ⟨M0.cell 0 rfl, M0.cell 1 rfl, M0.cell 2 rfl, M0.cell 3 rfl, M0.cell 4 rfl, M0.cell 5 rfl, M0.cell 6 rfl⟩
  refine wpAnyH_ready (rs := [13]) (by kernel_rfl) (by simp) ?_
  refine AllReadyH.cons (o := { dst := none, op := Go.Op.store 34 (Go.Operand.tmp 2) (Go.Operand.tmp 15), type := 0, pos := "law.go:20", after := #[{ on := 12, ground := Go.Ground.data }, { on := 11, ground := Go.Ground.chain }, { on := 0, ground := Go.Ground.phase }, { on := 1, ground := Go.Ground.phase }, { on := 2, ground := Go.Ground.phase }, { on := 3, ground := Go.Ground.phase }, { on := 4, ground := Go.Ground.phase }, { on := 5, ground := Go.Ground.phase }, { on := 6, ground := Go.Ground.phase }, { on := 7, ground := Go.Ground.phase }, { on := 8, ground := Go.Ground.phase }, { on := 9, ground := Go.Ground.phase }, { on := 10, ground := Go.Ground.phase }, { on := 11, ground := Go.Ground.phase }, { on := 12, ground := Go.Ground.phase }], guard := none }) rfl (fun K hK => ?_) AllReadyH.nil
  go_simp
  refine hK.out _ _ S9.out (fun hHeld4 => ?_)
  clear hK K
  refine wpAnyH_done (by kernel_rfl) ?_ _
  clear hHeld hHeld2 hHeld3 hHeld4 S9 g0 f0 g1 f1 g2 f2 g3 f3 g4 f4 g5 f5 g6 f6
  go_wp2
  obtain ⟨W9, hW9⟩ : ∃ W9, (((((((w2.setCell ⟨q, 0, none⟩ (.int .i64 pt)).setCell ⟨q, 1, none⟩ (.int .i64 st)).setCell ⟨q, 2, none⟩ (.int .i64 tt)).setCell ⟨q, 3, none⟩ (.int .i64 b)).setCell ⟨q, 4, none⟩ (.int .i64 r)).setCell ⟨q, 5, none⟩ (.int .i64 m)).setCell ⟨q, 6, none⟩ (.slice va n vc)) = W9 := ⟨_, rfl⟩
  simp only [hW9]
  rw [show World.setCells w2 q 0 [.int .i64 pt, .int .i64 st, .int .i64 tt, .int .i64 b, .int .i64 r, .int .i64 m, .slice va n vc] = W9 from hW9] at Q1 Q2 Q3
  clear hW9
  have e0 := Q1.out.cell 0 rfl
  have e1 := Q1.out.cell 1 rfl
  have e2 := Q1.out.cell 2 rfl
  have e3 := Q1.out.cell 3 rfl
  have e4 := Q1.out.cell 4 rfl
  have e5 := Q1.out.cell 5 rfl
  have e6 := Q1.out.cell 6 rfl
  refine bodyPost_ret (v := .agg #[.int .i64 pt, .int .i64 st, .int .i64 tt, .int .i64 b, .int .i64 r, .int .i64 m, .slice va n vc]) (by simp [results, Tryz.results8, go_sem, e0, e1, e2, e3, e4, e5, e6]) rfl ?_
  exact ⟨va, vc, rfl, Q2.out.weaken (Nat.le_of_lt HWL.out.1), Q3.out⟩
end Go.Proofs.YtdbciciljeainaaGreatDoor
namespace Go.Proofs.YtdbciciljeainaaGreatDoor
open Go.RowKit FerryCrc
set_option linter.unusedVariables false
set_option linter.unusedSimpArgs false

theorem begE_open' {n : Nt} (h : begE n = 0) : chk n = 0 ∧ n.kind = 1 := by
  unfold begE at h
  split at h
  · split at h
    · exact ⟨by assumption, by assumption⟩
    · cases h
  · exact absurd h (by assumption)
set_option maxRecDepth 100000 in
set_option maxHeartbeats 4000000 in
theorem rbegin_any (k pt b r m st ix tt sm : Int) (d : ByteArray) {w : World} (hd : d.size ≤ 9223372036854775807) (h1 : -9223372036854775808 ≤ tt) (h2 : tt ≤ 9223372036854775807) :
    Calls Tryz.prog 9 #[.agg #[.int .i64 k, .int .i64 pt, .int .i64 b, .int .i64 r, .int .i64 m, .int .i64 st, .int .i64 ix, .int .i64 tt, .int .u32 sm, .string d]] w fun e w' => ∃ v, e = .returned (.tuple #[.agg ((begS ⟨k, pt, b, r, m, st, ix, tt, sm, d⟩).cells v).toArray, .int .i64 (begE ⟨k, pt, b, r, m, st, ix, tt, sm, d⟩ : Int)]) ∧ TxOwn w' w.heap.size v (begP ⟨k, pt, b, r, m, st, ix, tt, sm, d⟩) ∧ Below w.heap.size w w' := by
  obtain ⟨N, hN⟩ : ∃ N : Nt, N = ⟨k, pt, b, r, m, st, ix, tt, sm, d⟩ := ⟨_, rfl⟩
  rw [← hN]
  have HC1 := hide (fun (w' : World) => rchunk_any k pt b r m st ix tt sm d w' hd h1 h2)
  rw [← hN] at HC1
  obtain ⟨W, hW⟩ : ∃ W, (w.alloc (.cells #[.int .i64 k, .int .i64 pt, .int .i64 b, .int .i64 r, .int .i64 m, .int .i64 st, .int .i64 ix, .int .i64 tt, .int .u32 sm, .string d] 33)).alloc (.cells #[.int .i64 0, .int .i64 0, .int .i64 0, .int .i64 0, .int .i64 0, .int .i64 0, .slice none 0 0] 26) = W := ⟨_, rfl⟩
  have hsz : (w.alloc (.cells #[.int .i64 k, .int .i64 pt, .int .i64 b, .int .i64 r, .int .i64 m, .int .i64 st, .int .i64 ix, .int .i64 tt, .int .u32 sm, .string d] 33)).heap.size = w.heap.size + 1 := Array.size_push _
  have D0 := (Below.refl w.heap.size w).alloc (Nat.le_refl _) (.cells #[.int .i64 k, .int .i64 pt, .int .i64 b, .int .i64 r, .int .i64 m, .int .i64 st, .int .i64 ix, .int .i64 tt, .int .u32 sm, .string d] 33)
  have D1 := (Below.refl _ (w.alloc (.cells #[.int .i64 k, .int .i64 pt, .int .i64 b, .int .i64 r, .int .i64 m, .int .i64 st, .int .i64 ix, .int .i64 tt, .int .u32 sm, .string d] 33))).alloc (Nat.le_refl _) (.cells #[.int .i64 0, .int .i64 0, .int .i64 0, .int .i64 0, .int .i64 0, .int .i64 0, .slice none 0 0] 26)
  have B0 := Bk.new w [.int .i64 k, .int .i64 pt, .int .i64 b, .int .i64 r, .int .i64 m, .int .i64 st, .int .i64 ix, .int .i64 tt, .int .u32 sm, .string d] 33
  rw [show ([.int .i64 k, .int .i64 pt, .int .i64 b, .int .i64 r, .int .i64 m, .int .i64 st, .int .i64 ix, .int .i64 tt, .int .u32 sm, .string d] : List Value).toArray = #[.int .i64 k, .int .i64 pt, .int .i64 b, .int .i64 r, .int .i64 m, .int .i64 st, .int .i64 ix, .int .i64 tt, .int .u32 sm, .string d] from rfl] at B0
  have B0 := B0.below D1
  have B1 := Bk.new (w.alloc (.cells #[.int .i64 k, .int .i64 pt, .int .i64 b, .int .i64 r, .int .i64 m, .int .i64 st, .int .i64 ix, .int .i64 tt, .int .u32 sm, .string d] 33)) [.int .i64 0, .int .i64 0, .int .i64 0, .int .i64 0, .int .i64 0, .int .i64 0, .slice none 0 0] 26
  rw [show ([.int .i64 0, .int .i64 0, .int .i64 0, .int .i64 0, .int .i64 0, .int .i64 0, .slice none 0 0] : List Value).toArray = #[.int .i64 0, .int .i64 0, .int .i64 0, .int .i64 0, .int .i64 0, .int .i64 0, .slice none 0 0] from rfl] at B1
  have D2 := chain D0 D1
  rw [hW] at B0 B1 D2
  rw [hsz] at B1
  have HB0 := hide B0
  have HB1 := hide B1
  have HD := hide D2
  have HWD := hide hW
  have HN := hide hN
  clear B0 B1 D0 D1 D2 hsz hW hN h1 h2 hd
  go_enter Tryz.func9, Tryz.ntmps9
  go_upto_region 1 with fail
  have hW := HWD.out
  clear HWD
  simp only [hW]
  clear hW
  have g0 := HB0.out.cell 0 rfl
  have g1 := HB0.out.cell 1 rfl
  have g2 := HB0.out.cell 2 rfl
  have g3 := HB0.out.cell 3 rfl
  have g4 := HB0.out.cell 4 rfl
  have g5 := HB0.out.cell 5 rfl
  have g6 := HB0.out.cell 6 rfl
  have g7 := HB0.out.cell 7 rfl
  have g8 := HB0.out.cell 8 rfl
  have g9 := HB0.out.cell 9 rfl
  go_wp2_with fail
  clear g0 g1 g2 g3 g4 g5 g6 g7 g8 g9
  refine Calls.mono (HC1.out W) ?_
  rintro e w1 ⟨rfl, b1⟩
  replace HB0 := hide (HB0.out.below b1)
  replace HB1 := hide (HB1.out.below b1)
  replace HD := hide (chain HD.out b1)
  clear b1 HC1
  obtain ⟨p, hp⟩ : ∃ p, w.heap.size + 1 = p := ⟨_, rfl⟩
  have HP : Hid (w.heap.size < p) := by unfold Hid; omega
  rw [hp] at HB1 ⊢
  clear hp B0
  have f0 := HB1.out.frozen 0
  have f1 := HB1.out.frozen 1
  have f2 := HB1.out.frozen 2
  have f3 := HB1.out.frozen 3
  have f4 := HB1.out.frozen 4
  have f5 := HB1.out.frozen 5
  have f6 := HB1.out.frozen 6
  have g0 := HB1.out.cell 0 rfl
  have g1 := HB1.out.cell 1 rfl
  have g2 := HB1.out.cell 2 rfl
  have g3 := HB1.out.cell 3 rfl
  have g4 := HB1.out.cell 4 rfl
  have g5 := HB1.out.cell 5 rfl
  have g6 := HB1.out.cell 6 rfl
  by_cases hc : begE N = 0
  · have HBE := hide hc
    rw [hc]
    have n0 := HB0.out.cell 0 rfl
    obtain ⟨hck, hk⟩ := begE_open' hc
    have hk2 : k = 1 := by rw [HN.out] at hk; exact hk
    clear hk
    · subst hk2
      clear f0 f1 f2 f3 f4 f5 f6 g0 g1 g2 g3 g4 g5 g6
      have HX := hide (chk_chunk hck (by rw [HN.out]))
      rw [HN.out] at HX
      obtain ⟨-, -, t1, t2, i1, i2, -, -⟩ := HX.out
      clear HX
      simp only at t1 t2 i1 i2
      obtain ⟨t, rfl⟩ : ∃ t : Nat, tt = (t : Int) := ⟨tt.toNat, by omega⟩
      obtain ⟨i, rfl⟩ : ∃ i : Nat, ix = (i : Int) := ⟨ix.toNat, by omega⟩
      have HS : Hid (begS N = ⟨pt, st, (t : Int), b, r, m⟩ ∧ begP N = (List.replicate t ⟨#[]⟩).set i d) := by
        unfold Hid begS begP
        rw [if_pos HBE.out, if_pos HBE.out, HN.out]
        exact ⟨rfl, rfl⟩
      clear hc hck
      have hth : t * 16 ≤ 140737488355328 := by omega
      have hth2 : t ≤ 140737488355328 := by omega
      obtain ⟨wA, hrA, oA, bA⟩ := made_recs (f := tv) (sz := 1) tv1 (by decide) (⟨#[]⟩ : ByteArray) Tryz.underlying24 infoTx w1.drew t hth hth2
      obtain ⟨wB, hrB, oB, bB⟩ := made_recs (f := tv) (sz := 1) tv1 (by decide) (⟨#[]⟩ : ByteArray) Tryz.underlying24 infoTx ((w1.alloc (.cells #[.int .i64 0, .int .i64 0, .int .i64 0, .int .i64 0, .int .i64 0, .int .i64 0, .slice none 0 0] 26)).drew) t hth hth2
      have hX : ((w1.alloc (.cells #[.int .i64 0, .int .i64 0, .int .i64 0, .int .i64 0, .int .i64 0, .int .i64 0, .slice none 0 0] 26)).drew).heap.size = w1.heap.size + 1 := Array.size_push _
      have BX := Bk.new w1 [.int .i64 0, .int .i64 0, .int .i64 0, .int .i64 0, .int .i64 0, .int .i64 0, .slice none 0 0] 26
      have DX := ((Below.refl w1.heap.size w1).alloc (Nat.le_refl _) (.cells #[.int .i64 0, .int .i64 0, .int .i64 0, .int .i64 0, .int .i64 0, .int .i64 0, .slice none 0 0] 26)).drew
      have BB := (BX.below (Below.refl _ _).drew).below bB
      have CA := chain (Below.refl w1.heap.size w1).drew bA
      have CB := chain DX bB
      rw [hX] at hrB oB
      have n1 := HB0.out.cell 1 rfl
      have n2 := HB0.out.cell 2 rfl
      have n3 := HB0.out.cell 3 rfl
      have n4 := HB0.out.cell 4 rfl
      have n5 := HB0.out.cell 5 rfl
      have n6 := HB0.out.cell 6 rfl
      have n7 := HB0.out.cell 7 rfl
      have n8 := HB0.out.cell 8 rfl
      have n9 := HB0.out.cell 9 rfl
      have a1 := (HB0.out.below CA).cell 1 rfl
      have a2 := (HB0.out.below CA).cell 2 rfl
      have a3 := (HB0.out.below CA).cell 3 rfl
      have a4 := (HB0.out.below CA).cell 4 rfl
      have a5 := (HB0.out.below CA).cell 5 rfl
      have a6 := (HB0.out.below CA).cell 6 rfl
      have a7 := (HB0.out.below CA).cell 7 rfl
      have a8 := (HB0.out.below CA).cell 8 rfl
      have a9 := (HB0.out.below CA).cell 9 rfl
      have x1 := (HB0.out.below DX).cell 1 rfl
      have x2 := (HB0.out.below DX).cell 2 rfl
      have x3 := (HB0.out.below DX).cell 3 rfl
      have x4 := (HB0.out.below DX).cell 4 rfl
      have x5 := (HB0.out.below DX).cell 5 rfl
      have x6 := (HB0.out.below DX).cell 6 rfl
      have x7 := (HB0.out.below DX).cell 7 rfl
      have x8 := (HB0.out.below DX).cell 8 rfl
      have x9 := (HB0.out.below DX).cell 9 rfl
      have y1 := (HB0.out.below CB).cell 1 rfl
      have y2 := (HB0.out.below CB).cell 2 rfl
      have y3 := (HB0.out.below CB).cell 3 rfl
      have y4 := (HB0.out.below CB).cell 4 rfl
      have y5 := (HB0.out.below CB).cell 5 rfl
      have y6 := (HB0.out.below CB).cell 6 rfl
      have y7 := (HB0.out.below CB).cell 7 rfl
      have y8 := (HB0.out.below CB).cell 8 rfl
      have y9 := (HB0.out.below CB).cell 9 rfl
      have f0 := BB.frozen 0
      have f1 := BB.frozen 1
      have f2 := BB.frozen 2
      have f3 := BB.frozen 3
      have f4 := BB.frozen 4
      have f5 := BB.frozen 5
      have f6 := BB.frozen 6
      have g0 := BB.cell 0 rfl
      have g1 := BB.cell 1 rfl
      have g2 := BB.cell 2 rfl
      have g3 := BB.cell 3 rfl
      have g4 := BB.cell 4 rfl
      have g5 := BB.cell 5 rfl
      have g6 := BB.cell 6 rfl
      have DA2 := chain CA ((Below.refl wA.heap.size wA).alloc (Nat.le_refl _) (.cells #[.int .i64 0, .int .i64 0, .int .i64 0, .int .i64 0, .int .i64 0, .int .i64 0, .slice none 0 0] 26))
      have z1 := (HB0.out.below DA2).cell 1 rfl
      have z2 := (HB0.out.below DA2).cell 2 rfl
      have z3 := (HB0.out.below DA2).cell 3 rfl
      have z4 := (HB0.out.below DA2).cell 4 rfl
      have z5 := (HB0.out.below DA2).cell 5 rfl
      have z6 := (HB0.out.below DA2).cell 6 rfl
      have z7 := (HB0.out.below DA2).cell 7 rfl
      have z8 := (HB0.out.below DA2).cell 8 rfl
      have z9 := (HB0.out.below DA2).cell 9 rfl
      clear DA2
      have HBB := hide BB
      have HCA := hide CA
      have HCB := hide CB
      have HOA := hide oA
      have HOB := hide oB
      have HHX := hide hX
      have hAs := CA.size
      have hBs := CB.size
      have hAl : w1.heap.size < wA.heap.size := (World.ownsRow.lt oA _ rfl).2
      clear bA bB oA oB BX DX BB CA CB hX hth hth2
      go_upto_region 4 with fail
      go_cut [5] from 12 to 23 (fun s5 wz => ∃ g5 gs : Nat, s5 = .pointer (some ⟨g5, 0, none⟩) ∧ Hid (Bk wz g5 [.int .i64 pt, .int .i64 st, .int .i64 (t : Int), .int .i64 b, .int .i64 r, .int .i64 m, .slice (some ⟨gs, 0, none⟩) t t] 26) ∧ Hid (TxOwn wz w1.heap.size (.slice (some ⟨gs, 0, none⟩) t t) (List.replicate t ⟨#[]⟩)) ∧ Hid (g5 ≠ gs ∧ w1.heap.size ≤ g5) ∧ Hid (Below w1.heap.size w1 wz))
      case first =>
        go_region
        · have Q1 := hide (Bk.new wA [.int .i64 pt, .int .i64 st, .int .i64 (t : Int), .int .i64 b, .int .i64 r, .int .i64 m, .slice (some ⟨w1.heap.size, 0, none⟩) t t] 26)
          have D9 : Hid (Below wA.heap.size wA (wA.alloc (.cells #[.int .i64 pt, .int .i64 st, .int .i64 (t : Int), .int .i64 b, .int .i64 r, .int .i64 m, .slice (some ⟨w1.heap.size, 0, none⟩) t t] 26))) := (Below.refl _ _).alloc (Nat.le_refl _) _
          have Q2 := hide (HOA.out.below D9.out)
          have Q3 := hide (chain HCA.out D9.out)
          clear D9
          clear n1 n2 n3 n4 n5 n6 n7 n8 n9 a1 a2 a3 a4 a5 a6 a7 a8 a9 x1 x2 x3 x4 x5 x6 x7 x8 x9 y1 y2 y3 y4 y5 y6 y7 y8 y9 z1 z2 z3 z4 z5 z6 z7 z8 z9 f0 f1 f2 f3 f4 f5 f6 g0 g1 g2 g3 g4 g5 g6 hrA hrB
          go_wp2
          go_meet
          case rel => exact ⟨wA.heap.size, w1.heap.size, rfl, Q1.out, Q2.out, ⟨by omega, by omega⟩, Q3.out⟩
        · have hne : (Value.slice (some ⟨w1.heap.size + 1, 0, none⟩) t t).ownBlock ≠ some w1.heap.size := by
            intro h2
            simp [Value.ownBlock] at h2
          have hge : w1.heap.size ≤ w1.heap.size := Nat.le_refl _
          have Q1 := hide ((((((((HBB.out.set 0 (.int .i64 pt)).set 1 (.int .i64 st)).set 2 (.int .i64 (t : Int))).set 3 (.int .i64 b)).set 4 (.int .i64 r)).set 5 (.int .i64 m)).set 6 (.slice (some ⟨w1.heap.size + 1, 0, none⟩) t t)))
          have Q2 := hide (((((((((HOB.out.far (p := ⟨w1.heap.size, 0, none⟩) hne (.int .i64 pt)).far (p := ⟨w1.heap.size, 1, none⟩) hne (.int .i64 st)).far (p := ⟨w1.heap.size, 2, none⟩) hne (.int .i64 (t : Int))).far (p := ⟨w1.heap.size, 3, none⟩) hne (.int .i64 b)).far (p := ⟨w1.heap.size, 4, none⟩) hne (.int .i64 r)).far (p := ⟨w1.heap.size, 5, none⟩) hne (.int .i64 m)).far (p := ⟨w1.heap.size, 6, none⟩) hne (.slice (some ⟨w1.heap.size + 1, 0, none⟩) t t))).weaken (Nat.le_succ w1.heap.size))
          have Q3 := hide ((((((((HCB.out.setCell (p := ⟨w1.heap.size, 0, none⟩) hge (.int .i64 pt)).setCell (p := ⟨w1.heap.size, 1, none⟩) hge (.int .i64 st)).setCell (p := ⟨w1.heap.size, 2, none⟩) hge (.int .i64 (t : Int))).setCell (p := ⟨w1.heap.size, 3, none⟩) hge (.int .i64 b)).setCell (p := ⟨w1.heap.size, 4, none⟩) hge (.int .i64 r)).setCell (p := ⟨w1.heap.size, 5, none⟩) hge (.int .i64 m)).setCell (p := ⟨w1.heap.size, 6, none⟩) hge (.slice (some ⟨w1.heap.size + 1, 0, none⟩) t t)))
          clear hne hge
          clear n1 n2 n3 n4 n5 n6 n7 n8 n9 a1 a2 a3 a4 a5 a6 a7 a8 a9 x1 x2 x3 x4 x5 x6 x7 x8 x9 y1 y2 y3 y4 y5 y6 y7 y8 y9 z1 z2 z3 z4 z5 z6 z7 z8 z9 f0 f1 f2 f3 f4 f5 f6 g0 g1 g2 g3 g4 g5 g6 hrA hrB
          go_wp2
          go_meet
          case rel => exact ⟨w1.heap.size, w1.heap.size + 1, rfl, Q1.out, Q2.out, ⟨by omega, Nat.le_refl _⟩, Q3.out⟩
      case rest =>
        obtain ⟨q5, gs, rfl, K1, K2, K3, K4⟩ := hcut
        clear n1 n2 n3 n4 n5 n6 n7 n8 n9 a1 a2 a3 a4 a5 a6 a7 a8 a9 x1 x2 x3 x4 x5 x6 x7 x8 x9 y1 y2 y3 y4 y5 y6 y7 y8 y9 z1 z2 z3 z4 z5 z6 z7 z8 z9 f0 f1 f2 f3 f4 f5 f6 g0 g1 g2 g3 g4 g5 g6 hrA hrB
        obtain ⟨wz, hwz⟩ : ∃ z, z = wc := ⟨_, rfl⟩
        subst hwz
        have KN := hide (HB0.out.below K4.out)
        have KP := hide (HB1.out.below K4.out)
        have h6 := K1.out.cell 6 rfl
        have n6 := KN.out.cell 6 rfl
        have n9 := KN.out.cell 9 rfl
        have hit : i < t := by omega
        obtain ⟨z1, z2, z3, z4, z5⟩ := K2.out.put tv1 (List.length_replicate) hit d
        obtain ⟨⟨u0, y0⟩, x0⟩ := z1 0 (by decide)
        have hm1 : i * 1 = i := Nat.mul_one i
        rw [hm1] at y0 x0 z2 z3
        rw [Nat.add_zero] at y0 x0
        replace z2 : TxOwn (wz.setCell ⟨gs, i, none⟩ (.string d)) w1.heap.size (.slice (some ⟨gs, 0, none⟩) t t) ((List.replicate t ⟨#[]⟩).set i d) := z2
        replace z3 : wz.grownBy (wz.setCell ⟨gs, i, none⟩ (.string d)) (some gs) := z3
        have hpg : p ≠ gs := by
          have h1 := HB1.out.lt
          omega
        have Z2 := hide z2
        have Z3 := hide (K4.out.grown z3 K4.out.size (fun j e => by cases e; exact z4))
        have B5 := hide (K1.out.other ⟨gs, i, none⟩ (.string d) K3.out.1)
        have BP := hide (KP.out.other ⟨gs, i, none⟩ (.string d) hpg)
        have HPG := hide hpg
        clear z1 z2 z3 z4 z5 hpg hm1 KN KP K1 K2 HBB HCA HCB HOA HOB HHX hAs hBs hAl
        go_upto_region 6 with fail
        obtain ⟨W8, hW8⟩ : ∃ W8, wz.setCell ⟨gs, i, none⟩ (.string d) = W8 := ⟨_, rfl⟩
        rw [hW8] at Z2 Z3 B5 BP
        simp only [hW8]
        clear h6 n6 n9 y0 x0 hW8
        have c0 := B5.out.cell 0 rfl
        have c1 := B5.out.cell 1 rfl
        have c2 := B5.out.cell 2 rfl
        have c3 := B5.out.cell 3 rfl
        have c4 := B5.out.cell 4 rfl
        have c5 := B5.out.cell 5 rfl
        have c6 := B5.out.cell 6 rfl
        have g0 := BP.out.cell 0 rfl
        have g1 := BP.out.cell 1 rfl
        have g2 := BP.out.cell 2 rfl
        have g3 := BP.out.cell 3 rfl
        have g4 := BP.out.cell 4 rfl
        have g5 := BP.out.cell 5 rfl
        have g6 := BP.out.cell 6 rfl
        have f0 := BP.out.frozen 0
        have f1 := BP.out.frozen 1
        have f2 := BP.out.frozen 2
        have f3 := BP.out.frozen 3
        have f4 := BP.out.frozen 4
        have f5 := BP.out.frozen 5
        have f6 := BP.out.frozen 6
        have hge : w.heap.size ≤ p := Nat.le_of_lt HP.out
        have hne : (Value.slice (some ⟨gs, 0, none⟩) t t).ownBlock ≠ some p := by
          intro h2
          exact HPG.out (by simpa [Value.ownBlock] using h2.symm)
        have Q1 := hide ((((((((BP.out.set 0 (.int .i64 pt)).set 1 (.int .i64 st)).set 2 (.int .i64 (t : Int))).set 3 (.int .i64 b)).set 4 (.int .i64 r)).set 5 (.int .i64 m)).set 6 (.slice (some ⟨gs, 0, none⟩) t t)))
        have Q2 := hide ((((((((Z2.out.far (p := ⟨p, 0, none⟩) hne (.int .i64 pt)).far (p := ⟨p, 1, none⟩) hne (.int .i64 st)).far (p := ⟨p, 2, none⟩) hne (.int .i64 (t : Int))).far (p := ⟨p, 3, none⟩) hne (.int .i64 b)).far (p := ⟨p, 4, none⟩) hne (.int .i64 r)).far (p := ⟨p, 5, none⟩) hne (.int .i64 m)).far (p := ⟨p, 6, none⟩) hne (.slice (some ⟨gs, 0, none⟩) t t)))
        have Q3 := hide (((((((((chain HD.out Z3.out).setCell (p := ⟨p, 0, none⟩) hge (.int .i64 pt)).setCell (p := ⟨p, 1, none⟩) hge (.int .i64 st)).setCell (p := ⟨p, 2, none⟩) hge (.int .i64 (t : Int))).setCell (p := ⟨p, 3, none⟩) hge (.int .i64 b)).setCell (p := ⟨p, 4, none⟩) hge (.int .i64 r)).setCell (p := ⟨p, 5, none⟩) hge (.int .i64 m)).setCell (p := ⟨p, 6, none⟩) hge (.slice (some ⟨gs, 0, none⟩) t t)))
        clear hge hne
        go_wp2
        generalize (((((((W8.setCell ⟨p, 0, none⟩ (.int .i64 pt)).setCell ⟨p, 1, none⟩ (.int .i64 st)).setCell ⟨p, 2, none⟩ (.int .i64 (t : Int))).setCell ⟨p, 3, none⟩ (.int .i64 b)).setCell ⟨p, 4, none⟩ (.int .i64 r)).setCell ⟨p, 5, none⟩ (.int .i64 m)).setCell ⟨p, 6, none⟩ (.slice (some ⟨gs, 0, none⟩) t t)) = W9 at *
        have e0 := Q1.out.cell 0 rfl
        have e1 := Q1.out.cell 1 rfl
        have e2 := Q1.out.cell 2 rfl
        have e3 := Q1.out.cell 3 rfl
        have e4 := Q1.out.cell 4 rfl
        have e5 := Q1.out.cell 5 rfl
        have e6 := Q1.out.cell 6 rfl
        refine bodyPost_ret (v := .tuple #[.agg #[.int .i64 pt, .int .i64 st, .int .i64 (t : Int), .int .i64 b, .int .i64 r, .int .i64 m, .slice (some ⟨gs, 0, none⟩) t t], .int .i64 0]) (by simp [results, Tryz.results9, go_sem, e0, e1, e2, e3, e4, e5, e6]) rfl ?_
        exact ⟨.slice (some ⟨gs, 0, none⟩) t t, by rw [HS.out.1, HBE.out]; rfl, by rw [HS.out.2]; exact Q2.out.weaken HD.out.size, Q3.out⟩
  · have HS : Hid (begS N = zSg ∧ begP N = []) := by
      unfold Hid begS begP
      rw [if_neg hc, if_neg hc]
      exact ⟨rfl, rfl⟩
    obtain ⟨R, hR⟩ : ∃ R, begE N = R := ⟨_, rfl⟩
    rw [hR] at hc ⊢
    have q1 : ((R : Int) == 0) = false := by simp; omega
    have q2 : ((R : Int) != 0) = true := by simp; omega
    have HRR := hide hR
    clear f0 f1 f2 f3 f4 f5 f6 g0 g1 g2 g3 g4 g5 g6 hR
    go_upto_region 3 with fail
    obtain ⟨q, hqp⟩ : ∃ q, q = p := ⟨_, rfl⟩
    subst hqp
    have g0 := HB1.out.cell 0 rfl
    have g1 := HB1.out.cell 1 rfl
    have g2 := HB1.out.cell 2 rfl
    have g3 := HB1.out.cell 3 rfl
    have g4 := HB1.out.cell 4 rfl
    have g5 := HB1.out.cell 5 rfl
    have g6 := HB1.out.cell 6 rfl
    have f0 := HB1.out.frozen 0
    have f1 := HB1.out.frozen 1
    have f2 := HB1.out.frozen 2
    have f3 := HB1.out.frozen 3
    have f4 := HB1.out.frozen 4
    have f5 := HB1.out.frozen 5
    have f6 := HB1.out.frozen 6
    have Q1 := hide (HB1.out.sets [.int .i64 0, .int .i64 0, .int .i64 0, .int .i64 0, .int .i64 0, .int .i64 0, .slice none 0 0] rfl)
    have Q3 := hide (below_sets (Nat.le_of_lt HP.out) [.int .i64 0, .int .i64 0, .int .i64 0, .int .i64 0, .int .i64 0, .int .i64 0, .slice none 0 0] 0 HD.out)
    go_wp2
    obtain ⟨W9, hW9⟩ : ∃ W9, (((((((w1.setCell ⟨q, 0, none⟩ (.int .i64 0)).setCell ⟨q, 1, none⟩ (.int .i64 0)).setCell ⟨q, 2, none⟩ (.int .i64 0)).setCell ⟨q, 3, none⟩ (.int .i64 0)).setCell ⟨q, 4, none⟩ (.int .i64 0)).setCell ⟨q, 5, none⟩ (.int .i64 0)).setCell ⟨q, 6, none⟩ (.slice none 0 0)) = W9 := ⟨_, rfl⟩
    simp only [hW9]
    rw [show World.setCells w1 q 0 [.int .i64 0, .int .i64 0, .int .i64 0, .int .i64 0, .int .i64 0, .int .i64 0, .slice none 0 0] = W9 from hW9] at Q1 Q3
    clear hW9
    have e0 := Q1.out.cell 0 rfl
    have e1 := Q1.out.cell 1 rfl
    have e2 := Q1.out.cell 2 rfl
    have e3 := Q1.out.cell 3 rfl
    have e4 := Q1.out.cell 4 rfl
    have e5 := Q1.out.cell 5 rfl
    have e6 := Q1.out.cell 6 rfl
    refine bodyPost_ret (v := .tuple #[.agg #[.int .i64 0, .int .i64 0, .int .i64 0, .int .i64 0, .int .i64 0, .int .i64 0, .slice none 0 0], .int .i64 (R : Int)]) (by simp [results, Tryz.results9, go_sem, e0, e1, e2, e3, e4, e5, e6]) rfl ?_
    exact ⟨.slice none 0 0, by rw [HS.out.1, HRR.out]; rfl, by rw [HS.out.2]; exact World.ownsRow_nil _ _ _ _, Q3.out⟩
end Go.Proofs.YtdbciciljeainaaGreatDoor
namespace Go.Proofs.YtdbciciljeainaaGreatDoor
open Go.RowKit FerryCrc
set_option linter.unusedVariables false
set_option linter.unusedSimpArgs false

set_option maxRecDepth 100000 in
set_option maxHeartbeats 4000000 in
theorem rsameS_any (s : Sg) (a a2 : Option Addr) (n c c2 : Nat) (P : List ByteArray) {w : World} (hA : Txs w a n c P) (hB : Txs w a2 n c2 P) (hn32 : n ≤ 4611686018427387904) : Calls Tryz.prog 11 #[.agg (s.cells (.slice a n c)).toArray, .agg (s.cells (.slice a2 n c2)).toArray] w fun e w' => e = .returned (.bool true) ∧ Below w.heap.size w w' := by
  obtain ⟨pt, st, tt, b, r, m⟩ := s
  unfold Sg.cells
  simp only
  obtain ⟨W, hW, B0, B1, D0⟩ := box2 w [.int .i64 pt, .int .i64 st, .int .i64 tt, .int .i64 b, .int .i64 r, .int .i64 m, .slice a n c] 26 [.int .i64 pt, .int .i64 st, .int .i64 tt, .int .i64 b, .int .i64 r, .int .i64 m, .slice a2 n c2] 26
  obtain ⟨q, hq⟩ : ∃ q, w.heap.size + 1 = q := ⟨_, rfl⟩
  rw [hq] at B1
  have HB0 := hide B0
  have HB1 := hide B1
  have HWD := hide hW
  have HQQ := hide hq
  have HD := hide D0
  have HA := hide (hA.below D0)
  have HB := hide (hB.below D0)
  have hFs := hA.size
  clear B0 B1 D0 hW hq hA hB
  go_enter Tryz.func11, Tryz.ntmps11
  go_upto_region 1 with fail
  have hW := HWD.out
  have hq := HQQ.out
  clear HWD HQQ
  simp only [hW, hq]
  clear hW hq
  have g0 := HB0.out.cell 0 rfl
  have g1 := HB0.out.cell 1 rfl
  have g2 := HB0.out.cell 2 rfl
  have g3 := HB0.out.cell 3 rfl
  have g4 := HB0.out.cell 4 rfl
  have g5 := HB0.out.cell 5 rfl
  have g6 := HB0.out.cell 6 rfl
  have c0 := HB1.out.cell 0 rfl
  have c1 := HB1.out.cell 1 rfl
  have c2 := HB1.out.cell 2 rfl
  have c3 := HB1.out.cell 3 rfl
  have c4 := HB1.out.cell 4 rfl
  have c5 := HB1.out.cell 5 rfl
  have c6 := HB1.out.cell 6 rfl
  have HQ := xid_neqb (b := b) (r := r) (m := m) (b2 := b) (r2 := r) (m2 := m) (y := true) (by simp)
  have hgt : Tryz.prog.eqGuardType Tryz.prog.depth 23 = false := by kernel_rfl
  go_wp2_with fail
  clear g0 g1 g2 g3 g4 g5 g6 c0 c1 c2 c3 c4 c5 c6 HQ hgt
  go_loopw [5] (fun i wr => ∃ k : Nat, k ≤ n ∧ i = .int .i64 (k : Int) ∧ Hid (Below W.heap.size W wr)) (fun i _ => n - (intOf i).toNat)
  case atStart => exact ⟨0, Nat.zero_le _, rfl, Below.refl _ _⟩
  case round =>
    obtain ⟨k, hk, rfl, HBW⟩ := hrel
    have g6 := (HB0.out.below HBW.out).cell 6 rfl
    have c6 := (HB1.out.below HBW.out).cell 6 rfl
    by_cases hlt : k < n
    · obtain ⟨y, hy⟩ : ∃ y, P[k]? = some y := ⟨_, List.getElem?_eq_getElem (by omega)⟩
      obtain ⟨b1, o1, rfl, hc1⟩ := (HA.out.below HBW.out).at tv1 (by decide) hy
      obtain ⟨b2, o2, rfl, hc2⟩ := (HB.out.below HBW.out).at tv1 (by decide) hy
      have y1 := hc1 0 _ rfl
      have y2 := hc2 0 _ rfl
      rw [Nat.mul_one, Nat.add_zero] at y1 y2
      have hk1 : (k : Int) < (n : Int) := by omega
      clear hc1 hc2 hy
      go_wp2_with fail
      go_quiet (fail)
      go_wp2
      exact ⟨⟨k + 1, by omega, by simp, ⟨HBW.out.os, HBW.out.tape, HBW.out.output, HBW.out.size, HBW.out.block⟩⟩, by simp [intOf]; omega⟩
    · obtain rfl : k = n := by omega
      have hnk : ¬ (k : Int) < (k : Int) := by omega
      go_wp2
      go_ret
      exact ⟨rfl, chain HD.out HBW.out⟩
end Go.Proofs.YtdbciciljeainaaGreatDoor
