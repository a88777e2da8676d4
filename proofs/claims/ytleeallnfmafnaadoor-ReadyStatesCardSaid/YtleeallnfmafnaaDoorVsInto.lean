/-
  ready's Into: a state with its lists laid anew.
-/
import Derived.Test.YtleeallnfmafnaaDoorVsBox
namespace Go.Proofs.YtleeallnfmafnaaDoor.Vv
open Go.RowKit FerryCrc
set_option linter.unusedVariables false
set_option linter.unusedSimpArgs false

theorem io_boxes (w : World) (S : List Value) (x y z : Value) : Io w (((w.alloc (.cells S.toArray 29)).alloc (.cells #[x, y, z] 34)).alloc (.cells #[.int .i64 0, .int .i64 0, .int .i64 0, .slice none 0 0, .slice none 0 0, .slice none 0 0, .slice none 0 0, .slice none 0 0, .slice none 0 0, .slice none 0 0] 29)) (w.heap.size + 3) S [x, y, z] [] := by
  have X1 := one_below w (.cells S.toArray 29)
  have X2 := one_below (w.alloc (.cells S.toArray 29)) (.cells #[x, y, z] 34)
  have X3 := one_below ((w.alloc (.cells S.toArray 29)).alloc (.cells #[x, y, z] 34)) (.cells #[.int .i64 0, .int .i64 0, .int .i64 0, .slice none 0 0, .slice none 0 0, .slice none 0 0, .slice none 0 0, .slice none 0 0, .slice none 0 0, .slice none 0 0] 29)
  have B1 := bl_alloc w S.toArray 29
  have B2 := bl_alloc (w.alloc (.cells S.toArray 29)) #[x, y, z] 34
  have B3 := bl_alloc ((w.alloc (.cells S.toArray 29)).alloc (.cells #[x, y, z] 34)) #[.int .i64 0, .int .i64 0, .int .i64 0, .slice none 0 0, .slice none 0 0, .slice none 0 0, .slice none 0 0, .slice none 0 0, .slice none 0 0, .slice none 0 0] 29
  have e1 : (w.alloc (.cells S.toArray 29)).heap.size = w.heap.size + 1 := by simp
  have e2 : ((w.alloc (.cells S.toArray 29)).alloc (.cells #[x, y, z] 34)).heap.size = w.heap.size + 2 := by simp
  refine ⟨chain (chain X1 X2) X3, Nat.le_refl _, by simp, ?_, ?_, ?_, fun r hr => by simp at hr⟩
  · have := (B1.below (by simp) X2).below (by rw [e2]; omega) X3
    simpa using this
  · have := B2.below (by simp) X3
    rw [e1] at this
    exact this
  · rw [e2] at B3
    exact B3

set_option maxRecDepth 100000 in
set_option maxHeartbeats 4000000 in
theorem into_any (w : World) (s : Sk) (cs : List Value) (hs : Sr w cs s) (pa : Option Addr) (pn pc : Nat) (P : List Value) (KP : List (List Lit)) (hp : Kr w 64 21 104 pa pn pc P KP) (ra : Option Addr) (rn rc : Nat) (R : List Value) (KR : List (List Lit)) (hr : Kr w 3 1 8 ra rn rc R KR) (ta : Option Addr) (tn tc : Nat) (T : List Value) (KT : List (List Lit)) (ht : Kr w 66 2 16 ta tn tc T KT) :
    Calls Tryd.prog 7 #[.agg cs.toArray, .agg #[.slice pa pn pc, .slice ra rn rc, .slice ta tn tc]] w fun e w' => ∃ cs', e = .returned (.agg cs'.toArray) ∧ Srf w.heap.size w' cs' { s with procs := KP, ready := KR, timers := KT } ∧ Below w.heap.size w w' := by
  obtain ⟨a3, n3, c3, r3, a4, n4, c4, r4, a5, n5, c5, r5, a6, n6, c6, r6, a7, n7, c7, r7, a8, n8, c8, r8, a9, n9, c9, r9, ecs, h3, h4, h5, h6, h7, h8, h9⟩ := hs
  have HP := hide hp
  have HR := hide hr
  have HT := hide ht
  have H6 := hide h6
  have H7 := hide h7
  have H8 := hide h8
  have H9 := hide h9
  have ECS := hide ecs
  have I0 := hide (io_boxes w cs (.slice pa pn pc) (.slice ra rn rc) (.slice ta tn tc))
  clear h3 h4 h5 h6 h7 h8 h9 hp hr ht ecs
  go_enter Tryd.func7, Tryd.ntmps7
  go_upto_region 1 with fail
  generalize ((w.alloc (.cells cs.toArray 29)).alloc (.cells #[.slice pa pn pc, .slice ra rn rc, .slice ta tn tc] 34)).alloc (.cells #[.int .i64 0, .int .i64 0, .int .i64 0, .slice none 0 0, .slice none 0 0, .slice none 0 0, .slice none 0 0, .slice none 0 0, .slice none 0 0, .slice none 0 0] 29) = W0 at *
  have HC := hide (copied_any W0 pa pn pc P (HP.out.row.below I0.out.low) ra rn rc R (HR.out.row.below I0.out.low) ta tn tc T (HT.out.row.below I0.out.low) HP.out.one HR.out.one HT.out.one HP.out.most HR.out.most HT.out.most)
  have d0 := I0.out.tb.cell 0 _ rfl
  have d1 := I0.out.tb.cell 1 _ rfl
  have d2 := I0.out.tb.cell 2 _ rfl
  go_wp2_with fail
  refine Calls.mono HC.out ?_
  rintro e w1 ⟨ap, cp, ai, ci, at', ct, rfl, o1, o2, o3, b1⟩
  have hb0 : w.heap.size + 3 ≤ W0.heap.size := I0.out.top
  have I1 := hide ((((((I0.out.more b1 o1).add o2 hb0).add o3 hb0).table (k := 0) (by simp) (.slice ap pn cp)).table (k := 1) (by simp) (.slice ai rn ci)).table (k := 2) (by simp) (.slice at' tn ct))
  have GB := (I0.out.call b1).tb
  have g0 := GB.cell 0 _ rfl
  have g1 := GB.cell 1 _ rfl
  have g2 := GB.cell 2 _ rfl
  have f0 := GB.free 0
  have f1 := GB.free 1
  have f2 := GB.free 2
  clear GB o1 o2 o3 b1 d0 d1 d2 HC hb0 I0
  go_upto_region 2 with fail
  clear g0 g1 g2 f0 f1 f2
  generalize ((w1.setCell ⟨w.heap.size + 1, 0, none⟩ (.slice ap pn cp)).setCell ⟨w.heap.size + 1, 1, none⟩ (.slice ai rn ci)).setCell ⟨w.heap.size + 1, 2, none⟩ (.slice at' tn ct) = W1 at *
  have hcl : cs.length = 10 := by rw [ECS.out]; rfl
  have HCL := hide hcl
  have J1 := hide (I1.out.state (k := 3) (by omega) (.slice ap pn cp))
  have J2 := hide (J1.out.state (k := 4) (by simp; omega) (.slice ai rn ci))
  have J3 := hide (J2.out.state (k := 5) (by simp; omega) (.slice at' tn ct))
  have t0 : ∀ {wz X C}, Io w wz X C [.slice ap pn cp, .slice ai rn ci, .slice at' tn ct] [(at', tn, ct, 2, T), (ai, rn, ci, 1, R), (ap, pn, cp, 21, P)] → wz.cell? ⟨w.heap.size + 1, 0, none⟩ = some (.slice ap pn cp) ∧ wz.cell? ⟨w.heap.size + 1, 1, none⟩ = some (.slice ai rn ci) ∧ wz.cell? ⟨w.heap.size + 1, 2, none⟩ = some (.slice at' tn ct) := fun h => ⟨h.tb.cell 0 _ rfl, h.tb.cell 1 _ rfl, h.tb.cell 2 _ rfl⟩
  have T0 := hide (t0 I1.out)
  have T1 := hide (t0 J1.out)
  have T2 := hide (t0 J2.out)
  have T3 := hide (t0 J3.out)
  have g3 : W1.cell? ⟨w.heap.size, 3, none⟩ = some (.slice a3 n3 c3) := I1.out.st.cell 3 _ (by rw [ECS.out]; rfl)
  have g4 : W1.cell? ⟨w.heap.size, 4, none⟩ = some (.slice a4 n4 c4) := I1.out.st.cell 4 _ (by rw [ECS.out]; rfl)
  have g5 : W1.cell? ⟨w.heap.size, 5, none⟩ = some (.slice a5 n5 c5) := I1.out.st.cell 5 _ (by rw [ECS.out]; rfl)
  have f3 := I1.out.st.free 3
  have f4 := I1.out.st.free 4
  have f5 := I1.out.st.free 5
  clear t0 hcl
  go_region_held3 (fun wz => wz.cell? ⟨w.heap.size + 1, 0, none⟩ = some (.slice ap pn cp) ∧ wz.cell? ⟨w.heap.size + 1, 1, none⟩ = some (.slice ai rn ci) ∧ wz.cell? ⟨w.heap.size + 1, 2, none⟩ = some (.slice at' tn ct))
    (first | exact T0.out | exact T1.out | exact T2.out | exact T3.out)
    (fail)
  have K3 : Hid (Io w (((W1.setCell ⟨w.heap.size, 3, none⟩ (.slice ap pn cp)).setCell ⟨w.heap.size, 4, none⟩ (.slice ai rn ci)).setCell ⟨w.heap.size, 5, none⟩ (.slice at' tn ct)).drew w1.heap.size [.int .i64 s.id, .int .i64 s.frame, .int .i64 s.epoch, .slice ap pn cp, .slice ai rn ci, .slice at' tn ct, .slice a6 n6 c6, .slice a7 n7 c7, .slice a8 n8 c8, .slice a9 n9 c9] [.slice ap pn cp, .slice ai rn ci, .slice at' tn ct] [(at', tn, ct, 2, T), (ai, rn, ci, 1, R), (ap, pn, cp, 21, P)]) := by
    have := J3.out.drew
    rw [ECS.out] at this
    exact this
  clear J1 J2 J3 T0 T1 T2 T3 g3 g4 g5 f3 f4 f5 I1
  generalize (((W1.setCell ⟨w.heap.size, 3, none⟩ (.slice ap pn cp)).setCell ⟨w.heap.size, 4, none⟩ (.slice ai rn ci)).setCell ⟨w.heap.size, 5, none⟩ (.slice at' tn ct)).drew = W2 at *
  have d6 := K3.out.st.cell 6 _ rfl
  go_wp2_with fail
  refine Calls.mono (clone_bool W2 a6 n6 c6 r6 (H6.out.row.below K3.out.low) H6.out.one H6.out.most) ?_
  rintro e w6 ⟨v6, rfl, o6, b6⟩
  obtain ⟨x6, y6, rfl, _⟩ := RLk.row (.inl o6)
  have Q6 := K3.out.more b6 o6
  have K4 : Hid (Io w (w6.setCell ⟨w.heap.size, 6, none⟩ (.slice x6 n6 y6)) w6.heap.size [.int .i64 s.id, .int .i64 s.frame, .int .i64 s.epoch, .slice ap pn cp, .slice ai rn ci, .slice at' tn ct, .slice x6 n6 y6, .slice a7 n7 c7, .slice a8 n8 c8, .slice a9 n9 c9] [.slice ap pn cp, .slice ai rn ci, .slice at' tn ct] [(x6, n6, y6, 1, r6), (at', tn, ct, 2, T), (ai, rn, ci, 1, R), (ap, pn, cp, 21, P)]) := Q6.state (k := 6) (by simp) (.slice x6 n6 y6)
  have g6 := Q6.st.cell 6 _ rfl
  have f6 := Q6.st.free 6
  clear Q6 o6 b6 d6 K3
  go_upto_region 4 with fail
  clear g6 f6
  generalize w6.setCell ⟨w.heap.size, 6, none⟩ (.slice x6 n6 y6) = W3 at *
  have d7 := K4.out.st.cell 7 _ rfl
  go_wp2_with fail
  refine Calls.mono (clone_int W3 a7 n7 c7 r7 (H7.out.row.below K4.out.low) H7.out.one H7.out.most) ?_
  rintro e w7 ⟨v7, rfl, o7, b7⟩
  obtain ⟨x7, y7, rfl, _⟩ := RLk.row (.inl o7)
  have Q7 := K4.out.more b7 o7
  have K5 : Hid (Io w (w7.setCell ⟨w.heap.size, 7, none⟩ (.slice x7 n7 y7)) w7.heap.size [.int .i64 s.id, .int .i64 s.frame, .int .i64 s.epoch, .slice ap pn cp, .slice ai rn ci, .slice at' tn ct, .slice x6 n6 y6, .slice x7 n7 y7, .slice a8 n8 c8, .slice a9 n9 c9] [.slice ap pn cp, .slice ai rn ci, .slice at' tn ct] [(x7, n7, y7, 1, r7), (x6, n6, y6, 1, r6), (at', tn, ct, 2, T), (ai, rn, ci, 1, R), (ap, pn, cp, 21, P)]) := Q7.state (k := 7) (by simp) (.slice x7 n7 y7)
  have g7 := Q7.st.cell 7 _ rfl
  have f7 := Q7.st.free 7
  clear Q7 o7 b7 d7 K4
  go_upto_region 5 with fail
  clear g7 f7
  generalize w7.setCell ⟨w.heap.size, 7, none⟩ (.slice x7 n7 y7) = W4 at *
  have d8 := K5.out.st.cell 8 _ rfl
  go_wp2_with fail
  refine Calls.mono (clone_port W4 a8 n8 c8 r8 (H8.out.row.below K5.out.low) H8.out.one H8.out.most) ?_
  rintro e w8 ⟨v8, rfl, o8, b8⟩
  obtain ⟨x8, y8, rfl, _⟩ := RLk.row (.inl o8)
  have hM : w.heap.size + 3 ≤ W4.heap.size := Nat.le_trans K5.out.room K5.out.top
  have Q8 := (K5.out.up K5.out.top (Nat.le_refl _)).call b8
  have L0 : Lp (w8.setCell ⟨w.heap.size, 8, none⟩ (.slice x8 n8 y8)) w.heap.size w8.heap.size W4.heap.size 0 (.slice x8 n8 y8) n8 s.ports := (lp_clone H8.out Q8.low o8).box (p := ⟨w.heap.size, 8, none⟩) (Nat.le_refl _) (by show w.heap.size < _; omega) b8.size _
  have K6 : Hid (Io w (w8.setCell ⟨w.heap.size, 8, none⟩ (.slice x8 n8 y8)) W4.heap.size [.int .i64 s.id, .int .i64 s.frame, .int .i64 s.epoch, .slice ap pn cp, .slice ai rn ci, .slice at' tn ct, .slice x6 n6 y6, .slice x7 n7 y7, .slice x8 n8 y8, .slice a9 n9 c9] [.slice ap pn cp, .slice ai rn ci, .slice at' tn ct] [(x7, n7, y7, 1, r7), (x6, n6, y6, 1, r6), (at', tn, ct, 2, T), (ai, rn, ci, 1, R), (ap, pn, cp, 21, P)]) := Q8.state (k := 8) (by simp) (.slice x8 n8 y8)
  have hx8 : ∀ g, x8 = some g → W4.heap.size ≤ g.block ∧ g.block < w8.heap.size := fun g e => by subst e; exact o8.lt _ rfl
  have hy8 : 0 < n8 → ∃ g, x8 = some ⟨g, 0, none⟩ := fun h => by
    obtain ⟨g, c, e, _⟩ := o8.form h
    injection e with e1
    exact ⟨g, e1⟩
  have HX8 := hide hx8
  have H48 := hide b8.size
  have HY8 := hide hy8
  have LL := hide L0
  have hsz : (w8.setCell ⟨w.heap.size, 8, none⟩ (.slice x8 n8 y8)).heap.size = w8.heap.size := by simp [World.setCell]
  have HSZ := hide hsz
  have g8 := Q8.st.cell 8 _ rfl
  have f8 := Q8.st.free 8
  clear Q8 o8 b8 d8 K5 L0 hx8 hy8 hsz
  go_upto_region 6 with fail
  clear g8 f8
  generalize w8.setCell ⟨w.heap.size, 8, none⟩ (.slice x8 n8 y8) = W5 at *
  have e8 := K6.out.st.cell 8 _ rfl
  --LOOP
  have hn8 : n8 ≤ 4398046511104 := by have := H8.out.most; omega
  have hpl := H8.out.size
  go_wp2_with fail
  clear e8
  go_loopw [32] (fun i wr => ∃ k : Nat, k ≤ n8 ∧ i = .int .i64 (k : Int) ∧ Hid (Io w wr W4.heap.size [.int .i64 s.id, .int .i64 s.frame, .int .i64 s.epoch, .slice ap pn cp, .slice ai rn ci, .slice at' tn ct, .slice x6 n6 y6, .slice x7 n7 y7, .slice x8 n8 y8, .slice a9 n9 c9] [.slice ap pn cp, .slice ai rn ci, .slice at' tn ct] [(x7, n7, y7, 1, r7), (x6, n6, y6, 1, r6), (at', tn, ct, 2, T), (ai, rn, ci, 1, R), (ap, pn, cp, 21, P)]) ∧ Hid (Lp wr w.heap.size w8.heap.size W4.heap.size k (.slice x8 n8 y8) n8 s.ports) ∧ Hid (w8.heap.size ≤ wr.heap.size)) (fun i _ => n8 - (intOf i).toNat)
  case atStart => exact ⟨0, by omega, rfl, K6.out, LL.out, Nat.le_of_eq HSZ.out.symm⟩
  case round =>
    clear K6 LL
    obtain ⟨k, hk, rfl, HIo, HLp, HM⟩ := hrel
    by_cases hlt : k < n8
    · obtain ⟨g, hg⟩ := HY8.out (by omega)
      subst hg
      obtain ⟨hg1, hg2⟩ := HX8.out _ rfl
      obtain ⟨p, hp⟩ : ∃ p, s.ports[k]? = some p := ⟨_, List.getElem?_eq_getElem (by rw [hpl]; exact hlt)⟩
      obtain ⟨CS, q1, q2, q3, q4, q5⟩ := HLp.out
      obtain ⟨x, m, d, rs, u1, u2, u3, u4⟩ := q5 k p hp
      have s0 : wr.cell? ⟨g, k * 2, none⟩ = some (.slice x m d) := by rw [q1.cellAt (k * 2) (by omega)]; exact u1
      have sf : wr.frozen? ⟨g, k * 2, none⟩ = false := q1.frozenAt (k * 2)
      have U3 := hide u3
      have HPP := hide hp
      have HSF := hide sf
      have HQ1 := hide q1
      have HG1 := hide hg1
      have HG2 := hide hg2
      have e8 := HIo.out.st.cell 8 _ rfl
      have HH : Hid (∀ wz, Below wr.heap.size wr wz → wz.cell? ⟨w.heap.size, 8, none⟩ = some (.slice (some ⟨g, 0, none⟩) n8 y8)) := fun wz hz => cellB e8 hz
      have HS0 := hide s0
      clear q1 q2 q3 q4 q5 u1 u2 u3 u4 sf hp e8 hg1 hg2
      have hq1 : (k : Int) < (n8 : Int) := by omega
      go_upto_region 9 with fail
      have HHe : wr.drew.cell? ⟨w.heap.size, 8, none⟩ = some (.slice (some ⟨g, 0, none⟩) n8 y8) := HH.out _ ((Below.refl _ _).drew)
      refine wp_region_held_drew (S := fun wz => wz.cell? ⟨w.heap.size, 8, none⟩ = some (.slice (some ⟨g, 0, none⟩) n8 y8)) (by kernel_rfl) HHe (fun hHeld => ?_)
      refine wpAnyH_take (i := 0) (oi := { dst := some 35, op := Go.Op.fieldAddr 29 (Go.Operand.tmp 2) 8, type := 0, pos := "ready.go:41", after := #[], guard := none }) (v := ?_) rfl (by kernel_rfl) (by kernel_rfl) (by kernel_rfl) (fun _ _ _ h => h) (Or.inl ⟨by rfl, ?_⟩) (by assumption) ?_
      rotate_left
      · intro w hSw
        try dsimp only at hSw
        go_simp
        try with_reducible rfl
      try simp only [Act.put, List.setIfInBounds_toArray, List.set_cons_zero, List.set_cons_succ]
      refine wpAnyH_take (i := 1) (oi := { dst := some 36, op := Go.Op.load 26 (Go.Operand.tmp 35), type := 26, pos := "ready.go:41", after := #[{ on := 0, ground := Go.Ground.data }], guard := none }) (v := ?_) rfl (by kernel_rfl) (by kernel_rfl) (by kernel_rfl) (fun _ _ _ h => h) (Or.inl ⟨by rfl, ?_⟩) (by assumption) ?_
      rotate_left
      · intro w hSw
        try dsimp only at hSw
        go_simp
        try with_reducible rfl
      try simp only [Act.put, List.setIfInBounds_toArray, List.set_cons_zero, List.set_cons_succ]
      refine wpAnyH_take (i := 2) (oi := { dst := some 37, op := Go.Op.move (Go.Operand.tmp 5), type := 3, pos := "ready.go:41", after := #[], guard := none }) (v := ?_) rfl (by kernel_rfl) (by kernel_rfl) (by kernel_rfl) (fun _ _ _ h => h) (Or.inl ⟨by rfl, ?_⟩) (by assumption) ?_
      rotate_left
      · intro w hSw
        try dsimp only at hSw
        go_simp
        try with_reducible rfl
      try simp only [Act.put, List.setIfInBounds_toArray, List.set_cons_zero, List.set_cons_succ]
      refine wpAnyH_take (i := 3) (oi := { dst := some 38, op := Go.Op.fieldAddr 29 (Go.Operand.tmp 2) 8, type := 0, pos := "ready.go:41", after := #[], guard := none }) (v := ?_) rfl (by kernel_rfl) (by kernel_rfl) (by kernel_rfl) (fun _ _ _ h => h) (Or.inl ⟨by rfl, ?_⟩) (by assumption) ?_
      rotate_left
      · intro w hSw
        try dsimp only at hSw
        go_simp
        try with_reducible rfl
      try simp only [Act.put, List.setIfInBounds_toArray, List.set_cons_zero, List.set_cons_succ]
      refine wpAnyH_take (i := 4) (oi := { dst := some 39, op := Go.Op.load 26 (Go.Operand.tmp 38), type := 26, pos := "ready.go:41", after := #[{ on := 3, ground := Go.Ground.data }], guard := none }) (v := ?_) rfl (by kernel_rfl) (by kernel_rfl) (by kernel_rfl) (fun _ _ _ h => h) (Or.inl ⟨by rfl, ?_⟩) (by assumption) ?_
      rotate_left
      · intro w hSw
        try dsimp only at hSw
        go_simp
        try with_reducible rfl
      try simp only [Act.put, List.setIfInBounds_toArray, List.set_cons_zero, List.set_cons_succ]
      refine wpAnyH_take (i := 5) (oi := { dst := some 40, op := Go.Op.move (Go.Operand.tmp 5), type := 3, pos := "ready.go:41", after := #[], guard := none }) (v := ?_) rfl (by kernel_rfl) (by kernel_rfl) (by kernel_rfl) (fun _ _ _ h => h) (Or.inl ⟨by rfl, ?_⟩) (by assumption) ?_
      rotate_left
      · intro w hSw
        try dsimp only at hSw
        go_simp
        try with_reducible rfl
      try simp only [Act.put, List.setIfInBounds_toArray, List.set_cons_zero, List.set_cons_succ]
      refine wpAnyH_take (i := 6) (oi := { dst := some 41, op := Go.Op.indexAddr 26 (Go.Operand.tmp 39) (Go.Operand.tmp 40), type := 0, pos := "ready.go:41", after := #[{ on := 4, ground := Go.Ground.data }, { on := 5, ground := Go.Ground.data }], guard := none }) (v := ?_) rfl (by kernel_rfl) (by kernel_rfl) (by kernel_rfl) (fun _ _ _ h => h) (Or.inl ⟨by rfl, ?_⟩) (by assumption) ?_
      rotate_left
      · intro w hSw
        try dsimp only at hSw
        go_simp
        try with_reducible rfl
      try simp only [Act.put, List.setIfInBounds_toArray, List.set_cons_zero, List.set_cons_succ]
      refine wpAnyH_take (i := 7) (oi := { dst := some 42, op := Go.Op.fieldAddr 46 (Go.Operand.tmp 41) 0, type := 0, pos := "ready.go:41", after := #[{ on := 6, ground := Go.Ground.data }], guard := none }) (v := ?_) rfl (by kernel_rfl) (by kernel_rfl) (by kernel_rfl) (fun _ _ _ h => h) (Or.inl ⟨by rfl, ?_⟩) (by assumption) ?_
      rotate_left
      · intro w hSw
        try dsimp only at hSw
        go_simp
        try with_reducible rfl
      try simp only [Act.put, List.setIfInBounds_toArray, List.set_cons_zero, List.set_cons_succ]
      have s1 : wr.drew.cell? ⟨g, k * 2, none⟩ = some (.slice x m d) := s0
      refine wpAnyH_ready (rs := [8]) (by kernel_rfl) (by simp) ?_
      refine AllReadyH.cons (o := { dst := some 43, op := Go.Op.load 44 (Go.Operand.tmp 42), type := 44, pos := "ready.go:41", after := #[{ on := 7, ground := Go.Ground.data }], guard := none }) rfl (fun K hK => ?_) AllReadyH.nil
      go_simp
      try go_wp2_with fail
      refine hK.out _ _ HHe (fun hHeld2 => ?_)
      clear hK K
      try simp only [Act.put, List.setIfInBounds_toArray, List.set_cons_zero, List.set_cons_succ]
      refine wpAnyH_ready (rs := [9]) (by kernel_rfl) (by simp) ?_
      refine AllReadyH.cons (o := { dst := some 44, op := Go.Op.call { callee := Go.Callee.value (Go.Operand.func 19), args := #[Go.Operand.tmp 43], argTypes := #[44] }, type := 44, pos := "ready.go:41", after := #[{ on := 8, ground := Go.Ground.data }], guard := none }) rfl (fun K hK => ?_) AllReadyH.nil
      go_simp
      go_at_call 19
      refine (clone_str _ x m d rs (U3.out.row.below ((Below.refl _ _).drew)) U3.out.one U3.out.most).mono ?_
      rintro e w5 ⟨v5, rfl, o5, b5⟩
      obtain ⟨x5, c5, rfl, hr5⟩ := RLk.row (.inl o5)
      have R5 := hide hr5
      have O5 := hide o5
      have B5 := hide (undrewV b5)
      have c50 := cellB HS0.out B5.out
      have cf5 := (B5.out.frozen (p := ⟨g, k * 2, none⟩) (block_lt_of_cell HS0.out)).trans HSF.out
      clear o5 b5 hr5 s1 s0 hHeld hHeld2 HHe
      try go_wp2_with fail
      refine hK.out _ _ (HH.out _ B5.out) (fun hHeld => ?_)
      clear hK K
      try simp only [Act.put, List.setIfInBounds_toArray, List.set_cons_zero, List.set_cons_succ]
      refine wpAnyH_take (i := 10) (oi := { dst := some 45, op := Go.Op.indexAddr 26 (Go.Operand.tmp 36) (Go.Operand.tmp 37), type := 0, pos := "ready.go:41", after := #[{ on := 1, ground := Go.Ground.data }, { on := 2, ground := Go.Ground.data }, { on := 0, ground := Go.Ground.phase }, { on := 1, ground := Go.Ground.phase }, { on := 2, ground := Go.Ground.phase }, { on := 3, ground := Go.Ground.phase }, { on := 4, ground := Go.Ground.phase }, { on := 5, ground := Go.Ground.phase }, { on := 6, ground := Go.Ground.phase }, { on := 7, ground := Go.Ground.phase }, { on := 8, ground := Go.Ground.phase }, { on := 9, ground := Go.Ground.phase }], guard := none }) (v := ?_) rfl (by kernel_rfl) (by kernel_rfl) (by kernel_rfl) (fun _ _ _ h => h) (Or.inl ⟨by rfl, ?_⟩) (by assumption) ?_
      rotate_left
      · intro w hSw
        try dsimp only at hSw
        go_simp
        try with_reducible rfl
      try simp only [Act.put, List.setIfInBounds_toArray, List.set_cons_zero, List.set_cons_succ]
      refine wpAnyH_take (i := 11) (oi := { dst := some 46, op := Go.Op.fieldAddr 46 (Go.Operand.tmp 45) 0, type := 0, pos := "ready.go:41", after := #[{ on := 10, ground := Go.Ground.data }, { on := 0, ground := Go.Ground.phase }, { on := 1, ground := Go.Ground.phase }, { on := 2, ground := Go.Ground.phase }, { on := 3, ground := Go.Ground.phase }, { on := 4, ground := Go.Ground.phase }, { on := 5, ground := Go.Ground.phase }, { on := 6, ground := Go.Ground.phase }, { on := 7, ground := Go.Ground.phase }, { on := 8, ground := Go.Ground.phase }, { on := 9, ground := Go.Ground.phase }], guard := none }) (v := ?_) rfl (by kernel_rfl) (by kernel_rfl) (by kernel_rfl) (fun _ _ _ h => h) (Or.inl ⟨by rfl, ?_⟩) (by assumption) ?_
      rotate_left
      · intro w hSw
        try dsimp only at hSw
        go_simp
        try with_reducible rfl
      try simp only [Act.put, List.setIfInBounds_toArray, List.set_cons_zero, List.set_cons_succ]
      refine wpAnyH_ready (rs := [12]) (by kernel_rfl) (by simp) ?_
      refine AllReadyH.cons (o := { dst := none, op := Go.Op.store 44 (Go.Operand.tmp 46) (Go.Operand.tmp 44), type := 0, pos := "ready.go:41", after := #[{ on := 11, ground := Go.Ground.data }, { on := 9, ground := Go.Ground.data }, { on := 9, ground := Go.Ground.chain }, { on := 0, ground := Go.Ground.phase }, { on := 1, ground := Go.Ground.phase }, { on := 2, ground := Go.Ground.phase }, { on := 3, ground := Go.Ground.phase }, { on := 4, ground := Go.Ground.phase }, { on := 5, ground := Go.Ground.phase }, { on := 6, ground := Go.Ground.phase }, { on := 7, ground := Go.Ground.phase }, { on := 8, ground := Go.Ground.phase }, { on := 9, ground := Go.Ground.phase }], guard := none }) rfl (fun K hK => ?_) AllReadyH.nil
      go_simp
      try go_wp2_with fail
      refine hK.out _ _ (((HIo.out.call B5.out).far (p := ⟨g, k * 2, none⟩) HG1.out _).st.cell 8 _ rfl) (fun hHeld2 => ?_)
      clear hK K hHeld hHeld2
      try simp only [Act.put, List.setIfInBounds_toArray, List.set_cons_zero, List.set_cons_succ]
      refine wpAnyH_done (by kernel_rfl) ?_ _
      clear c50 cf5 HS0
      have PU := hide ((HLp.out.below B5.out).put (by omega) HG2.out HPP.out (U3.out.at_ R5.out) (fun ad e => by subst e; exact Nat.le_trans HM.out (O5.out.lt _ rfl).1))
      have PI := hide ((HIo.out.call B5.out).far (p := ⟨g, k * 2, none⟩) HG1.out (.slice x5 m c5))
      have PM : Hid (w8.heap.size ≤ (w5.setCell ⟨g, k * 2, none⟩ (.slice x5 m c5)).heap.size) := by
        unfold Hid
        have := B5.out.size
        have := HM.out
        simp [World.setCell]
        omega
      clear HH R5 O5 B5 U3 HQ1 HSF
      generalize w5.setCell ⟨g, k * 2, none⟩ (.slice x5 m c5) = W6 at *
      go_wp2
      go_roundw
      case rel => exact ⟨k + 1, by omega, by go_num, PI.out, PU.out, PM.out⟩
      case measure => simp [intOf]; omega
    · obtain rfl : k = n8 := by omega
      have dk : decide ((k : Int) < (k : Int)) = false := decide_eq_false (by omega)
      have d9 := HIo.out.st.cell 9 _ rfl
      have HM9 : Hid (w.heap.size + 3 ≤ W4.heap.size) := hM
      clear hlt hk
      go_wp2_with fail
      refine Calls.mono (clone_page wr a9 n9 c9 r9 (H9.out.row.below HIo.out.low) H9.out.one H9.out.most) ?_
      rintro e w9 ⟨v9, rfl, o9, b9⟩
      obtain ⟨x9, y9, rfl, _⟩ := RLk.row (.inl o9)
      have Q9 := HIo.out.call b9
      have P9 := own_lg o9
      have N9 : Hid (Io w (w9.setCell ⟨w.heap.size, 9, none⟩ (.slice x9 n9 y9)) W4.heap.size [.int .i64 s.id, .int .i64 s.frame, .int .i64 s.epoch, .slice ap pn cp, .slice ai rn ci, .slice at' tn ct, .slice x6 n6 y6, .slice x7 n7 y7, .slice x8 k y8, .slice x9 n9 y9] [.slice ap pn cp, .slice ai rn ci, .slice at' tn ct] [(x7, n7, y7, 1, r7), (x6, n6, y6, 1, r6), (at', tn, ct, 2, T), (ai, rn, ci, 1, R), (ap, pn, cp, 21, P)]) := Q9.state (k := 9) (by simp) (.slice x9 n9 y9)
      have G9 : Hid (Lg (w9.setCell ⟨w.heap.size, 9, none⟩ (.slice x9 n9 y9)) wr.heap.size w9.heap.size x9 n9 y9 66 r9) := P9.set (p := ⟨w.heap.size, 9, none⟩) (.inl (by have := HIo.out.low.size; have := HIo.out.room; have := HIo.out.top; show w.heap.size < _; omega)) _
      have L9 := hide ((HLp.out.below b9).box (p := ⟨w.heap.size, 9, none⟩) (Nat.le_refl _) (by have := HM9.out; show w.heap.size < _; omega) H48.out (.slice x9 n9 y9))
      have HY9 : Hid (w.heap.size + 3 ≤ wr.heap.size) := Nat.le_trans HIo.out.room HIo.out.top
      have g9 := Q9.st.cell 9 _ rfl
      have f9 := Q9.st.free 9
      clear Q9 P9 o9 b9 d9 HIo HLp
      go_upto_region 12 with fail
      clear g9 f9
      generalize w9.setCell ⟨w.heap.size, 9, none⟩ (.slice x9 n9 y9) = W9 at *
      have s0 := N9.out.st.cell 0 _ rfl
      have t0 := N9.out.an.cell 0 _ rfl
      have f0 := N9.out.an.free 0
      have s1 := N9.out.st.cell 1 _ rfl
      have t1 := N9.out.an.cell 1 _ rfl
      have f1 := N9.out.an.free 1
      have s2 := N9.out.st.cell 2 _ rfl
      have t2 := N9.out.an.cell 2 _ rfl
      have f2 := N9.out.an.free 2
      have s3 := N9.out.st.cell 3 _ rfl
      have t3 := N9.out.an.cell 3 _ rfl
      have f3 := N9.out.an.free 3
      have s4 := N9.out.st.cell 4 _ rfl
      have t4 := N9.out.an.cell 4 _ rfl
      have f4 := N9.out.an.free 4
      have s5 := N9.out.st.cell 5 _ rfl
      have t5 := N9.out.an.cell 5 _ rfl
      have f5 := N9.out.an.free 5
      have s6 := N9.out.st.cell 6 _ rfl
      have t6 := N9.out.an.cell 6 _ rfl
      have f6 := N9.out.an.free 6
      have s7 := N9.out.st.cell 7 _ rfl
      have t7 := N9.out.an.cell 7 _ rfl
      have f7 := N9.out.an.free 7
      have s8 := N9.out.st.cell 8 _ rfl
      have t8 := N9.out.an.cell 8 _ rfl
      have f8 := N9.out.an.free 8
      have s9 := N9.out.st.cell 9 _ rfl
      have t9 := N9.out.an.cell 9 _ rfl
      have f9 := N9.out.an.free 9
      have FIN := hide (into_end N9.out L9.out G9.out HM9.out HY9.out H48.out (.int .i64 s.id) (.int .i64 s.frame) (.int .i64 s.epoch) (.slice ap pn cp) (.slice ai rn ci) (.slice at' tn ct) (.slice x6 n6 y6) (.slice x7 n7 y7) (.slice x8 k y8) (.slice x9 n9 y9))
      go_wp2
      clear s0 t0 f0 s1 t1 f1 s2 t2 f2 s3 t3 f3 s4 t4 f4 s5 t5 f5 s6 t6 f6 s7 t7 f7 s8 t8 f8 s9 t9 f9
      generalize (((((((((W9.setCell ⟨w.heap.size + 1 + 1, 0, none⟩ (.int .i64 s.id)).setCell ⟨w.heap.size + 1 + 1, 1, none⟩ (.int .i64 s.frame)).setCell ⟨w.heap.size + 1 + 1, 2, none⟩ (.int .i64 s.epoch)).setCell ⟨w.heap.size + 1 + 1, 3, none⟩ (.slice ap pn cp)).setCell ⟨w.heap.size + 1 + 1, 4, none⟩ (.slice ai rn ci)).setCell ⟨w.heap.size + 1 + 1, 5, none⟩ (.slice at' tn ct)).setCell ⟨w.heap.size + 1 + 1, 6, none⟩ (.slice x6 n6 y6)).setCell ⟨w.heap.size + 1 + 1, 7, none⟩ (.slice x7 n7 y7)).setCell ⟨w.heap.size + 1 + 1, 8, none⟩ (.slice x8 k y8)).setCell ⟨w.heap.size + 1 + 1, 9, none⟩ (.slice x9 n9 y9) = WF at *
      obtain ⟨z1, z2, z3, z4, z5⟩ := FIN.out
      have e0 := z2.cell 0 _ rfl
      have e1 := z2.cell 1 _ rfl
      have e2 := z2.cell 2 _ rfl
      have e3 := z2.cell 3 _ rfl
      have e4 := z2.cell 4 _ rfl
      have e5 := z2.cell 5 _ rfl
      have e6 := z2.cell 6 _ rfl
      have e7 := z2.cell 7 _ rfl
      have e8 := z2.cell 8 _ rfl
      have e9 := z2.cell 9 _ rfl
      (try simp only [Exit.inBlock, Exit.then])
      refine bodyPost_ret (v := .agg #[.int .i64 s.id, .int .i64 s.frame, .int .i64 s.epoch, .slice ap pn cp, .slice ai rn ci, .slice at' tn ct, .slice x6 n6 y6, .slice x7 n7 y7, .slice x8 k y8, .slice x9 n9 y9]) (by simp [results, Tryd.results7, go_sem, e0, e1, e2, e3, e4, e5, e6, e7, e8, e9]) rfl ?_
      exact ⟨[.int .i64 s.id, .int .i64 s.frame, .int .i64 s.epoch, .slice ap pn cp, .slice ai rn ci, .slice at' tn ct, .slice x6 n6 y6, .slice x7 n7 y7, .slice x8 k y8, .slice x9 n9 y9], rfl, fun W hW => by
        have h48 := H48.out
        have hm9 := HM9.out
        have hy9 := HY9.out
        obtain ⟨r8', hp8⟩ := z4.pr2 (B := w.heap.size) (by omega) (by omega) hW
        exact ⟨ap, pn, cp, P, ai, rn, ci, R, at', tn, ct, T, x6, n6, y6, r6, x7, n7, y7, r7, x8, k, y8, r8', x9, n9, y9, r9, rfl, HP.out.at_ ((z3 (ap, pn, cp, 21, P) (by simp)).same (by omega) hW), HR.out.at_ ((z3 (ai, rn, ci, 1, R) (by simp)).same (by omega) hW), HT.out.at_ ((z3 (at', tn, ct, 2, T) (by simp)).same (by omega) hW), H6.out.at_ ((z3 (x6, n6, y6, 1, r6) (by simp)).same (by omega) hW), H7.out.at_ ((z3 (x7, n7, y7, 1, r7) (by simp)).same (by omega) hW), hp8, H9.out.at_ (z5.same (by omega) hW)⟩, z1⟩
end Go.Proofs.YtleeallnfmafnaaDoor.Vv
