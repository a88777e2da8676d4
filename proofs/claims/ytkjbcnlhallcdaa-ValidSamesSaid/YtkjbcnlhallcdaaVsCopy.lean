/-
  valid's Copy: the same state, in memory of its own.
-/
import Derived.Test.YtkjbcnlhallcdaaVsInto
namespace Go.Proofs.Ytkjbcnlhallcdaa
open Go.RowKit FerryCrc
set_option linter.unusedVariables false
set_option linter.unusedSimpArgs false

theorem bl_low {w w' : World} {g B : Nat} {cs : List Value} (h : Bl w g cs) (hg : g < B) (hb : Below B w w') : Bl w' g cs :=
  ⟨fun j v hv => by rw [hb.cell (p := ⟨g, j, none⟩) hg]; exact h.cell j v hv, fun j => by rw [hb.frozen (p := ⟨g, j, none⟩) hg]; exact h.free j⟩
theorem state_cells {w : World} {cs : List Value} {s : Sk} (h : Sr w cs s) : cs.length = 10 := by
  obtain ⟨a3, n3, c3, r3, a4, n4, c4, r4, a5, n5, c5, r5, a6, n6, c6, r6, a7, n7, c7, r7, a8, n8, c8, r8, a9, n9, c9, r9, rfl, _⟩ := h
  rfl
set_option maxRecDepth 100000 in
set_option maxHeartbeats 4000000 in
theorem copy_any (w : World) (s : Sk) (cs : List Value) (hs : Sr w cs s) :
    Calls Try.prog 11 #[.agg cs.toArray] w fun e w' => ∃ cs', e = .returned (.agg cs'.toArray) ∧ Sr w' cs' s ∧ Below w.heap.size w w' := by
  have HS := hide hs
  obtain ⟨a3, n3, c3, r3, a4, n4, c4, r4, a5, n5, c5, r5, a6, n6, c6, r6, a7, n7, c7, r7, a8, n8, c8, r8, a9, n9, c9, r9, ecs, h3, h4, h5, h6, h7, h8, h9⟩ := hs
  have H3 := hide h3
  have H4 := hide h4
  have H5 := hide h5
  subst ecs
  clear h3 h4 h5 h6 h7 h8 h9
  have X1 := one_below w (.cells #[.int .i64 s.id, .int .i64 s.frame, .int .i64 s.epoch, .slice a3 n3 c3, .slice a4 n4 c4, .slice a5 n5 c5, .slice a6 n6 c6, .slice a7 n7 c7, .slice a8 n8 c8, .slice a9 n9 c9] 29)
  have X2 := one_below (w.alloc (.cells #[.int .i64 s.id, .int .i64 s.frame, .int .i64 s.epoch, .slice a3 n3 c3, .slice a4 n4 c4, .slice a5 n5 c5, .slice a6 n6 c6, .slice a7 n7 c7, .slice a8 n8 c8, .slice a9 n9 c9] 29)) (.cells #[.int .i64 0, .int .i64 0, .int .i64 0, .slice none 0 0, .slice none 0 0, .slice none 0 0, .slice none 0 0, .slice none 0 0, .slice none 0 0, .slice none 0 0] 29)
  have BX0 := bl_alloc w #[.int .i64 s.id, .int .i64 s.frame, .int .i64 s.epoch, .slice a3 n3 c3, .slice a4 n4 c4, .slice a5 n5 c5, .slice a6 n6 c6, .slice a7 n7 c7, .slice a8 n8 c8, .slice a9 n9 c9] 29
  have BX := hide (BX0.below (by simp) X2)
  have BG0 := bl_alloc (w.alloc (.cells #[.int .i64 s.id, .int .i64 s.frame, .int .i64 s.epoch, .slice a3 n3 c3, .slice a4 n4 c4, .slice a5 n5 c5, .slice a6 n6 c6, .slice a7 n7 c7, .slice a8 n8 c8, .slice a9 n9 c9] 29)) #[.int .i64 0, .int .i64 0, .int .i64 0, .slice none 0 0, .slice none 0 0, .slice none 0 0, .slice none 0 0, .slice none 0 0, .slice none 0 0, .slice none 0 0] 29
  rw [show (w.alloc (.cells #[.int .i64 s.id, .int .i64 s.frame, .int .i64 s.epoch, .slice a3 n3 c3, .slice a4 n4 c4, .slice a5 n5 c5, .slice a6 n6 c6, .slice a7 n7 c7, .slice a8 n8 c8, .slice a9 n9 c9] 29)).heap.size = w.heap.size + 1 by simp] at BG0
  have BG := hide BG0
  have HB := hide (chain X1 X2)
  have hz : ((w.alloc (.cells #[.int .i64 s.id, .int .i64 s.frame, .int .i64 s.epoch, .slice a3 n3 c3, .slice a4 n4 c4, .slice a5 n5 c5, .slice a6 n6 c6, .slice a7 n7 c7, .slice a8 n8 c8, .slice a9 n9 c9] 29)).alloc (.cells #[.int .i64 0, .int .i64 0, .int .i64 0, .slice none 0 0, .slice none 0 0, .slice none 0 0, .slice none 0 0, .slice none 0 0, .slice none 0 0, .slice none 0 0] 29)).heap.size = w.heap.size + 1 + 1 := by simp
  clear X1 X2 BX0 BG0
  go_enter Try.func11, Try.ntmps11
  go_upto_region 1 with fail
  generalize (w.alloc (.cells #[.int .i64 s.id, .int .i64 s.frame, .int .i64 s.epoch, .slice a3 n3 c3, .slice a4 n4 c4, .slice a5 n5 c5, .slice a6 n6 c6, .slice a7 n7 c7, .slice a8 n8 c8, .slice a9 n9 c9] 29)).alloc (.cells #[.int .i64 0, .int .i64 0, .int .i64 0, .slice none 0 0, .slice none 0 0, .slice none 0 0, .slice none 0 0, .slice none 0 0, .slice none 0 0, .slice none 0 0] 29) = W0 at *
  have HZ := hide hz
  have hl0 : Hid (w.heap.size < W0.heap.size) := by unfold Hid; omega
  have hl1 : Hid (w.heap.size + 1 < W0.heap.size) := by unfold Hid; omega
  clear hz
  have HH : Hid (∀ wz, Below W0.heap.size W0 wz → wz.cell? ⟨w.heap.size, 0, none⟩ = some (.int .i64 s.id) ∧ wz.cell? ⟨w.heap.size, 1, none⟩ = some (.int .i64 s.frame) ∧ wz.cell? ⟨w.heap.size, 2, none⟩ = some (.int .i64 s.epoch) ∧ wz.cell? ⟨w.heap.size, 3, none⟩ = some (.slice a3 n3 c3) ∧ wz.cell? ⟨w.heap.size, 4, none⟩ = some (.slice a4 n4 c4) ∧ wz.cell? ⟨w.heap.size, 5, none⟩ = some (.slice a5 n5 c5) ∧ wz.cell? ⟨w.heap.size, 6, none⟩ = some (.slice a6 n6 c6) ∧ wz.cell? ⟨w.heap.size, 7, none⟩ = some (.slice a7 n7 c7) ∧ wz.cell? ⟨w.heap.size, 8, none⟩ = some (.slice a8 n8 c8) ∧ wz.cell? ⟨w.heap.size, 9, none⟩ = some (.slice a9 n9 c9)) := fun wz hz =>
    have h := BX.out.below hl0.out hz
    ⟨h.cell 0 _ rfl, h.cell 1 _ rfl, h.cell 2 _ rfl, h.cell 3 _ rfl, h.cell 4 _ rfl, h.cell 5 _ rfl, h.cell 6 _ rfl, h.cell 7 _ rfl, h.cell 8 _ rfl, h.cell 9 _ rfl⟩
  have HH2 : Hid (∀ wz, Below (w.heap.size + 1) W0 wz → wz.cell? ⟨w.heap.size, 0, none⟩ = some (.int .i64 s.id) ∧ wz.cell? ⟨w.heap.size, 1, none⟩ = some (.int .i64 s.frame) ∧ wz.cell? ⟨w.heap.size, 2, none⟩ = some (.int .i64 s.epoch) ∧ wz.cell? ⟨w.heap.size, 3, none⟩ = some (.slice a3 n3 c3) ∧ wz.cell? ⟨w.heap.size, 4, none⟩ = some (.slice a4 n4 c4) ∧ wz.cell? ⟨w.heap.size, 5, none⟩ = some (.slice a5 n5 c5) ∧ wz.cell? ⟨w.heap.size, 6, none⟩ = some (.slice a6 n6 c6) ∧ wz.cell? ⟨w.heap.size, 7, none⟩ = some (.slice a7 n7 c7) ∧ wz.cell? ⟨w.heap.size, 8, none⟩ = some (.slice a8 n8 c8) ∧ wz.cell? ⟨w.heap.size, 9, none⟩ = some (.slice a9 n9 c9)) := fun wz hz =>
    have h := bl_low BX.out (by omega) hz
    ⟨h.cell 0 _ rfl, h.cell 1 _ rfl, h.cell 2 _ rfl, h.cell 3 _ rfl, h.cell 4 _ rfl, h.cell 5 _ rfl, h.cell 6 _ rfl, h.cell 7 _ rfl, h.cell 8 _ rfl, h.cell 9 _ rfl⟩
  have HHe := HH.out _ ((Below.refl _ _).drew)
  refine wp_region_held_drew (S := (fun wz => wz.cell? ⟨w.heap.size, 0, none⟩ = some (.int .i64 s.id) ∧ wz.cell? ⟨w.heap.size, 1, none⟩ = some (.int .i64 s.frame) ∧ wz.cell? ⟨w.heap.size, 2, none⟩ = some (.int .i64 s.epoch) ∧ wz.cell? ⟨w.heap.size, 3, none⟩ = some (.slice a3 n3 c3) ∧ wz.cell? ⟨w.heap.size, 4, none⟩ = some (.slice a4 n4 c4) ∧ wz.cell? ⟨w.heap.size, 5, none⟩ = some (.slice a5 n5 c5) ∧ wz.cell? ⟨w.heap.size, 6, none⟩ = some (.slice a6 n6 c6) ∧ wz.cell? ⟨w.heap.size, 7, none⟩ = some (.slice a7 n7 c7) ∧ wz.cell? ⟨w.heap.size, 8, none⟩ = some (.slice a8 n8 c8) ∧ wz.cell? ⟨w.heap.size, 9, none⟩ = some (.slice a9 n9 c9))) (by kernel_rfl) HHe (fun hHeld => ?_)
  refine wpAnyH_take (i := 0) (oi := { dst := some 3, op := Go.Op.load 29 (Go.Operand.tmp 1), type := 29, pos := "valid.go:67", after := #[], guard := none }) (v := ?_) rfl (by kernel_rfl) (by kernel_rfl) (by kernel_rfl) (fun _ _ _ h => h) (Or.inl ⟨by rfl, ?_⟩) (by assumption) ?_
  rotate_left
  · intro w hSw
    try dsimp only at hSw
    go_simp
    try with_reducible rfl
  try simp only [Act.put, List.setIfInBounds_toArray, List.set_cons_zero, List.set_cons_succ]
  refine wpAnyH_take (i := 1) (oi := { dst := some 4, op := Go.Op.load 29 (Go.Operand.tmp 1), type := 29, pos := "valid.go:67", after := #[], guard := none }) (v := ?_) rfl (by kernel_rfl) (by kernel_rfl) (by kernel_rfl) (fun _ _ _ h => h) (Or.inl ⟨by rfl, ?_⟩) (by assumption) ?_
  rotate_left
  · intro w hSw
    try dsimp only at hSw
    go_simp
    try with_reducible rfl
  try simp only [Act.put, List.setIfInBounds_toArray, List.set_cons_zero, List.set_cons_succ]
  refine wpAnyH_ready (rs := [2]) (by kernel_rfl) (by simp) ?_
  refine AllReadyH.cons (o := { dst := some 5, op := Go.Op.call { callee := Go.Callee.value (Go.Operand.func 18), args := #[Go.Operand.tmp 4], argTypes := #[29] }, type := 61, pos := "valid.go:67", after := #[{ on := 1, ground := Go.Ground.data }], guard := none }) rfl (fun K hK => ?_) AllReadyH.nil
  go_simp
  go_at_call 18
  refine (of_any _ _ _ _ _ _ _ _ a3 n3 c3 r3 (H3.out.row.below (chain HB.out ((Below.refl _ _).drew))) a4 n4 c4 r4 (H4.out.row.below (chain HB.out ((Below.refl _ _).drew))) a5 n5 c5 r5 (H5.out.row.below (chain HB.out ((Below.refl _ _).drew))) H3.out.one H4.out.one H5.out.one H3.out.most H4.out.most H5.out.most).mono ?_
  rintro e w5 ⟨x1, d1, x2, d2, x3, d3, rfl, o1, o2, o3, b5⟩
  have O1 := hide (own_lg o1).row
  have O2 := hide (own_lg o2).row
  have O3 := hide (own_lg o3).row
  have B5 := hide (undrewV b5)
  clear o1 o2 o3 b5
  try go_wp2_with fail
  refine hK.out _ _ (HH.out _ B5.out) (fun hHeld2 => ?_)
  clear hK K hHeld HHe
  try simp only [Act.put, List.setIfInBounds_toArray, List.set_cons_zero, List.set_cons_succ]
  refine wpAnyH_ready (rs := [3]) (by kernel_rfl) (by simp) ?_
  refine AllReadyH.cons (o := { dst := some 6, op := Go.Op.call { callee := Go.Callee.value (Go.Operand.func 17), args := #[Go.Operand.tmp 3, Go.Operand.tmp 5], argTypes := #[29, 61] }, type := 29, pos := "valid.go:67", after := #[{ on := 0, ground := Go.Ground.data }, { on := 2, ground := Go.Ground.data }, { on := 2, ground := Go.Ground.chain }], guard := none }) rfl (fun K hK => ?_) AllReadyH.nil
  go_simp
  go_at_call 17
  refine (into_any w5 s [.int .i64 s.id, .int .i64 s.frame, .int .i64 s.epoch, .slice a3 n3 c3, .slice a4 n4 c4, .slice a5 n5 c5, .slice a6 n6 c6, .slice a7 n7 c7, .slice a8 n8 c8, .slice a9 n9 c9] (HS.out.below (chain HB.out B5.out)) x1 n3 d1 r3 (H3.out.at_ O1.out) x2 n4 d2 r4 (H4.out.at_ O2.out) x3 n5 d3 r5 (H5.out.at_ O3.out)).mono ?_
  rintro e w6 ⟨cs', rfl, hs6, b6⟩
  obtain ⟨p3, q3, l3, t3, p4, q4, l4, t4, p5, q5, l5, t5, p6, q6, l6, t6, p7, q7, l7, t7, p8, q8, l8, t8, p9, q9, l9, t9, rfl, _⟩ := hs6.sr
  have SF6 := hide hs6
  have B6 := hide (chain B5.out b6)
  have Z5 : Hid (W0.heap.size ≤ w5.heap.size) := B5.out.size
  have G6 := BG.out.below hl1.out B6.out
  have TS := hide (ten_sets (w0 := W0) (B := w.heap.size + 1) (B6.out.mono (Nat.le_of_lt hl1.out)) (Nat.le_refl _) G6 rfl (.int .i64 s.id) (.int .i64 s.frame) (.int .i64 s.epoch) (.slice p3 q3 l3) (.slice p4 q4 l4) (.slice p5 q5 l5) (.slice p6 q6 l6) (.slice p7 q7 l7) (.slice p8 q8 l8) (.slice p9 q9 l9))
  have HF := hide (HH2.out _ TS.out.1)
  have g0 := G6.cell 0 _ rfl
  have f0 := G6.free 0
  have g1 := G6.cell 1 _ rfl
  have f1 := G6.free 1
  have g2 := G6.cell 2 _ rfl
  have f2 := G6.free 2
  have g3 := G6.cell 3 _ rfl
  have f3 := G6.free 3
  have g4 := G6.cell 4 _ rfl
  have f4 := G6.free 4
  have g5 := G6.cell 5 _ rfl
  have f5 := G6.free 5
  have g6 := G6.cell 6 _ rfl
  have f6 := G6.free 6
  have g7 := G6.cell 7 _ rfl
  have f7 := G6.free 7
  have g8 := G6.cell 8 _ rfl
  have f8 := G6.free 8
  have g9 := G6.cell 9 _ rfl
  have f9 := G6.free 9
  clear hs6 b6 G6
  try go_wp2_with fail
  refine hK.out _ _ (HH.out _ B6.out) (fun hHeld3 => ?_)
  clear hK K hHeld2
  try simp only [Act.put, List.setIfInBounds_toArray, List.set_cons_zero, List.set_cons_succ]
  refine wpAnyH_ready (rs := [4]) (by kernel_rfl) (by simp) ?_
  refine AllReadyH.cons (o := { dst := none, op := Go.Op.store 29 (Go.Operand.tmp 2) (Go.Operand.tmp 6), type := 0, pos := "valid.go:67", after := #[{ on := 3, ground := Go.Ground.data }, { on := 3, ground := Go.Ground.chain }, { on := 0, ground := Go.Ground.phase }, { on := 1, ground := Go.Ground.phase }, { on := 2, ground := Go.Ground.phase }, { on := 3, ground := Go.Ground.phase }], guard := none }) rfl (fun K hK => ?_) AllReadyH.nil
  go_simp
  try go_wp2_with fail
  refine hK.out _ _ HF.out (fun hHeld4 => ?_)
  clear hK K hHeld3 hHeld4
  try simp only [Act.put, List.setIfInBounds_toArray, List.set_cons_zero, List.set_cons_succ]
  refine wpAnyH_done (by kernel_rfl) ?_ _
  go_wp2
  clear g0 f0 g1 f1 g2 f2 g3 f3 g4 f4 g5 f5 g6 f6 g7 f7 g8 f8 g9 f9 HF
  have FIN : Hid (Sr ((((((((((w6.setCell ⟨w.heap.size + 1, 0, none⟩ (.int .i64 s.id)).setCell ⟨w.heap.size + 1, 1, none⟩ (.int .i64 s.frame)).setCell ⟨w.heap.size + 1, 2, none⟩ (.int .i64 s.epoch)).setCell ⟨w.heap.size + 1, 3, none⟩ (.slice p3 q3 l3)).setCell ⟨w.heap.size + 1, 4, none⟩ (.slice p4 q4 l4)).setCell ⟨w.heap.size + 1, 5, none⟩ (.slice p5 q5 l5)).setCell ⟨w.heap.size + 1, 6, none⟩ (.slice p6 q6 l6)).setCell ⟨w.heap.size + 1, 7, none⟩ (.slice p7 q7 l7)).setCell ⟨w.heap.size + 1, 8, none⟩ (.slice p8 q8 l8)).setCell ⟨w.heap.size + 1, 9, none⟩ (.slice p9 q9 l9)) [.int .i64 s.id, .int .i64 s.frame, .int .i64 s.epoch, .slice p3 q3 l3, .slice p4 q4 l4, .slice p5 q5 l5, .slice p6 q6 l6, .slice p7 q7 l7, .slice p8 q8 l8, .slice p9 q9 l9] s) := SF6.out _ (fun b hb => TS.out.2.2.1 b (by have := Z5.out; have := hl1.out; omega))
  have FB : Hid (Below w.heap.size w ((((((((((w6.setCell ⟨w.heap.size + 1, 0, none⟩ (.int .i64 s.id)).setCell ⟨w.heap.size + 1, 1, none⟩ (.int .i64 s.frame)).setCell ⟨w.heap.size + 1, 2, none⟩ (.int .i64 s.epoch)).setCell ⟨w.heap.size + 1, 3, none⟩ (.slice p3 q3 l3)).setCell ⟨w.heap.size + 1, 4, none⟩ (.slice p4 q4 l4)).setCell ⟨w.heap.size + 1, 5, none⟩ (.slice p5 q5 l5)).setCell ⟨w.heap.size + 1, 6, none⟩ (.slice p6 q6 l6)).setCell ⟨w.heap.size + 1, 7, none⟩ (.slice p7 q7 l7)).setCell ⟨w.heap.size + 1, 8, none⟩ (.slice p8 q8 l8)).setCell ⟨w.heap.size + 1, 9, none⟩ (.slice p9 q9 l9))) := HB.out.trans (TS.out.1.mono (by omega))
  have TB := hide TS.out.2.1
  clear TS SF6 HH HH2
  generalize (((((((((w6.setCell ⟨w.heap.size + 1, 0, none⟩ (.int .i64 s.id)).setCell ⟨w.heap.size + 1, 1, none⟩ (.int .i64 s.frame)).setCell ⟨w.heap.size + 1, 2, none⟩ (.int .i64 s.epoch)).setCell ⟨w.heap.size + 1, 3, none⟩ (.slice p3 q3 l3)).setCell ⟨w.heap.size + 1, 4, none⟩ (.slice p4 q4 l4)).setCell ⟨w.heap.size + 1, 5, none⟩ (.slice p5 q5 l5)).setCell ⟨w.heap.size + 1, 6, none⟩ (.slice p6 q6 l6)).setCell ⟨w.heap.size + 1, 7, none⟩ (.slice p7 q7 l7)).setCell ⟨w.heap.size + 1, 8, none⟩ (.slice p8 q8 l8)).setCell ⟨w.heap.size + 1, 9, none⟩ (.slice p9 q9 l9) = WF at *
  have e0 := TB.out.cell 0 _ rfl
  have e1 := TB.out.cell 1 _ rfl
  have e2 := TB.out.cell 2 _ rfl
  have e3 := TB.out.cell 3 _ rfl
  have e4 := TB.out.cell 4 _ rfl
  have e5 := TB.out.cell 5 _ rfl
  have e6 := TB.out.cell 6 _ rfl
  have e7 := TB.out.cell 7 _ rfl
  have e8 := TB.out.cell 8 _ rfl
  have e9 := TB.out.cell 9 _ rfl
  (try simp only [Exit.inBlock, Exit.then])
  refine bodyPost_ret (v := .agg #[.int .i64 s.id, .int .i64 s.frame, .int .i64 s.epoch, .slice p3 q3 l3, .slice p4 q4 l4, .slice p5 q5 l5, .slice p6 q6 l6, .slice p7 q7 l7, .slice p8 q8 l8, .slice p9 q9 l9]) (by simp [results, Try.results11, go_sem, e0, e1, e2, e3, e4, e5, e6, e7, e8, e9]) rfl ?_
  exact ⟨[.int .i64 s.id, .int .i64 s.frame, .int .i64 s.epoch, .slice p3 q3 l3, .slice p4 q4 l4, .slice p5 q5 l5, .slice p6 q6 l6, .slice p7 q7 l7, .slice p8 q8 l8, .slice p9 q9 l9], rfl, FIN.out, FB.out⟩
end Go.Proofs.Ytkjbcnlhallcdaa
