/-
  The document's Copy: the same state, in memory of its own; what is put into its pages then changes nothing else of it.
-/
import Derived.Test.YtkjbcnlhallcdaaVdCopy0
import Derived.LoopTactic
namespace Go.Proofs.Ytkjbcnlhallcdaa
open Go.RowKit FerryCrc
set_option linter.unusedVariables false
set_option linter.unusedSimpArgs false

theorem own_sameC {w w' : World} {base : Nat} {e : TypeId} {sz : Nat} {v : Value} {n : Nat} {cs : List Value} (h : w.ownsRow base e sz v n cs) (hw : ∀ b, base ≤ b → w'.heap[b]? = w.heap[b]?) : w'.ownsRow base e sz v n cs := by
  refine ⟨h.1, ?_⟩
  rcases h.2 with e | ⟨g, cap, cur, e, hg, hh, r⟩
  · exact .inl e
  · exact .inr ⟨g, cap, cur, e, hg, (hw g hg).trans hh, r⟩
/-- append of a row to a row of the call's own, as one step. -/
theorem step_list {w : World} {ops : Array Oper} {o : Oper} {act : Act} {K : Act → World → Prop} {Q : Exit → Act → World → Prop} {EE : Prop} (hgd : o.guard = none) (s x : Operand) (t e : TypeId)
    (ho : o.op = .call { callee := .builtin .append, args := #[s, x], argTypes := #[t, t] }) (ht : Try.prog.underlying t = some (.slice e))
    {size bytes : Nat} (hi : ∃ i z, Try.prog.info? e = some i ∧ i.zero = some z ∧ i.size = size ∧ i.bytes = bytes ∧ z.cells.size = size) (h0 : 0 < size)
    (base : Nat) (v : Value) (n : Nat) (xs : List Value) (hs : act.eval s = v) (hv : w.ownsRow base e size v n xs)
    (a : Option Addr) (m c : Nat) (cs : List Value) (hx : act.eval x = .slice a m c) (hr : Row w a m c size cs) (one : ∀ u ∈ cs, u.oneCell' = true)
    (b1 : n + m ≤ maxLen) (b2 : (n + m) * bytes ≤ 140737488355328) (hbase : base ≤ w.heap.size)
    (h : ∀ v' w', w'.ownsRow base e size v' (n + m) (xs ++ cs) → Below base w w' → K (act.put o.dst v') w') :
    if Region.wanted o (yielded ops act.tmps) = true then Oper.wp Try.prog o act w K Q else EE := by
  obtain ⟨i, z, h2, h3, h4, h5, h6⟩ := hi
  have hw : Region.wanted o (yielded ops act.tmps) = true := by simp [Region.wanted, hgd]
  rw [if_pos hw]
  obtain ⟨v', w', hrun, k1, k2⟩ : ∃ v' w', (Builtin.append_ #[t, t] o.type #[v, .slice a m c]).run Try.prog w = .ok v' w' ∧ w'.ownsRow base e size v' (n + m) (xs ++ cs) ∧ Below base w w' := by
    by_cases hm : m = 0
    · subst hm
      obtain rfl : cs = [] := List.length_eq_zero_iff.1 (by simpa using hr.size)
      obtain ⟨b, cap, rfl, hb⟩ := RLk.row (.inl hv)
      exact ⟨_, w, run_append_empty (P := Try.prog) w t o.type e i ht h2 b a n cap c hb.fit, by simpa using hv, Below.refl _ _⟩
    · match a, hr with
      | none, hr => exact absurd (hr.null rfl).1 hm
      | some ad, hr =>
        have hcell : ∀ j u, cs[j]? = some u → w.cell? (ad.add j) = some u := fun j u hu => by
          obtain ⟨b, off, ha, hc⟩ := hr.cell j u hu
          simp only [Option.some.injEq] at ha
          subst ha
          rw [add_lit']
          exact hc
        obtain ⟨v', w', hrun, k1, k2, _⟩ := run_append_own (P := Try.prog) w base t o.type e i z size bytes ht h2 h3 h4 h5 h6 h0 v n xs hv ad m c cs hr.size hcell one b1 b2 hbase
        exact ⟨v', w', hrun, k1, (Below.refl _ _).grown k2 hbase (fun j e => (World.ownsRow.lt hv j e).1)⟩
  unfold Oper.wp execOp
  simp only [ho, resolve, invoke, builtin, Sem.run_bind, Sem.run_pure, Result.andThen_ok, List.map_toArray, List.map_cons, List.map_nil, hs, hx, hrun]
  exact h v' w' k1 k2

set_option maxRecDepth 100000 in
set_option maxHeartbeats 8000000 in
theorem rcopy_any (w : World) (s : Sk) (cs : List Value) (hs : Sr w cs s) :
    Calls Try.prog 6 #[.agg cs.toArray] w fun e w' => ∃ cs' a9 n9 c9 r9, e = .returned (.agg cs'.toArray) ∧ cs'[9]? = some (.slice a9 n9 c9) ∧ w'.ownsRow w.heap.size 40 66 (.slice a9 n9 c9) n9 r9 ∧ Kr w' 40 66 80 a9 n9 c9 r9 s.pages ∧
      (∀ W K' r', (∀ b, w.heap.size ≤ b → (Value.slice a9 n9 c9).ownBlock ≠ some b → W.heap[b]? = w'.heap[b]?) → Kr W 40 66 80 a9 n9 c9 r' K' → Sr W cs' { s with pages := K' }) ∧ Below w.heap.size w w' := by
  obtain ⟨a3, n3, c3, r3, a4, n4, c4, r4, a5, n5, c5, r5, a6, n6, c6, r6, a7, n7, c7, r7, a8, n8, c8, r8, a9, n9, c9, r9, ecs, h3, h4, h5, h6, h7, h8, h9⟩ := hs
  have H3 := hide h3
  have H4 := hide h4
  have H5 := hide h5
  have H6 := hide h6
  have H7 := hide h7
  have H8 := hide h8
  have H9 := hide h9
  subst ecs
  have I0 := hide (ic_boxes w [.int .i64 s.id, .int .i64 s.frame, .int .i64 s.epoch, .slice a3 n3 c3, .slice a4 n4 c4, .slice a5 n5 c5, .slice a6 n6 c6, .slice a7 n7 c7, .slice a8 n8 c8, .slice a9 n9 c9])
  clear h3 h4 h5 h6 h7 h8 h9
  go_enter Try.func6, Try.ntmps6
  go_upto_region 2 with fail
  generalize ((w.alloc (.cells #[.int .i64 s.id, .int .i64 s.frame, .int .i64 s.epoch, .slice a3 n3 c3, .slice a4 n4 c4, .slice a5 n5 c5, .slice a6 n6 c6, .slice a7 n7 c7, .slice a8 n8 c8, .slice a9 n9 c9] 29)).alloc (.cells #[.int .i64 0, .int .i64 0, .int .i64 0, .slice none 0 0, .slice none 0 0, .slice none 0 0, .slice none 0 0, .slice none 0 0, .slice none 0 0, .slice none 0 0] 29)).alloc (.cells #[.int .i64 s.id, .int .i64 s.frame, .int .i64 s.epoch, .slice a3 n3 c3, .slice a4 n4 c4, .slice a5 n5 c5, .slice a6 n6 c6, .slice a7 n7 c7, .slice a8 n8 c8, .slice a9 n9 c9] 29) = W0 at *
  have d3 := I0.out.src.cell 3 _ rfl
  have BE3 := hide (one_below W0 (.cells #[] 52))
  have de3 := cellB d3 BE3.out
  go_upto_region 3 with (at_builtin; refine append_list rfl (.tmp 6) (.tmp 8) 22 52 rfl Try.underlying22 minfo_proc (by decide) W0.heap.size _ 0 [] rfl (World.ownsRow_lit W0 #[] 0 (Nat.le_refl _) (by decide) rfl) a3 n3 c3 r3 rfl (H3.out.row.below (chain I0.out.low BE3.out)) H3.out.one (by have := H3.out.most; unfold maxLen; omega) (by have := H3.out.most; omega) BE3.out.size ?_; intro v3 w3 h3 b3; rw [List.nil_append, Nat.zero_add] at h3; obtain ⟨x3, y3, rfl, _⟩ := RLk.row (.inl h3); have O3 := hide h3; have Q3 := hide (I0.out.more (BE3.out.trans b3) h3); have g3 := Q3.out.cb.cell 3 _ rfl; have f3 := Q3.out.cb.free 3; clear h3 b3)
  have K2 : Hid (Ic w (w3.setCell ⟨w.heap.size + 1 + 1, 3, none⟩ (.slice x3 n3 y3)) w3.heap.size [.int .i64 s.id, .int .i64 s.frame, .int .i64 s.epoch, .slice a3 n3 c3, .slice a4 n4 c4, .slice a5 n5 c5, .slice a6 n6 c6, .slice a7 n7 c7, .slice a8 n8 c8, .slice a9 n9 c9] [.int .i64 s.id, .int .i64 s.frame, .int .i64 s.epoch, .slice x3 n3 y3, .slice a4 n4 c4, .slice a5 n5 c5, .slice a6 n6 c6, .slice a7 n7 c7, .slice a8 n8 c8, .slice a9 n9 c9] [(x3, n3, y3, 21, r3)]) := Q3.out.c (k := 3) (by simp) (.slice x3 n3 y3)
  clear O3 Q3 g3 f3 d3 de3 BE3 I0
  generalize w3.setCell ⟨w.heap.size + 1 + 1, 3, none⟩ (.slice x3 n3 y3) = W2 at *
  have d4 := K2.out.src.cell 4 _ rfl
  have BE4 := hide (one_below W2 (.cells #[] 3))
  have de4 := cellB d4 BE4.out
  go_upto_region 4 with (at_builtin; refine append_list rfl (.tmp 11) (.tmp 13) 23 3 rfl Try.underlying23 minfo_int (by decide) W2.heap.size _ 0 [] rfl (World.ownsRow_lit W2 #[] 0 (Nat.le_refl _) (by decide) rfl) a4 n4 c4 r4 rfl (H4.out.row.below (chain K2.out.low BE4.out)) H4.out.one (by have := H4.out.most; unfold maxLen; omega) (by have := H4.out.most; omega) BE4.out.size ?_; intro v4 w4 h4 b4; rw [List.nil_append, Nat.zero_add] at h4; obtain ⟨x4, y4, rfl, _⟩ := RLk.row (.inl h4); have O4 := hide h4; have Q4 := hide (K2.out.more (BE4.out.trans b4) h4); have g4 := Q4.out.cb.cell 4 _ rfl; have f4 := Q4.out.cb.free 4; clear h4 b4)
  have K3 : Hid (Ic w (w4.setCell ⟨w.heap.size + 1 + 1, 4, none⟩ (.slice x4 n4 y4)) w4.heap.size [.int .i64 s.id, .int .i64 s.frame, .int .i64 s.epoch, .slice a3 n3 c3, .slice a4 n4 c4, .slice a5 n5 c5, .slice a6 n6 c6, .slice a7 n7 c7, .slice a8 n8 c8, .slice a9 n9 c9] [.int .i64 s.id, .int .i64 s.frame, .int .i64 s.epoch, .slice x3 n3 y3, .slice x4 n4 y4, .slice a5 n5 c5, .slice a6 n6 c6, .slice a7 n7 c7, .slice a8 n8 c8, .slice a9 n9 c9] [(x4, n4, y4, 1, r4), (x3, n3, y3, 21, r3)]) := Q4.out.c (k := 4) (by simp) (.slice x4 n4 y4)
  clear O4 Q4 g4 f4 d4 de4 BE4 K2
  generalize w4.setCell ⟨w.heap.size + 1 + 1, 4, none⟩ (.slice x4 n4 y4) = W3 at *
  have d5 := K3.out.src.cell 5 _ rfl
  have BE5 := hide (one_below W3 (.cells #[] 67))
  have de5 := cellB d5 BE5.out
  go_upto_region 5 with (at_builtin; refine append_list rfl (.tmp 16) (.tmp 18) 24 67 rfl Try.underlying24 minfo_timer (by decide) W3.heap.size _ 0 [] rfl (World.ownsRow_lit W3 #[] 0 (Nat.le_refl _) (by decide) rfl) a5 n5 c5 r5 rfl (H5.out.row.below (chain K3.out.low BE5.out)) H5.out.one (by have := H5.out.most; unfold maxLen; omega) (by have := H5.out.most; omega) BE5.out.size ?_; intro v5 w5 h5 b5; rw [List.nil_append, Nat.zero_add] at h5; obtain ⟨x5, y5, rfl, _⟩ := RLk.row (.inl h5); have O5 := hide h5; have Q5 := hide (K3.out.more (BE5.out.trans b5) h5); have g5 := Q5.out.cb.cell 5 _ rfl; have f5 := Q5.out.cb.free 5; clear h5 b5)
  have K4 : Hid (Ic w (w5.setCell ⟨w.heap.size + 1 + 1, 5, none⟩ (.slice x5 n5 y5)) w5.heap.size [.int .i64 s.id, .int .i64 s.frame, .int .i64 s.epoch, .slice a3 n3 c3, .slice a4 n4 c4, .slice a5 n5 c5, .slice a6 n6 c6, .slice a7 n7 c7, .slice a8 n8 c8, .slice a9 n9 c9] [.int .i64 s.id, .int .i64 s.frame, .int .i64 s.epoch, .slice x3 n3 y3, .slice x4 n4 y4, .slice x5 n5 y5, .slice a6 n6 c6, .slice a7 n7 c7, .slice a8 n8 c8, .slice a9 n9 c9] [(x5, n5, y5, 2, r5), (x4, n4, y4, 1, r4), (x3, n3, y3, 21, r3)]) := Q5.out.c (k := 5) (by simp) (.slice x5 n5 y5)
  clear O5 Q5 g5 f5 d5 de5 BE5 K3
  generalize w5.setCell ⟨w.heap.size + 1 + 1, 5, none⟩ (.slice x5 n5 y5) = W4 at *
  have d6 := K4.out.src.cell 6 _ rfl
  have BE6 := hide (one_below W4 (.cells #[] 4))
  have de6 := cellB d6 BE6.out
  go_upto_region 6 with (at_builtin; refine append_list rfl (.tmp 21) (.tmp 23) 25 4 rfl Try.underlying25 minfo_bool (by decide) W4.heap.size _ 0 [] rfl (World.ownsRow_lit W4 #[] 0 (Nat.le_refl _) (by decide) rfl) a6 n6 c6 r6 rfl (H6.out.row.below (chain K4.out.low BE6.out)) H6.out.one (by have := H6.out.most; unfold maxLen; omega) (by have := H6.out.most; omega) BE6.out.size ?_; intro v6 w6 h6 b6; rw [List.nil_append, Nat.zero_add] at h6; obtain ⟨x6, y6, rfl, _⟩ := RLk.row (.inl h6); have O6 := hide h6; have Q6 := hide (K4.out.more (BE6.out.trans b6) h6); have g6 := Q6.out.cb.cell 6 _ rfl; have f6 := Q6.out.cb.free 6; clear h6 b6)
  have K5 : Hid (Ic w (w6.setCell ⟨w.heap.size + 1 + 1, 6, none⟩ (.slice x6 n6 y6)) w6.heap.size [.int .i64 s.id, .int .i64 s.frame, .int .i64 s.epoch, .slice a3 n3 c3, .slice a4 n4 c4, .slice a5 n5 c5, .slice a6 n6 c6, .slice a7 n7 c7, .slice a8 n8 c8, .slice a9 n9 c9] [.int .i64 s.id, .int .i64 s.frame, .int .i64 s.epoch, .slice x3 n3 y3, .slice x4 n4 y4, .slice x5 n5 y5, .slice x6 n6 y6, .slice a7 n7 c7, .slice a8 n8 c8, .slice a9 n9 c9] [(x6, n6, y6, 1, r6), (x5, n5, y5, 2, r5), (x4, n4, y4, 1, r4), (x3, n3, y3, 21, r3)]) := Q6.out.c (k := 6) (by simp) (.slice x6 n6 y6)
  clear O6 Q6 g6 f6 d6 de6 BE6 K4
  generalize w6.setCell ⟨w.heap.size + 1 + 1, 6, none⟩ (.slice x6 n6 y6) = W5 at *
  have d7 := K5.out.src.cell 7 _ rfl
  have BE7 := hide (one_below W5 (.cells #[] 3))
  have de7 := cellB d7 BE7.out
  go_upto_region 7 with (at_builtin; refine append_list rfl (.tmp 26) (.tmp 28) 23 3 rfl Try.underlying23 minfo_int (by decide) W5.heap.size _ 0 [] rfl (World.ownsRow_lit W5 #[] 0 (Nat.le_refl _) (by decide) rfl) a7 n7 c7 r7 rfl (H7.out.row.below (chain K5.out.low BE7.out)) H7.out.one (by have := H7.out.most; unfold maxLen; omega) (by have := H7.out.most; omega) BE7.out.size ?_; intro v7 w7 h7 b7; rw [List.nil_append, Nat.zero_add] at h7; obtain ⟨x7, y7, rfl, _⟩ := RLk.row (.inl h7); have O7 := hide h7; have Q7 := hide (K5.out.more (BE7.out.trans b7) h7); have g7 := Q7.out.cb.cell 7 _ rfl; have f7 := Q7.out.cb.free 7; clear h7 b7)
  have K6 : Hid (Ic w (w7.setCell ⟨w.heap.size + 1 + 1, 7, none⟩ (.slice x7 n7 y7)) w7.heap.size [.int .i64 s.id, .int .i64 s.frame, .int .i64 s.epoch, .slice a3 n3 c3, .slice a4 n4 c4, .slice a5 n5 c5, .slice a6 n6 c6, .slice a7 n7 c7, .slice a8 n8 c8, .slice a9 n9 c9] [.int .i64 s.id, .int .i64 s.frame, .int .i64 s.epoch, .slice x3 n3 y3, .slice x4 n4 y4, .slice x5 n5 y5, .slice x6 n6 y6, .slice x7 n7 y7, .slice a8 n8 c8, .slice a9 n9 c9] [(x7, n7, y7, 1, r7), (x6, n6, y6, 1, r6), (x5, n5, y5, 2, r5), (x4, n4, y4, 1, r4), (x3, n3, y3, 21, r3)]) := Q7.out.c (k := 7) (by simp) (.slice x7 n7 y7)
  clear O7 Q7 g7 f7 d7 de7 BE7 K5
  generalize w7.setCell ⟨w.heap.size + 1 + 1, 7, none⟩ (.slice x7 n7 y7) = W6 at *
  have d9 := K6.out.src.cell 9 _ rfl
  have BE9 := hide (one_below W6 (.cells #[] 40))
  have de9 := cellB d9 BE9.out
  go_upto_region 8 with (at_builtin; refine append_list rfl (.tmp 31) (.tmp 33) 27 40 rfl Try.underlying27 minfo_page (by decide) W6.heap.size _ 0 [] rfl (World.ownsRow_lit W6 #[] 0 (Nat.le_refl _) (by decide) rfl) a9 n9 c9 r9 rfl (H9.out.row.below (chain K6.out.low BE9.out)) H9.out.one (by have := H9.out.most; unfold maxLen; omega) (by have := H9.out.most; omega) BE9.out.size ?_; intro v9 w9 h9 b9; rw [List.nil_append, Nat.zero_add] at h9; obtain ⟨x9, y9, rfl, _⟩ := RLk.row (.inl h9); have O9 := hide h9; have SZ9 := (BE9.out.trans b9).size; have Q9 := hide (K6.out.call (BE9.out.trans b9)); have g9 := Q9.out.cb.cell 9 _ rfl; have f9 := Q9.out.cb.free 9; clear h9 b9)
  have K7 : Hid (Ic w (w9.setCell ⟨w.heap.size + 1 + 1, 9, none⟩ (.slice x9 n9 y9)) w7.heap.size [.int .i64 s.id, .int .i64 s.frame, .int .i64 s.epoch, .slice a3 n3 c3, .slice a4 n4 c4, .slice a5 n5 c5, .slice a6 n6 c6, .slice a7 n7 c7, .slice a8 n8 c8, .slice a9 n9 c9] [.int .i64 s.id, .int .i64 s.frame, .int .i64 s.epoch, .slice x3 n3 y3, .slice x4 n4 y4, .slice x5 n5 y5, .slice x6 n6 y6, .slice x7 n7 y7, .slice a8 n8 c8, .slice x9 n9 y9] [(x7, n7, y7, 1, r7), (x6, n6, y6, 1, r6), (x5, n5, y5, 2, r5), (x4, n4, y4, 1, r4), (x3, n3, y3, 21, r3)]) := Q9.out.c (k := 9) (by simp) (.slice x9 n9 y9)
  have Z9 : Hid ((w9.setCell ⟨w.heap.size + 1 + 1, 9, none⟩ (.slice x9 n9 y9)).heap.size = w9.heap.size) := by unfold Hid; simp [World.setCell]
  have HX9 : Hid (W6.heap.size ≤ w9.heap.size ∧ w.heap.size + 3 ≤ W6.heap.size ∧ w7.heap.size ≤ W6.heap.size ∧ ∀ g, (Value.slice x9 n9 y9).ownBlock = some g → W6.heap.size ≤ g ∧ g < w9.heap.size) := ⟨SZ9, Nat.le_trans K6.out.room K6.out.top, K6.out.top, fun g e => O9.out.lt g e⟩
  have P9 : Hid ((w9.setCell ⟨w.heap.size + 1 + 1, 9, none⟩ (.slice x9 n9 y9)).ownsRow (w.heap.size + 3) 40 66 (.slice x9 n9 y9) n9 r9) := ownsRow_setCell_below (ownsRow_weaken O9.out HX9.out.2.1) (by show w.heap.size + 1 + 1 < _; omega) _
  clear O9 Q9 g9 f9 d9 de9 BE9 K6
  generalize w9.setCell ⟨w.heap.size + 1 + 1, 9, none⟩ (.slice x9 n9 y9) = W7 at *
  clear SZ9
  have g8 := K7.out.cb.cell 8 _ rfl
  have f8 := K7.out.cb.free 8
  go_upto_region 9 with fail
  have K8 : Hid (Ic w (W7.setCell ⟨w.heap.size + 1 + 1, 8, none⟩ (.slice none 0 0)) w7.heap.size [.int .i64 s.id, .int .i64 s.frame, .int .i64 s.epoch, .slice a3 n3 c3, .slice a4 n4 c4, .slice a5 n5 c5, .slice a6 n6 c6, .slice a7 n7 c7, .slice a8 n8 c8, .slice a9 n9 c9] [.int .i64 s.id, .int .i64 s.frame, .int .i64 s.epoch, .slice x3 n3 y3, .slice x4 n4 y4, .slice x5 n5 y5, .slice x6 n6 y6, .slice x7 n7 y7, .slice none 0 0, .slice x9 n9 y9] [(x7, n7, y7, 1, r7), (x6, n6, y6, 1, r6), (x5, n5, y5, 2, r5), (x4, n4, y4, 1, r4), (x3, n3, y3, 21, r3)]) := K7.out.c (k := 8) (by simp) (.slice none 0 0)
  have P8 : Hid ((W7.setCell ⟨w.heap.size + 1 + 1, 8, none⟩ (.slice none 0 0)).ownsRow (w.heap.size + 3) 40 66 (.slice x9 n9 y9) n9 r9) := ownsRow_setCell_below P9.out (by show w.heap.size + 1 + 1 < _; omega) _
  have HM8 : Hid (w9.heap.size ≤ (W7.setCell ⟨w.heap.size + 1 + 1, 8, none⟩ (.slice none 0 0)).heap.size) := by unfold Hid; rw [← Z9.out]; simp [World.setCell]
  clear g8 f8 K7 P9 Z9
  generalize W7.setCell ⟨w.heap.size + 1 + 1, 8, none⟩ (.slice none 0 0) = W8 at *
  have hpl := H8.out.size
  have hpm := H8.out.most
  go_wp2
  go_loopw [4] (fun i wr => ∃ (k : Nat) (xv : Option Addr) (cv : Nat), k ≤ n8 ∧ i = .int .i64 (k : Int) ∧ Hid (Ic w wr w7.heap.size [.int .i64 s.id, .int .i64 s.frame, .int .i64 s.epoch, .slice a3 n3 c3, .slice a4 n4 c4, .slice a5 n5 c5, .slice a6 n6 c6, .slice a7 n7 c7, .slice a8 n8 c8, .slice a9 n9 c9] [.int .i64 s.id, .int .i64 s.frame, .int .i64 s.epoch, .slice x3 n3 y3, .slice x4 n4 y4, .slice x5 n5 y5, .slice x6 n6 y6, .slice x7 n7 y7, .slice xv k cv, .slice x9 n9 y9] [(x7, n7, y7, 1, r7), (x6, n6, y6, 1, r6), (x5, n5, y5, 2, r5), (x4, n4, y4, 1, r4), (x3, n3, y3, 21, r3)]) ∧ Hid (w9.heap.size ≤ wr.heap.size) ∧ Hid (Pd wr w9.heap.size (.slice xv k cv) k (s.ports.take k)) ∧ Hid (wr.ownsRow (w.heap.size + 3) 40 66 (.slice x9 n9 y9) n9 r9)) (fun i _ => n8 - (intOf i).toNat)
  case atStart => exact ⟨0, none, 0, by omega, rfl, K8.out, HM8.out, pd_nil _ _, P8.out⟩
  case round =>
    clear K8 P8
    obtain ⟨k, xv, cv, hk, rfl, HI, HM, HP, HO⟩ := hrel
    have e8 := HI.out.src.cell 8 _ rfl
    by_cases hlt : k < n8
    · obtain ⟨p, hp⟩ : ∃ p, s.ports[k]? = some p := ⟨_, List.getElem?_eq_getElem (by rw [hpl]; exact hlt)⟩
      obtain ⟨x, m, dd, rs, u1, u2, u3⟩ := H8.out.keys k p hp
      obtain ⟨b, off, ea, s0⟩ := H8.out.row.cell _ _ u1
      obtain ⟨b', off', ea', s1⟩ := H8.out.row.cell _ _ u2
      rw [ea] at ea'
      simp only [Option.some.injEq, Addr.mk.injEq, and_true] at ea'
      obtain ⟨rfl, rfl⟩ := ea'
      subst ea
      have HPP := hide hp
      have U3 := hide u3
      have HTK : Hid (s.ports.take (k + 1) = s.ports.take k ++ [p]) := by unfold Hid; rw [List.take_add_one, hp]; rfl
      have t8 := HI.out.cb.cell 8 _ rfl
      have k0 := cellB s0 HI.out.low
      have k1 := cellB s1 HI.out.low
      rw [← Nat.add_assoc] at k1
      have HH : Hid (∀ wz, Below wr.heap.size wr wz → (fun wz => wz.cell? ⟨w.heap.size + 1 + 1, 8, none⟩ = some (.slice xv k cv) ∧ wz.cell? ⟨w.heap.size, 8, none⟩ = some (.slice (some ⟨b, off, none⟩) n8 c8) ∧ wz.cell? ⟨b, off + k * 2, none⟩ = some (.slice x m dd) ∧ wz.cell? ⟨b, off + k * 2 + 1, none⟩ = some (.int .i64 p.1)) wz) := fun wz hz => ⟨cellB t8 hz, cellB e8 hz, cellB k0 hz, cellB k1 hz⟩
      have S0 := hide s0
      have S1 := hide s1
      clear hp u1 u2 u3 s0 s1 t8 k0 k1
      have hq1 : (k : Int) < (n8 : Int) := by omega
      go_upto_region 12 with fail
      clear e8
      have HWB : Hid (Below wr.heap.size wr wr.drew) := (Below.refl _ _).drew
      refine region_anyK (S := fun wz => wz.cell? ⟨w.heap.size + 1 + 1, 8, none⟩ = some (.slice xv k cv) ∧ wz.cell? ⟨w.heap.size, 8, none⟩ = some (.slice (some ⟨b, off, none⟩) n8 c8) ∧ wz.cell? ⟨b, off + k * 2, none⟩ = some (.slice x m dd) ∧ wz.cell? ⟨b, off + k * 2 + 1, none⟩ = some (.int .i64 p.1)) (k := 19) (by kernel_rfl) ?_
      refine anyK_takeP (i := 0) (oi := { dst := some 44, op := Go.Op.fieldAddr 29 (Go.Operand.tmp 3) 8, type := 0, pos := "ref.go:402", after := #[], guard := none }) (v := ?_) rfl (by kernel_rfl) (by kernel_rfl) (by kernel_rfl) (fun _ _ _ h => h) (by rfl) (fun _ => HH.out _ HWB.out) (Or.inl ⟨by rfl, ?_⟩) ?_
      rotate_left
      · intro wz
        go_simp
        try with_reducible rfl
      try simp only [Act.put, List.setIfInBounds_toArray, List.set_cons_zero, List.set_cons_succ]
      refine anyK_takeL (i := 1) (oi := { dst := some 45, op := Go.Op.load 26 (Go.Operand.tmp 44), type := 26, pos := "ref.go:402", after := #[{ on := 0, ground := Go.Ground.data }], guard := none }) (ok := { dst := some 63, op := Go.Op.fieldAddr 29 (Go.Operand.tmp 3) 8, type := 0, pos := "ref.go:402", after := #[{ on := 0, ground := Go.Ground.phase }, { on := 1, ground := Go.Ground.phase }, { on := 2, ground := Go.Ground.phase }, { on := 3, ground := Go.Ground.phase }, { on := 4, ground := Go.Ground.phase }, { on := 5, ground := Go.Ground.phase }, { on := 6, ground := Go.Ground.phase }, { on := 7, ground := Go.Ground.phase }, { on := 8, ground := Go.Ground.phase }, { on := 9, ground := Go.Ground.phase }, { on := 10, ground := Go.Ground.phase }, { on := 11, ground := Go.Ground.phase }, { on := 12, ground := Go.Ground.phase }, { on := 13, ground := Go.Ground.phase }, { on := 14, ground := Go.Ground.phase }, { on := 15, ground := Go.Ground.phase }, { on := 16, ground := Go.Ground.phase }, { on := 17, ground := Go.Ground.phase }, { on := 18, ground := Go.Ground.phase }], guard := none }) (v := ?_) rfl rfl (by kernel_rfl) (by kernel_rfl) (by kernel_rfl) (by kernel_rfl) (by kernel_rfl) (fun _ _ _ h => h) (by rfl) (HH.out _ HWB.out) (Or.inl ⟨by rfl, ?_⟩) ?_
      rotate_left
      · intro wz hSw
        obtain ⟨q0, q1, q2, q3⟩ := hSw
        go_simp
        try with_reducible rfl
      try simp only [Act.put, List.setIfInBounds_toArray, List.set_cons_zero, List.set_cons_succ]
      refine anyK_takeP (i := 3) (oi := { dst := some 47, op := Go.Op.fieldAddr 29 (Go.Operand.tmp 1) 8, type := 0, pos := "ref.go:402", after := #[], guard := none }) (v := ?_) rfl (by kernel_rfl) (by kernel_rfl) (by kernel_rfl) (fun _ _ _ h => h) (by rfl) (fun _ => HH.out _ HWB.out) (Or.inl ⟨by rfl, ?_⟩) ?_
      rotate_left
      · intro wz
        go_simp
        try with_reducible rfl
      try simp only [Act.put, List.setIfInBounds_toArray, List.set_cons_zero, List.set_cons_succ]
      refine anyK_takeL (i := 4) (oi := { dst := some 48, op := Go.Op.load 26 (Go.Operand.tmp 47), type := 26, pos := "ref.go:402", after := #[{ on := 3, ground := Go.Ground.data }], guard := none }) (ok := { dst := some 63, op := Go.Op.fieldAddr 29 (Go.Operand.tmp 3) 8, type := 0, pos := "ref.go:402", after := #[{ on := 0, ground := Go.Ground.phase }, { on := 1, ground := Go.Ground.phase }, { on := 2, ground := Go.Ground.phase }, { on := 3, ground := Go.Ground.phase }, { on := 4, ground := Go.Ground.phase }, { on := 5, ground := Go.Ground.phase }, { on := 6, ground := Go.Ground.phase }, { on := 7, ground := Go.Ground.phase }, { on := 8, ground := Go.Ground.phase }, { on := 9, ground := Go.Ground.phase }, { on := 10, ground := Go.Ground.phase }, { on := 11, ground := Go.Ground.phase }, { on := 12, ground := Go.Ground.phase }, { on := 13, ground := Go.Ground.phase }, { on := 14, ground := Go.Ground.phase }, { on := 15, ground := Go.Ground.phase }, { on := 16, ground := Go.Ground.phase }, { on := 17, ground := Go.Ground.phase }, { on := 18, ground := Go.Ground.phase }], guard := none }) (v := ?_) rfl rfl (by kernel_rfl) (by kernel_rfl) (by kernel_rfl) (by kernel_rfl) (by kernel_rfl) (fun _ _ _ h => h) (by rfl) (HH.out _ HWB.out) (Or.inl ⟨by rfl, ?_⟩) ?_
      rotate_left
      · intro wz hSw
        obtain ⟨q0, q1, q2, q3⟩ := hSw
        go_simp
        try with_reducible rfl
      try simp only [Act.put, List.setIfInBounds_toArray, List.set_cons_zero, List.set_cons_succ]
      refine anyK_takeP (i := 5) (oi := { dst := some 49, op := Go.Op.move (Go.Operand.tmp 4), type := 3, pos := "ref.go:402", after := #[], guard := none }) (v := ?_) rfl (by kernel_rfl) (by kernel_rfl) (by kernel_rfl) (fun _ _ _ h => h) (by rfl) (fun _ => HH.out _ HWB.out) (Or.inl ⟨by rfl, ?_⟩) ?_
      rotate_left
      · intro wz
        go_simp
        try with_reducible rfl
      try simp only [Act.put, List.setIfInBounds_toArray, List.set_cons_zero, List.set_cons_succ]
      refine anyK_takeP (i := 6) (oi := { dst := some 50, op := Go.Op.indexAddr 26 (Go.Operand.tmp 48) (Go.Operand.tmp 49), type := 0, pos := "ref.go:402", after := #[{ on := 4, ground := Go.Ground.data }, { on := 5, ground := Go.Ground.data }], guard := none }) (v := ?_) rfl (by kernel_rfl) (by kernel_rfl) (by kernel_rfl) (fun _ _ _ h => h) (by rfl) (fun _ => HH.out _ HWB.out) (Or.inl ⟨by rfl, ?_⟩) ?_
      rotate_left
      · intro wz
        go_simp
        try with_reducible rfl
      try simp only [Act.put, List.setIfInBounds_toArray, List.set_cons_zero, List.set_cons_succ]
      refine anyK_takeP (i := 7) (oi := { dst := some 51, op := Go.Op.fieldAddr 55 (Go.Operand.tmp 50) 0, type := 0, pos := "ref.go:402", after := #[{ on := 6, ground := Go.Ground.data }], guard := none }) (v := ?_) rfl (by kernel_rfl) (by kernel_rfl) (by kernel_rfl) (fun _ _ _ h => h) (by rfl) (fun _ => HH.out _ HWB.out) (Or.inl ⟨by rfl, ?_⟩) ?_
      rotate_left
      · intro wz
        go_simp
        try with_reducible rfl
      try simp only [Act.put, List.setIfInBounds_toArray, List.set_cons_zero, List.set_cons_succ]
      refine anyK_takeL (i := 8) (oi := { dst := some 52, op := Go.Op.load 53 (Go.Operand.tmp 51), type := 53, pos := "ref.go:402", after := #[{ on := 7, ground := Go.Ground.data }], guard := none }) (ok := { dst := some 63, op := Go.Op.fieldAddr 29 (Go.Operand.tmp 3) 8, type := 0, pos := "ref.go:402", after := #[{ on := 0, ground := Go.Ground.phase }, { on := 1, ground := Go.Ground.phase }, { on := 2, ground := Go.Ground.phase }, { on := 3, ground := Go.Ground.phase }, { on := 4, ground := Go.Ground.phase }, { on := 5, ground := Go.Ground.phase }, { on := 6, ground := Go.Ground.phase }, { on := 7, ground := Go.Ground.phase }, { on := 8, ground := Go.Ground.phase }, { on := 9, ground := Go.Ground.phase }, { on := 10, ground := Go.Ground.phase }, { on := 11, ground := Go.Ground.phase }, { on := 12, ground := Go.Ground.phase }, { on := 13, ground := Go.Ground.phase }, { on := 14, ground := Go.Ground.phase }, { on := 15, ground := Go.Ground.phase }, { on := 16, ground := Go.Ground.phase }, { on := 17, ground := Go.Ground.phase }, { on := 18, ground := Go.Ground.phase }], guard := none }) (v := ?_) rfl rfl (by kernel_rfl) (by kernel_rfl) (by kernel_rfl) (by kernel_rfl) (by kernel_rfl) (fun _ _ _ h => h) (by rfl) (HH.out _ HWB.out) (Or.inl ⟨by rfl, ?_⟩) ?_
      rotate_left
      · intro wz hSw
        obtain ⟨q0, q1, q2, q3⟩ := hSw
        go_simp
        try with_reducible rfl
      try simp only [Act.put, List.setIfInBounds_toArray, List.set_cons_zero, List.set_cons_succ]
      refine anyK_takeP (i := 10) (oi := { dst := some 54, op := Go.Op.fieldAddr 29 (Go.Operand.tmp 1) 8, type := 0, pos := "ref.go:402", after := #[], guard := none }) (v := ?_) rfl (by kernel_rfl) (by kernel_rfl) (by kernel_rfl) (fun _ _ _ h => h) (by rfl) (fun _ => HH.out _ HWB.out) (Or.inl ⟨by rfl, ?_⟩) ?_
      rotate_left
      · intro wz
        go_simp
        try with_reducible rfl
      try simp only [Act.put, List.setIfInBounds_toArray, List.set_cons_zero, List.set_cons_succ]
      refine anyK_takeL (i := 11) (oi := { dst := some 55, op := Go.Op.load 26 (Go.Operand.tmp 54), type := 26, pos := "ref.go:402", after := #[{ on := 10, ground := Go.Ground.data }], guard := none }) (ok := { dst := some 63, op := Go.Op.fieldAddr 29 (Go.Operand.tmp 3) 8, type := 0, pos := "ref.go:402", after := #[{ on := 0, ground := Go.Ground.phase }, { on := 1, ground := Go.Ground.phase }, { on := 2, ground := Go.Ground.phase }, { on := 3, ground := Go.Ground.phase }, { on := 4, ground := Go.Ground.phase }, { on := 5, ground := Go.Ground.phase }, { on := 6, ground := Go.Ground.phase }, { on := 7, ground := Go.Ground.phase }, { on := 8, ground := Go.Ground.phase }, { on := 9, ground := Go.Ground.phase }, { on := 10, ground := Go.Ground.phase }, { on := 11, ground := Go.Ground.phase }, { on := 12, ground := Go.Ground.phase }, { on := 13, ground := Go.Ground.phase }, { on := 14, ground := Go.Ground.phase }, { on := 15, ground := Go.Ground.phase }, { on := 16, ground := Go.Ground.phase }, { on := 17, ground := Go.Ground.phase }, { on := 18, ground := Go.Ground.phase }], guard := none }) (v := ?_) rfl rfl (by kernel_rfl) (by kernel_rfl) (by kernel_rfl) (by kernel_rfl) (by kernel_rfl) (fun _ _ _ h => h) (by rfl) (HH.out _ HWB.out) (Or.inl ⟨by rfl, ?_⟩) ?_
      rotate_left
      · intro wz hSw
        obtain ⟨q0, q1, q2, q3⟩ := hSw
        go_simp
        try with_reducible rfl
      try simp only [Act.put, List.setIfInBounds_toArray, List.set_cons_zero, List.set_cons_succ]
      refine anyK_takeP (i := 12) (oi := { dst := some 56, op := Go.Op.move (Go.Operand.tmp 4), type := 3, pos := "ref.go:402", after := #[], guard := none }) (v := ?_) rfl (by kernel_rfl) (by kernel_rfl) (by kernel_rfl) (fun _ _ _ h => h) (by rfl) (fun _ => HH.out _ HWB.out) (Or.inl ⟨by rfl, ?_⟩) ?_
      rotate_left
      · intro wz
        go_simp
        try with_reducible rfl
      try simp only [Act.put, List.setIfInBounds_toArray, List.set_cons_zero, List.set_cons_succ]
      refine anyK_takeP (i := 13) (oi := { dst := some 57, op := Go.Op.indexAddr 26 (Go.Operand.tmp 55) (Go.Operand.tmp 56), type := 0, pos := "ref.go:402", after := #[{ on := 11, ground := Go.Ground.data }, { on := 12, ground := Go.Ground.data }], guard := none }) (v := ?_) rfl (by kernel_rfl) (by kernel_rfl) (by kernel_rfl) (fun _ _ _ h => h) (by rfl) (fun _ => HH.out _ HWB.out) (Or.inl ⟨by rfl, ?_⟩) ?_
      rotate_left
      · intro wz
        go_simp
        try with_reducible rfl
      try simp only [Act.put, List.setIfInBounds_toArray, List.set_cons_zero, List.set_cons_succ]
      refine anyK_takeP (i := 14) (oi := { dst := some 58, op := Go.Op.fieldAddr 55 (Go.Operand.tmp 57) 1, type := 0, pos := "ref.go:402", after := #[{ on := 13, ground := Go.Ground.data }], guard := none }) (v := ?_) rfl (by kernel_rfl) (by kernel_rfl) (by kernel_rfl) (fun _ _ _ h => h) (by rfl) (fun _ => HH.out _ HWB.out) (Or.inl ⟨by rfl, ?_⟩) ?_
      rotate_left
      · intro wz
        go_simp
        try with_reducible rfl
      try simp only [Act.put, List.setIfInBounds_toArray, List.set_cons_zero, List.set_cons_succ]
      refine anyK_takeL (i := 15) (oi := { dst := some 59, op := Go.Op.load 3 (Go.Operand.tmp 58), type := 3, pos := "ref.go:402", after := #[{ on := 14, ground := Go.Ground.data }], guard := none }) (ok := { dst := some 63, op := Go.Op.fieldAddr 29 (Go.Operand.tmp 3) 8, type := 0, pos := "ref.go:402", after := #[{ on := 0, ground := Go.Ground.phase }, { on := 1, ground := Go.Ground.phase }, { on := 2, ground := Go.Ground.phase }, { on := 3, ground := Go.Ground.phase }, { on := 4, ground := Go.Ground.phase }, { on := 5, ground := Go.Ground.phase }, { on := 6, ground := Go.Ground.phase }, { on := 7, ground := Go.Ground.phase }, { on := 8, ground := Go.Ground.phase }, { on := 9, ground := Go.Ground.phase }, { on := 10, ground := Go.Ground.phase }, { on := 11, ground := Go.Ground.phase }, { on := 12, ground := Go.Ground.phase }, { on := 13, ground := Go.Ground.phase }, { on := 14, ground := Go.Ground.phase }, { on := 15, ground := Go.Ground.phase }, { on := 16, ground := Go.Ground.phase }, { on := 17, ground := Go.Ground.phase }, { on := 18, ground := Go.Ground.phase }], guard := none }) (v := ?_) rfl rfl (by kernel_rfl) (by kernel_rfl) (by kernel_rfl) (by kernel_rfl) (by kernel_rfl) (fun _ _ _ h => h) (by rfl) (HH.out _ HWB.out) (Or.inl ⟨by rfl, ?_⟩) ?_
      rotate_left
      · intro wz hSw
        obtain ⟨q0, q1, q2, q3⟩ := hSw
        go_simp
        try with_reducible rfl
      try simp only [Act.put, List.setIfInBounds_toArray, List.set_cons_zero, List.set_cons_succ]
      refine anyK_one (i := 2) (o := { dst := some 46, op := Go.Op.buildSlice 53 0 #[], type := 53, pos := "ref.go:402", after := #[], guard := none }) (by kernel_rfl) rfl (fun K hK => ?_)
      go_simp
      try go_wp2_with fail
      have BE : Hid (Below wr.heap.size wr (wr.alloc (.cells #[] 9)).drew) := (one_below wr (.cells #[] 9)).drew
      have OE : Hid ((wr.alloc (.cells #[] 9)).drew.ownsRow wr.heap.size 9 1 (.slice (some ⟨wr.heap.size, 0, none⟩) 0 0) 0 []) := World.ownsRow_lit wr #[] 0 (Nat.le_refl _) (by decide) rfl
      refine hK.out _ _ (fun _ => HH.out _ BE.out) ?_
      clear hK K HWB
      generalize (wr.alloc (.cells #[] 9)).drew = WA at *
      try simp only [Act.put, List.setIfInBounds_toArray, List.set_cons_zero, List.set_cons_succ]
      refine anyK_one (i := 9) (o := { dst := some 53, op := Go.Op.call { callee := Go.Callee.builtin Go.Builtin.append, args := #[Go.Operand.tmp 46, Go.Operand.tmp 52], argTypes := #[53, 53] }, type := 53, pos := "ref.go:402", after := #[{ on := 2, ground := Go.Ground.data }, { on := 8, ground := Go.Ground.data }], guard := none }) (by kernel_rfl) rfl (fun K hK => ?_)
      refine step_list rfl (.tmp 46) (.tmp 52) 53 9 rfl Try.underlying53 minfo_str (by decide) wr.heap.size _ 0 [] rfl OE.out x m dd rs rfl (U3.out.row.below (chain HI.out.low BE.out)) U3.out.one (by have := U3.out.most; unfold maxLen; omega) (by have := U3.out.most; omega) BE.out.size ?_
      intro v5 w5 h5 b5
      rw [List.nil_append, Nat.zero_add] at h5
      obtain ⟨xm, ym, rfl, hr5⟩ := RLk.row (.inl h5)
      have O5 := hide h5
      have B5 := hide (BE.out.trans b5)
      have KR5 := hide (U3.out.at_ hr5)
      clear h5 hr5 b5
      refine hK.out _ _ (fun _ => HH.out _ B5.out) ?_
      clear hK K BE OE
      try simp only [Act.put, List.setIfInBounds_toArray, List.set_cons_zero, List.set_cons_succ]
      have HWB := B5
      refine anyK_takeP (i := 16) (oi := { dst := some 60, op := Go.Op.build 55 #[(0, Go.Operand.tmp 53), (1, Go.Operand.tmp 59)], type := 55, pos := "ref.go:402", after := #[{ on := 9, ground := Go.Ground.data }, { on := 15, ground := Go.Ground.data }], guard := none }) (v := ?_) rfl (by kernel_rfl) (by kernel_rfl) (by kernel_rfl) (fun _ _ _ h => h) (by rfl) (fun _ => HH.out _ HWB.out) (Or.inl ⟨by rfl, ?_⟩) ?_
      rotate_left
      · intro wz
        go_simp
        try with_reducible rfl
      try simp only [Act.put, List.setIfInBounds_toArray, List.set_cons_zero, List.set_cons_succ]
      refine anyK_one (i := 17) (o := { dst := some 61, op := Go.Op.buildSlice 26 1 #[(0, Go.Operand.tmp 60)], type := 26, pos := "ref.go:402", after := #[{ on := 16, ground := Go.Ground.data }], guard := none }) (by kernel_rfl) rfl (fun K hK => ?_)
      go_simp
      try go_wp2_with fail
      have B6 := hide (chain B5.out (one_below w5 (.cells #[.slice xm m ym, .int .i64 p.1] 55)))
      have S6 : Hid ((w5.alloc (.cells #[.slice xm m ym, .int .i64 p.1] 55)).heap.size = w5.heap.size + 1) := by unfold Hid; simp
      have N6 := hide (bl_alloc w5 #[.slice xm m ym, .int .i64 p.1] 55)
      have O6 := hide (ownsRow_below O5.out (one_below w5 (.cells #[.slice xm m ym, .int .i64 p.1] 55)))
      have KR6 := hide (KR5.out.below (one_below w5 (.cells #[.slice xm m ym, .int .i64 p.1] 55)))
      refine hK.out _ _ (fun _ => HH.out _ B6.out) ?_
      clear hK K HWB KR5
      generalize w5.alloc (.cells #[.slice xm m ym, .int .i64 p.1] 55) = W6' at *
      try simp only [Act.put, List.setIfInBounds_toArray, List.set_cons_zero, List.set_cons_succ]
      obtain ⟨CS, q1, q2, q3, q4⟩ := HP.out.below B6.out
      have hvb : ∀ g, (Value.slice xv k cv).ownBlock = some g → w9.heap.size ≤ g ∧ g < wr.heap.size := fun g e => by
        obtain ⟨CS', z1, _⟩ := HP.out
        exact z1.lt g e
      have HVB := hide hvb
      have hx5 : ∀ ad, xm = some ad → w9.heap.size ≤ ad.block ∧ ad.block < W6'.heap.size ∧ some ad.block ≠ (Value.slice xv k cv).ownBlock := fun ad e => by
        subst e
        have h1 := O5.out.lt _ rfl
        have h2 := HM.out
        have h3 := S6.out
        exact ⟨Nat.le_trans h2 h1.1, by omega, fun e2 => by have := (HVB.out _ e2.symm).2; omega⟩
      have HX5 := hide hx5
      have HQ1 := hide q1
      have HQ2 := hide q2
      have HQ3 := hide q3
      have HQ4 := hide q4
      clear q1 q2 q3 q4 hvb hx5
      obtain ⟨ip, zp, hip, hzp, hszp, hbyp, hzsp⟩ := minfo_port
      refine anyK_one (i := 18) (o := { dst := some 62, op := Go.Op.call { callee := Go.Callee.builtin Go.Builtin.append, args := #[Go.Operand.tmp 45, Go.Operand.tmp 61], argTypes := #[26, 26] }, type := 26, pos := "ref.go:402", after := #[{ on := 1, ground := Go.Ground.data }, { on := 17, ground := Go.Ground.data }, { on := 9, ground := Go.Ground.chain }], guard := none }) (by kernel_rfl) rfl (fun K hK => ?_)
      refine step_append_lies W6' rfl (.tmp 45) (.tmp 61) 26 rfl w9.heap.size 55 ip zp 2 32 Try.underlying26 hip hzp hszp hbyp hzsp (by decide) _ k CS rfl HQ1.out ⟨w5.heap.size, 0, none⟩ 1 1 [.slice xm m ym, .int .i64 p.1] rfl rfl ?_ ?_ (by decide) (by unfold maxLen; omega) (by omega) (by have := HM.out; have := B6.out.size; omega) _ rfl ?_
      · intro j u hj
        rw [add_lit', Nat.zero_add]
        exact N6.out.cell j u hj
      · intro u hu
        simp only [List.mem_cons, List.not_mem_nil, or_false] at hu
        rcases hu with rfl | rfl <;> rfl
      intro g8 c8' w8 ho8 hg8 hat8 hlt8
      have HPD := hide (Pd.push (by have := HM.out; have := B6.out.size; omega) HQ1.out HQ2.out HQ3.out HQ4.out KR6.out HX5.out ho8 hg8 hat8)
      have HI8 := hide ((HI.out.call B6.out).grown hg8 (fun g e => by have := (HVB.out g e).1; have := HX9.out.1; have := HX9.out.2.2.1; omega))
      have HO8 := hide ((ownsRow_below HO.out B6.out).kept hg8 (by
        cases hx : (Value.slice x9 n9 y9).ownBlock with
        | none => exact .inl rfl
        | some g => exact .inr (fun e => by have h1 := (HX9.out.2.2.2 g hx).2; have h2 := (HVB.out g e.symm).1; omega)))
      have HM8' : Hid (w9.heap.size ≤ w8.heap.size) := by have := HM.out; have := B6.out.size; have := hg8.size; unfold Hid; omega
      have t8 := HI8.out.cb.cell 8 _ rfl
      have fz8 := HI8.out.cb.free 8
      have S8 : Hid ((fun wz => wz.cell? ⟨w.heap.size + 1 + 1, 8, none⟩ = some (.slice xv k cv) ∧ wz.cell? ⟨w.heap.size, 8, none⟩ = some (.slice (some ⟨b, off, none⟩) n8 c8) ∧ wz.cell? ⟨b, off + k * 2, none⟩ = some (.slice x m dd) ∧ wz.cell? ⟨b, off + k * 2 + 1, none⟩ = some (.int .i64 p.1)) w8) := by
        have k1 := cellB S1.out HI8.out.low
        rw [← Nat.add_assoc] at k1
        exact ⟨t8, HI8.out.src.cell 8 _ rfl, cellB S0.out HI8.out.low, k1⟩
      clear ho8 hg8 hat8 hlt8
      refine hK.out _ _ (fun _ => S8.out) ?_
      clear hK K S8
      try simp only [Act.put, List.setIfInBounds_toArray, List.set_cons_zero, List.set_cons_succ]
      refine anyK_one (i := 19) (o := { dst := some 63, op := Go.Op.fieldAddr 29 (Go.Operand.tmp 3) 8, type := 0, pos := "ref.go:402", after := #[{ on := 0, ground := Go.Ground.phase }, { on := 1, ground := Go.Ground.phase }, { on := 2, ground := Go.Ground.phase }, { on := 3, ground := Go.Ground.phase }, { on := 4, ground := Go.Ground.phase }, { on := 5, ground := Go.Ground.phase }, { on := 6, ground := Go.Ground.phase }, { on := 7, ground := Go.Ground.phase }, { on := 8, ground := Go.Ground.phase }, { on := 9, ground := Go.Ground.phase }, { on := 10, ground := Go.Ground.phase }, { on := 11, ground := Go.Ground.phase }, { on := 12, ground := Go.Ground.phase }, { on := 13, ground := Go.Ground.phase }, { on := 14, ground := Go.Ground.phase }, { on := 15, ground := Go.Ground.phase }, { on := 16, ground := Go.Ground.phase }, { on := 17, ground := Go.Ground.phase }, { on := 18, ground := Go.Ground.phase }], guard := none }) (by kernel_rfl) rfl (fun K hK => ?_)
      go_simp
      try go_wp2_with fail
      refine hK.out _ _ (fun h => absurd h (by decide)) ?_
      clear hK K
      try simp only [Act.put, List.setIfInBounds_toArray, List.set_cons_zero, List.set_cons_succ]
      refine anyK_one (i := 20) (o := { dst := none, op := Go.Op.store 26 (Go.Operand.tmp 63) (Go.Operand.tmp 62), type := 0, pos := "ref.go:402", after := #[{ on := 19, ground := Go.Ground.data }, { on := 18, ground := Go.Ground.data }, { on := 18, ground := Go.Ground.chain }, { on := 0, ground := Go.Ground.phase }, { on := 1, ground := Go.Ground.phase }, { on := 2, ground := Go.Ground.phase }, { on := 3, ground := Go.Ground.phase }, { on := 4, ground := Go.Ground.phase }, { on := 5, ground := Go.Ground.phase }, { on := 6, ground := Go.Ground.phase }, { on := 7, ground := Go.Ground.phase }, { on := 8, ground := Go.Ground.phase }, { on := 9, ground := Go.Ground.phase }, { on := 10, ground := Go.Ground.phase }, { on := 11, ground := Go.Ground.phase }, { on := 12, ground := Go.Ground.phase }, { on := 13, ground := Go.Ground.phase }, { on := 14, ground := Go.Ground.phase }, { on := 15, ground := Go.Ground.phase }, { on := 16, ground := Go.Ground.phase }, { on := 17, ground := Go.Ground.phase }, { on := 18, ground := Go.Ground.phase }], guard := none }) (by kernel_rfl) rfl (fun K hK => ?_)
      go_simp
      try go_wp2_with fail
      refine hK.out _ _ (fun h => absurd h (by decide)) ?_
      clear hK K
      try simp only [Act.put, List.setIfInBounds_toArray, List.set_cons_zero, List.set_cons_succ]
      refine anyK_done (by kernel_rfl) ?_ _
      clear t8 fz8
      have hr9 : w.heap.size + 3 ≤ w9.heap.size := by have := HX9.out.1; have := HX9.out.2.1; omega
      have FI : Hid (Ic w (w8.setCell ⟨w.heap.size + 1 + 1, 8, none⟩ (.slice (some ⟨g8, 0, none⟩) (k + 1) c8')) w7.heap.size [.int .i64 s.id, .int .i64 s.frame, .int .i64 s.epoch, .slice a3 n3 c3, .slice a4 n4 c4, .slice a5 n5 c5, .slice a6 n6 c6, .slice a7 n7 c7, .slice (some ⟨b, off, none⟩) n8 c8, .slice a9 n9 c9] [.int .i64 s.id, .int .i64 s.frame, .int .i64 s.epoch, .slice x3 n3 y3, .slice x4 n4 y4, .slice x5 n5 y5, .slice x6 n6 y6, .slice x7 n7 y7, .slice (some ⟨g8, 0, none⟩) (k + 1) c8', .slice x9 n9 y9] [(x7, n7, y7, 1, r7), (x6, n6, y6, 1, r6), (x5, n5, y5, 2, r5), (x4, n4, y4, 1, r4), (x3, n3, y3, 21, r3)]) := HI8.out.c (k := 8) (by simp) _
      have FP : Hid (Pd (w8.setCell ⟨w.heap.size + 1 + 1, 8, none⟩ (.slice (some ⟨g8, 0, none⟩) (k + 1) c8')) w9.heap.size (.slice (some ⟨g8, 0, none⟩) (k + 1) c8') (k + 1) (s.ports.take (k + 1))) := by unfold Hid; rw [HTK.out]; exact HPD.out.box (p := ⟨w.heap.size + 1 + 1, 8, none⟩) (by show w.heap.size + 1 + 1 < _; omega) _
      have FO : Hid ((w8.setCell ⟨w.heap.size + 1 + 1, 8, none⟩ (.slice (some ⟨g8, 0, none⟩) (k + 1) c8')).ownsRow (w.heap.size + 3) 40 66 (.slice x9 n9 y9) n9 r9) := ownsRow_setCell_below HO8.out (by show w.heap.size + 1 + 1 < _; omega) _
      have FM : Hid (w9.heap.size ≤ (w8.setCell ⟨w.heap.size + 1 + 1, 8, none⟩ (.slice (some ⟨g8, 0, none⟩) (k + 1) c8')).heap.size) := by have := HM8'.out; unfold Hid; simpa [World.setCell] using this
      clear HI8 HO8 HPD HM8' HI HP HO HM HQ1 HQ2 HQ3 HQ4 KR6 HX5 N6 O6 B6 S6 O5 B5 HVB HH U3 S0 S1
      generalize w8.setCell ⟨w.heap.size + 1 + 1, 8, none⟩ (.slice (some ⟨g8, 0, none⟩) (k + 1) c8') = W9 at *
      go_wp2
      go_roundw
      case rel => exact ⟨k + 1, some ⟨g8, 0, none⟩, c8', by omega, by go_num, FI.out, FM.out, FP.out, FO.out⟩
      case measure => simp [intOf]; omega
    · obtain rfl : k = n8 := by omega
      have dk : decide ((k : Int) < (k : Int)) = false := decide_eq_false (by omega)
      clear hlt hk
      go_upto_region 13 with fail
      clear e8 dk
      have s0 := HI.out.cb.cell 0 _ rfl
      have t0 := HI.out.an.cell 0 _ rfl
      have f0 := HI.out.an.free 0
      have s1 := HI.out.cb.cell 1 _ rfl
      have t1 := HI.out.an.cell 1 _ rfl
      have f1 := HI.out.an.free 1
      have s2 := HI.out.cb.cell 2 _ rfl
      have t2 := HI.out.an.cell 2 _ rfl
      have f2 := HI.out.an.free 2
      have s3 := HI.out.cb.cell 3 _ rfl
      have t3 := HI.out.an.cell 3 _ rfl
      have f3 := HI.out.an.free 3
      have s4 := HI.out.cb.cell 4 _ rfl
      have t4 := HI.out.an.cell 4 _ rfl
      have f4 := HI.out.an.free 4
      have s5 := HI.out.cb.cell 5 _ rfl
      have t5 := HI.out.an.cell 5 _ rfl
      have f5 := HI.out.an.free 5
      have s6 := HI.out.cb.cell 6 _ rfl
      have t6 := HI.out.an.cell 6 _ rfl
      have f6 := HI.out.an.free 6
      have s7 := HI.out.cb.cell 7 _ rfl
      have t7 := HI.out.an.cell 7 _ rfl
      have f7 := HI.out.an.free 7
      have s8 := HI.out.cb.cell 8 _ rfl
      have t8 := HI.out.an.cell 8 _ rfl
      have f8 := HI.out.an.free 8
      have s9 := HI.out.cb.cell 9 _ rfl
      have t9 := HI.out.an.cell 9 _ rfl
      have f9 := HI.out.an.free 9
      have TS := hide (ten_sets (w0 := w) (B := w.heap.size) HI.out.low (by omega) HI.out.an rfl (.int .i64 s.id) (.int .i64 s.frame) (.int .i64 s.epoch) (.slice x3 n3 y3) (.slice x4 n4 y4) (.slice x5 n5 y5) (.slice x6 n6 y6) (.slice x7 n7 y7) (.slice xv k cv) (.slice x9 n9 y9))
      go_wp2
      clear s0 t0 f0 s1 t1 f1 s2 t2 f2 s3 t3 f3 s4 t4 f4 s5 t5 f5 s6 t6 f6 s7 t7 f7 s8 t8 f8 s9 t9 f9
      generalize ((((((((((wr.setCell ⟨w.heap.size + 1, 0, none⟩ (.int .i64 s.id)).setCell ⟨w.heap.size + 1, 1, none⟩ (.int .i64 s.frame)).setCell ⟨w.heap.size + 1, 2, none⟩ (.int .i64 s.epoch)).setCell ⟨w.heap.size + 1, 3, none⟩ (.slice x3 n3 y3)).setCell ⟨w.heap.size + 1, 4, none⟩ (.slice x4 n4 y4)).setCell ⟨w.heap.size + 1, 5, none⟩ (.slice x5 n5 y5)).setCell ⟨w.heap.size + 1, 6, none⟩ (.slice x6 n6 y6)).setCell ⟨w.heap.size + 1, 7, none⟩ (.slice x7 n7 y7)).setCell ⟨w.heap.size + 1, 8, none⟩ (.slice xv k cv)).setCell ⟨w.heap.size + 1, 9, none⟩ (.slice x9 n9 y9)) = WF at *
      obtain ⟨z1, z2, z3, z4⟩ := TS.out
      have e0 := z2.cell 0 _ rfl
      have e1 := z2.cell 1 _ rfl
      have e2 := z2.cell 2 _ rfl
      have e3 := z2.cell 3 _ rfl
      have e4 := z2.cell 4 _ rfl
      have e5 := z2.cell 5 _ rfl
      have e6 := z2.cell 6 _ rfl
      have e7 := z2.cell 7 _ rfl
      have e8 := z2.cell 8 _ rfl
      have e9 := z2.cell 9 _ rfl
      (try simp only [Exit.inBlock, Exit.then])
      refine bodyPost_ret (v := .agg #[.int .i64 s.id, .int .i64 s.frame, .int .i64 s.epoch, .slice x3 n3 y3, .slice x4 n4 y4, .slice x5 n5 y5, .slice x6 n6 y6, .slice x7 n7 y7, .slice xv k cv, .slice x9 n9 y9]) (by simp [results, Try.results6, go_sem, e0, e1, e2, e3, e4, e5, e6, e7, e8, e9]) rfl ?_
      have own : WF.ownsRow w.heap.size 40 66 (.slice x9 n9 y9) n9 r9 := ownsRow_weaken (own_sameC HO.out (fun b hb => z3 b (by omega))) (by omega)
      refine ⟨[.int .i64 s.id, .int .i64 s.frame, .int .i64 s.epoch, .slice x3 n3 y3, .slice x4 n4 y4, .slice x5 n5 y5, .slice x6 n6 y6, .slice x7 n7 y7, .slice xv k cv, .slice x9 n9 y9], x9, n9, y9, r9, rfl, rfl, own, H9.out.at_ (own_lg own).row, fun W K' r' hW hK' => ?_, z1⟩
      have hr1 := HX9.out.1
      have hr2 := HX9.out.2.1
      have hr3 := HX9.out.2.2.1
      have HRW : ∀ r ∈ ([(x7, n7, y7, 1, r7), (x6, n6, y6, 1, r6), (x5, n5, y5, 2, r5), (x4, n4, y4, 1, r4), (x3, n3, y3, 21, r3)] : List (Option Addr × Nat × Nat × Nat × List Value)), Row W r.1 r.2.1 r.2.2.1 r.2.2.2.1 r.2.2.2.2 := fun r hr => by
        have hl := HI.out.all r hr
        refine hl.row.same fun ad e _ => ?_
        have h1 := hl.at_ ad e
        exact (hW _ (by omega) (fun e2 => by have := (HX9.out.2.2.2 _ e2).1; omega)).trans (z3 _ (by omega))
      have HPD := HP.out
      rw [List.take_of_length_le (by omega)] at HPD
      obtain ⟨r8', hp8⟩ := HPD.pr2 hpm (W := W) (fun b hb => (hW b (by omega) (fun e2 => by have := (HX9.out.2.2.2 _ e2).2; omega)).trans (z3 b (by omega)))
      exact ⟨x3, n3, y3, r3, x4, n4, y4, r4, x5, n5, y5, r5, x6, n6, y6, r6, x7, n7, y7, r7, xv, k, cv, r8', x9, n9, y9, r', rfl, H3.out.at_ (HRW (x3, n3, y3, 21, r3) (by simp)), H4.out.at_ (HRW (x4, n4, y4, 1, r4) (by simp)), H5.out.at_ (HRW (x5, n5, y5, 2, r5) (by simp)), H6.out.at_ (HRW (x6, n6, y6, 1, r6) (by simp)), H7.out.at_ (HRW (x7, n7, y7, 1, r7) (by simp)), hp8, hK'⟩
end Go.Proofs.Ytkjbcnlhallcdaa
