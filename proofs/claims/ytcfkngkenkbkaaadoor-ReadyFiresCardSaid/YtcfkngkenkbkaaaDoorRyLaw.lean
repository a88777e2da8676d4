/-
  The laws' own some, to, plain and awake.
-/
import Derived.Test.YtcfkngkenkbkaaaDoorRyYield
namespace Go.Proofs.YtcfkngkenkbkaaaDoor
open Classical
open Go.RowKit
set_option linter.unusedVariables false
set_option linter.unusedSimpArgs false

theorem rcs_alloc {α : Type} {f : α → List Value} {sz : Nat} (w : World) (l : List α) (ty : TypeId) (hf : ∀ x, (f x).length = sz) {g : Nat} (hg : w.heap.size = g) : Rcs f sz (w.alloc (.cells (l.flatMap f).toArray ty)) (some ⟨g, 0, none⟩) l.length l.length l := by
  subst hg
  refine ⟨rfl, ⟨fl_len hf l, Nat.le_refl _, fun e => by simp at e, fun j v hv => ⟨_, _, rfl, ?_⟩⟩⟩
  rw [World.cell?_alloc_at _ _ _ _ rfl, Nat.zero_add]
  simpa using hv
def pro4 (st pr wt ob : Int) : Pro := ⟨0, 0, 0, 0, 0, 0, 0, 0, 0, 0, 0, 0, 0, 0, 0, 0, 0, st, pr, wt, ob⟩
def someP : List Pro := [pro4 1 5 0 0, pro4 1 5 0 0, pro4 2 3 3 1, pro4 2 3 1 0]
set_option maxRecDepth 100000 in
set_option maxHeartbeats 4000000 in
theorem some_any (w : World) : Calls Tryd.prog 11 #[] w fun e w' => ∃ g1 g2 g3, e = .returned (.agg #[.slice (some ⟨g1, 0, none⟩) 4 4, .slice (some ⟨g2, 0, none⟩) 2 2, .slice (some ⟨g3, 0, none⟩) 1 1]) ∧ Pros w' (some ⟨g1, 0, none⟩) 4 4 someP ∧ Is w' (some ⟨g2, 0, none⟩) 2 2 [1, 0] ∧ Tms w' (some ⟨g3, 0, none⟩) 1 1 [⟨3, 10⟩] ∧ Below w.heap.size w w' := by
  go_enter Tryd.func11, Tryd.ntmps11
  go_wp2
  refine bodyPost_ret (v := .agg #[.slice (some ⟨w.heap.size + 1, 0, none⟩) 4 4, .slice (some ⟨w.heap.size + 1 + 1, 0, none⟩) 2 2, .slice (some ⟨w.heap.size + 1 + 1 + 1, 0, none⟩) 1 1]) (by simp [results, Tryd.results11, go_sem]) rfl ?_
  refine ⟨_, _, _, rfl, ?_, ?_, ?_, ?_⟩
  · exact ((rcs_alloc _ someP 60 pro21 (by simp)).below (new_below _ _)).below (new_below _ _)
  · exact (rcs_alloc _ [(1 : Int), 0] 3 ci1 (by simp)).below (new_below _ _)
  · exact rcs_alloc _ [(⟨3, 10⟩ : Tm)] 68 tm2 (by simp)
  · exact chain (chain (chain (new_below _ _) (new_below _ _)) (new_below _ _)) (new_below _ _)

set_option maxRecDepth 100000 in
set_option maxHeartbeats 4000000 in
theorem to_any (w : World) (v1 v2 v3 : Value) (h1 : ∃ a n c, v1 = .slice a n c) (h2 : ∃ a n c, v2 = .slice a n c) (h3 : ∃ a n c, v3 = .slice a n c) :
    Calls Tryd.prog 10 #[.agg #[v1, v2, v3]] w fun e w' => e = .returned (.agg #[v1, v2, v3]) ∧ Below w.heap.size w w' := by
  obtain ⟨a1, n1, c1, rfl⟩ := h1
  obtain ⟨a2, n2, c2, rfl⟩ := h2
  obtain ⟨a3, n3, c3, rfl⟩ := h3
  go_enter Tryd.func10, Tryd.ntmps10
  go_wp2
  refine bodyPost_ret (v := .agg #[.slice a1 n1 c1, .slice a2 n2 c2, .slice a3 n3 c3]) (by simp [results, Tryd.results10, go_sem]) rfl ?_
  exact ⟨rfl, chain (new_below _ _) (new_below _ _)⟩

set_option maxRecDepth 100000 in
set_option maxHeartbeats 4000000 in
theorem plain_any {w : World} {E : Nat → Addr} (he : Errs w E) (v : Value) (i : Nat) (hv : Bare E v i) (k : Int) :
    Calls Tryd.prog 15 #[v, .int .i64 k] w fun e w' => e = .returned (.bool ((i : Int) == k)) ∧ Below w.heap.size w w' := by
  have H1 := hide (code_any he v i _ (hv.err (w := w)))
  have H2 := hide (place_bare he v i hv)
  clear he hv
  go_enter Tryd.func15, Tryd.ntmps15
  go_wp2_with fail
  refine Calls.mono H1.out ?_
  rintro e w1 ⟨rfl, rfl⟩
  generalize hk : ((i : Int) == k) = bb
  cases bb
  · go_wp2
    go_ret
    exact ⟨by rw [hk]; rfl, Below.refl _ _⟩
  · go_wp2_with fail
    refine Calls.mono H2.out ?_
    rintro e w2 ⟨rfl, b2⟩
    have B2 := hide b2
    clear b2
    go_wp2
    go_ret
    exact ⟨by rw [hk]; rfl, B2.out⟩

/-! The fixed table: who runs, and behind its yield. -/
theorem some_good : Good someP [1, 0] [⟨3, 10⟩] := by unfold Good GoodR GoodT Form InR Nod Ord Pro.In Tm.In; decide
theorem some_pick : pickP someP [1, 0] [⟨3, 10⟩] = 1 ∧ pickE someP [1, 0] [⟨3, 10⟩] = 0 := ⟨by unfold pickP; rw [if_pos some_good]; decide, by unfold pickE; rw [if_neg (not_not_intro some_good)]; decide⟩
theorem some_ok : OkP someP 1 [1] := by unfold OkP; decide
theorem some_yld : yldR [1, 0] 1 = [0, 1] := by decide
theorem some_good2 : Good someP [0, 1] [⟨3, 10⟩] := by unfold Good GoodR GoodT Form InR Nod Ord Pro.In Tm.In; decide
theorem some_pick2 : pickP someP [0, 1] [⟨3, 10⟩] = 0 ∧ pickE someP [0, 1] [⟨3, 10⟩] = 0 := ⟨by unfold pickP; rw [if_pos some_good2]; decide, by unfold pickE; rw [if_neg (not_not_intro some_good2)]; decide⟩
theorem small_bad : ¬ Good [] [0] [] := by unfold Good GoodR GoodT Form InR Nod Ord Pro.In Tm.In; decide

set_option maxRecDepth 100000 in
set_option maxHeartbeats 4000000 in
theorem awake_any {w : World} {E : Nat → Addr} (he : Er9 w E) : Calls Tryd.prog 8 #[] w fun e w' => e = .returned (.bool true) ∧ Below w.heap.size w w' := by
  have HE := hide he
  clear he
  go_enter Tryd.func8, Tryd.ntmps8
  go_wp2_with fail
  refine Calls.mono (some_any w) ?_
  rintro e w1 ⟨g1, g2, g3, rfl, p1, i1, t1, b1⟩
  have P1 := hide p1
  have I1 := hide i1
  have T1 := hide t1
  have B1 := hide b1
  clear p1 i1 t1 b1
  go_wp2_with fail
  refine Calls.mono (to_any w1 _ _ _ ⟨_, _, _, rfl⟩ ⟨_, _, _, rfl⟩ ⟨_, _, _, rfl⟩) ?_
  rintro e w2 ⟨rfl, b2⟩
  have B2 := hide (chain B1.out b2)
  have P2 := hide (P1.out.below b2)
  have I2 := hide (I1.out.below b2)
  have T2 := hide (T1.out.below b2)
  clear b2
  go_wp2_with fail
  refine Calls.mono (pick_any (HE.out.below B2.out) _ 4 4 someP P2.out _ 2 2 [1, 0] I2.out _ 1 1 [⟨3, 10⟩] T2.out (by decide) (by decide) (by decide)) ?_
  rintro e w3 ⟨v, rfl, hv, b3⟩
  rw [some_pick.1]
  rw [some_pick.2] at hv
  obtain rfl := bare0 hv
  have B3 := hide (chain B2.out b3)
  clear b3 hv P1 I1 T1 P2 I2 T2 B1 B2
  go_wp2_with fail
  refine Calls.mono (some_any w3) ?_
  rintro e w4 ⟨g4, g5, g6, rfl, p1, i1, t1, b1⟩
  have P1 := hide p1
  have I1 := hide i1
  have T1 := hide t1
  have B1 := hide (chain B3.out b1)
  clear p1 i1 t1 b1
  go_wp2_with fail
  refine Calls.mono (to_any w4 _ _ _ ⟨_, _, _, rfl⟩ ⟨_, _, _, rfl⟩ ⟨_, _, _, rfl⟩) ?_
  rintro e w5 ⟨rfl, b2⟩
  have B2 := hide (chain B1.out b2)
  have P2 := hide (P1.out.below b2)
  have I2 := hide (I1.out.below b2)
  have T2 := hide (T1.out.below b2)
  clear b2
  go_wp2_with fail
  refine Calls.mono (yield_any (HE.out.below B2.out) _ 4 4 someP P2.out _ 2 2 [1, 0] I2.out _ 1 1 [⟨3, 10⟩] T2.out (by decide) (by decide) (by decide) 1) ?_
  rintro e w6 ⟨a1, n1, c1, a2, n2, c2, a3, n3, c3, v, rfl, hv, htab, b6⟩
  have hE : ofE (Good someP [1, 0] [⟨3, 10⟩]) (OkP someP 1 [1]) = 0 := by unfold ofE; rw [if_pos some_good, if_pos some_ok]
  have hT1 : ownT (Good someP [1, 0] [⟨3, 10⟩] ∧ OkP someP 1 [1]) someP = someP := if_pos ⟨some_good, some_ok⟩
  have hT2 : ownT (Good someP [1, 0] [⟨3, 10⟩] ∧ OkP someP 1 [1]) (yldR [1, 0] 1) = [0, 1] := by rw [← some_yld]; exact if_pos ⟨some_good, some_ok⟩
  have hT3 : ownT (Good someP [1, 0] [⟨3, 10⟩] ∧ OkP someP 1 [1]) [(⟨3, 10⟩ : Tm)] = [⟨3, 10⟩] := if_pos ⟨some_good, some_ok⟩
  rw [hE] at hv
  rw [hT1, hT2, hT3] at htab
  obtain rfl := bare0 hv
  obtain ⟨_, _, e1, hps⟩ := prown_pros htab.p
  obtain ⟨_, _, e2, his⟩ := iown_is htab.r
  obtain ⟨_, _, e3, hts⟩ := town_tms htab.t
  simp only [Value.slice.injEq] at e1 e2 e3
  obtain ⟨rfl, h1, rfl⟩ := e1
  obtain ⟨rfl, h2, rfl⟩ := e2
  obtain ⟨rfl, h3, rfl⟩ := e3
  obtain rfl : n1 = 4 := h1
  obtain rfl : n2 = 2 := h2
  obtain rfl : n3 = 1 := h3
  have X := new_below w6 (.cells #[.slice a1 4 c1, .slice a2 2 c2, .slice a3 1 c3] 29)
  have B6 := hide (chain (chain B2.out b6) X)
  have BM : Hid (Bl (w6.alloc (.cells #[.slice a1 4 c1, .slice a2 2 c2, .slice a3 1 c3] 29)) w6.heap.size [.slice a1 4 c1, .slice a2 2 c2, .slice a3 1 c3]) := bl_alloc w6 #[.slice a1 4 c1, .slice a2 2 c2, .slice a3 1 c3] 29
  have hz : Hid (w6.heap.size < (w6.alloc (.cells #[.slice a1 4 c1, .slice a2 2 c2, .slice a3 1 c3] 29)).heap.size) := by unfold Hid; simp
  have P6 : Hid (Pros (w6.alloc (.cells #[.slice a1 4 c1, .slice a2 2 c2, .slice a3 1 c3] 29)) a1 4 c1 someP) := hps.below X
  have I6 : Hid (Is (w6.alloc (.cells #[.slice a1 4 c1, .slice a2 2 c2, .slice a3 1 c3] 29)) a2 2 c2 [0, 1]) := his.below X
  have T6 : Hid (Tms (w6.alloc (.cells #[.slice a1 4 c1, .slice a2 2 c2, .slice a3 1 c3] 29)) a3 1 c3 [⟨3, 10⟩]) := hts.below X
  clear hE hT1 hT2 hT3 htab hps his hts hv X b6 P1 I1 T1 P2 I2 T2 B1 B2 B3
  go_upto_region 5 with fail
  generalize w6.alloc (.cells #[.slice a1 4 c1, .slice a2 2 c2, .slice a3 1 c3] 29) = WM at *
  generalize w6.heap.size = mb at *
  have m0 := BM.out.cell 0 _ rfl
  have m1 := BM.out.cell 1 _ rfl
  have m2 := BM.out.cell 2 _ rfl
  have X := new_below WM (.cells #[.int .i64 0, .int .i64 1] 3)
  have HW : Hid (Is (WM.alloc (.cells #[.int .i64 0, .int .i64 1] 3)) (some ⟨WM.heap.size, 0, none⟩) 2 2 [0, 1]) := rcs_alloc WM [(0 : Int), 1] 3 ci1 rfl
  have I7 := hide (I6.out.below X)
  have P7 := hide (P6.out.below X)
  have T7 := hide (T6.out.below X)
  have BM7 := hide (BM.out.below hz.out X)
  have B7 := hide (chain B6.out X)
  have hz7 : Hid (mb < (WM.alloc (.cells #[.int .i64 0, .int .i64 1] 3)).heap.size) := Nat.lt_of_lt_of_le hz.out X.size
  clear X P6 I6 T6
  go_wp2_with fail
  generalize WM.alloc (.cells #[.int .i64 0, .int .i64 1] 3) = WN at *
  refine Calls.mono (equalInts_any WN a2 2 c2 [0, 1] I7.out (some ⟨WM.heap.size, 0, none⟩) 2 2 [0, 1] HW.out (by decide) (by decide)) ?_
  rintro e w8 ⟨rfl, b8⟩
  have B8 := hide (chain B7.out b8)
  have P8 := hide (P7.out.below b8)
  have I8 := hide (I7.out.below b8)
  have T8 := hide (T7.out.below b8)
  have BM8 := hide (BM7.out.below hz7.out b8)
  rw [show decide ([(0 : Int), 1] = [0, 1]) = true by decide]
  clear b8 m0 m1 m2
  have m0 := BM8.out.cell 0 _ rfl
  have m1 := BM8.out.cell 1 _ rfl
  have m2 := BM8.out.cell 2 _ rfl
  go_wp2_with fail
  refine Calls.mono (pick_any (HE.out.below B8.out) a1 4 c1 someP P8.out a2 2 c2 [0, 1] I8.out a3 1 c3 [⟨3, 10⟩] T8.out (by decide) (by decide) (by decide)) ?_
  rintro e w9 ⟨v, rfl, hv, b9⟩
  rw [some_pick2.1]
  rw [some_pick2.2] at hv
  obtain rfl := bare0 hv
  have B9 := hide (chain B8.out b9)
  clear b9 hv
  go_wp2
  go_ret
  exact ⟨rfl, B9.out⟩
end Go.Proofs.YtcfkngkenkbkaaaDoor
