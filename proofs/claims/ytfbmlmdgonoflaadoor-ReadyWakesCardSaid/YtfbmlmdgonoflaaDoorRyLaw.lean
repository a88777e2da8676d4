/-
  The laws' own some, to, plain and awake.
-/
import Derived.Test.YtfbmlmdgonoflaaDoorRyYield
namespace Go.Proofs.YtfbmlmdgonoflaaDoor
open Classical
open Go.RowKit
set_option linter.unusedVariables false
set_option linter.unusedSimpArgs false

theorem rcs_alloc {α : Type} {f : α → List Value} {sz : Nat} (w : World) (l : List α) (ty : TypeId) (hf : ∀ x, (f x).length = sz) {g : Nat} (hg : w.heap.size = g) : Rcs f sz (w.alloc (.cells (l.flatMap f).toArray ty)) (some ⟨g, 0, none⟩) l.length l.length l := by
  subst hg
  refine ⟨rfl, ⟨fl_len hf l, Nat.le_refl _, fun e => by simp at e, fun j v hv => ⟨_, _, rfl, ?_⟩⟩⟩
  rw [World.cell?_alloc_at _ _ _ _ rfl, Nat.zero_add]
  simpa using hv
def pro4 (st pr wt ob : Int) : Pro := ⟨0, 0, 0, 0, 0, 0, 0, 0, 0, 0, 0, 0, 0, 0, 0, 0, 0, st, pr, wt, ob⟩
def someP : List Pro := [pro4 1 5 0 0, pro4 1 5 0 0, pro4 2 3 3 1, pro4 2 3 1 0]
set_option maxRecDepth 100000 in
set_option maxHeartbeats 4000000 in
theorem some_any (w : World) : Calls Tryd.prog 7 #[] w fun e w' => ∃ g1 g2 g3, e = .returned (.agg #[.slice (some ⟨g1, 0, none⟩) 4 4, .slice (some ⟨g2, 0, none⟩) 2 2, .slice (some ⟨g3, 0, none⟩) 1 1]) ∧ Pros w' (some ⟨g1, 0, none⟩) 4 4 someP ∧ Is w' (some ⟨g2, 0, none⟩) 2 2 [1, 0] ∧ Tms w' (some ⟨g3, 0, none⟩) 1 1 [⟨3, 10⟩] ∧ Below w.heap.size w w' := by
  go_enter Tryd.func7, Tryd.ntmps7
  go_wp2
  refine bodyPost_ret (v := .agg #[.slice (some ⟨w.heap.size + 1, 0, none⟩) 4 4, .slice (some ⟨w.heap.size + 1 + 1, 0, none⟩) 2 2, .slice (some ⟨w.heap.size + 1 + 1 + 1, 0, none⟩) 1 1]) (by simp [results, Tryd.results7, go_sem]) rfl ?_
  refine ⟨_, _, _, rfl, ?_, ?_, ?_, ?_⟩
  · exact ((rcs_alloc _ someP 55 pro21 (by simp)).below (new_below _ _)).below (new_below _ _)
  · exact (rcs_alloc _ [(1 : Int), 0] 3 ci1 (by simp)).below (new_below _ _)
  · exact rcs_alloc _ [(⟨3, 10⟩ : Tm)] 57 tm2 (by simp)
  · exact chain (chain (chain (new_below _ _) (new_below _ _)) (new_below _ _)) (new_below _ _)

set_option maxRecDepth 100000 in
set_option maxHeartbeats 4000000 in
theorem to_any (w : World) (v1 v2 v3 : Value) (h1 : ∃ a n c, v1 = .slice a n c) (h2 : ∃ a n c, v2 = .slice a n c) (h3 : ∃ a n c, v3 = .slice a n c) :
    Calls Tryd.prog 6 #[.agg #[v1, v2, v3]] w fun e w' => e = .returned (.agg #[v1, v2, v3]) ∧ Below w.heap.size w w' := by
  obtain ⟨a1, n1, c1, rfl⟩ := h1
  obtain ⟨a2, n2, c2, rfl⟩ := h2
  obtain ⟨a3, n3, c3, rfl⟩ := h3
  go_enter Tryd.func6, Tryd.ntmps6
  go_wp2
  refine bodyPost_ret (v := .agg #[.slice a1 n1 c1, .slice a2 n2 c2, .slice a3 n3 c3]) (by simp [results, Tryd.results6, go_sem]) rfl ?_
  exact ⟨rfl, chain (new_below _ _) (new_below _ _)⟩

set_option maxRecDepth 100000 in
set_option maxHeartbeats 4000000 in
theorem plain_any {w : World} {E : Nat → Addr} (he : Errs w E) (v : Value) (i : Nat) (hv : Bare E v i) (k : Int) :
    Calls Tryd.prog 14 #[v, .int .i64 k] w fun e w' => e = .returned (.bool ((i : Int) == k)) ∧ Below w.heap.size w w' := by
  have H1 := hide (code_any he v i _ (hv.err (w := w)))
  have H2 := hide (place_bare he v i hv)
  clear he hv
  go_enter Tryd.func14, Tryd.ntmps14
  go_wp2_with fail
  refine Calls.mono H1.out ?_
  rintro e w1 ⟨rfl, rfl⟩
  generalize hk : ((i : Int) == k) = bb
  cases bb
  · go_wp2
    go_ret
    exact ⟨by rw [hk]; rfl, Below.refl _ _⟩
  · go_wp2_with fail
    refine Calls.mono H2.out ?_
    rintro e w2 ⟨rfl, b2⟩
    have B2 := hide b2
    clear b2
    go_wp2
    go_ret
    exact ⟨by rw [hk]; rfl, B2.out⟩

/-! The fixed table: who runs, and behind its yield. -/
theorem some_good : Good someP [1, 0] [⟨3, 10⟩] := by unfold Good GoodR GoodT Form InR Nod Ord Pro.In Tm.In; decide
theorem some_pick : pickP someP [1, 0] [⟨3, 10⟩] = 1 ∧ pickE someP [1, 0] [⟨3, 10⟩] = 0 := ⟨by unfold pickP; rw [if_pos some_good]; decide, by unfold pickE; rw [if_neg (not_not_intro some_good)]; decide⟩
theorem some_ok : OkP someP 1 [1] := by unfold OkP; decide
theorem some_yld : yldR [1, 0] 1 = [0, 1] := by decide
theorem some_good2 : Good someP [0, 1] [⟨3, 10⟩] := by unfold Good GoodR GoodT Form InR Nod Ord Pro.In Tm.In; decide
theorem some_pick2 : pickP someP [0, 1] [⟨3, 10⟩] = 0 ∧ pickE someP [0, 1] [⟨3, 10⟩] = 0 := ⟨by unfold pickP; rw [if_pos some_good2]; decide, by unfold pickE; rw [if_neg (not_not_intro some_good2)]; decide⟩
theorem small_bad : ¬ Good [] [0] [] := by unfold Good GoodR GoodT Form InR Nod Ord Pro.In Tm.In; decide

end Go.Proofs.YtfbmlmdgonoflaaDoor
