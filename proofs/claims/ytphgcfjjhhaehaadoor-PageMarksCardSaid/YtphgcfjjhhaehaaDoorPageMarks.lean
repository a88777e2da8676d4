/-
  For all lists of pages and all rows of stores the law PageMarks returns true and leaves its arguments as they were: what differs behind them was marked.
  The listed package variables are tied to the program's text by the given tie (over the pruned copy of the project; that nothing else writes them is the translator's report).
-/
import Derived.Test.YtphgcfjjhhaehaaDoorPageMarksWalk
import Derived.Test.YtphgcfjjhhaehaaDoorDoorErr
import Derived.Test.YtphgcfjjhhaehaaDoorPosOpen
namespace Go.Proofs.YtphgcfjjhhaehaaDoor.pageMarks
open Go.ChangeShapes Go.WideShapes Go.ChangeAt Go.RowKit FerryCrc
set_option linter.unusedVariables false

def twoNames : List (String × Nat × List UInt8) := [("ferry/api.ErrLength", 5, [97, 32, 108, 101, 110, 103, 116, 104, 32, 116, 104, 97, 116, 32, 105, 115, 110, 39, 116, 32, 116, 104, 101, 32, 116, 104, 105, 110, 103, 39, 115]), ("ferry/api.ErrArg", 11, [97, 32, 119, 114, 111, 110, 103, 32, 97, 114, 103, 117, 109, 101, 110, 116])]
theorem twoNames_are : ∀ x ∈ twoNames, Tryd.prog.globalNamed x.1 = some x.2.1 ∧ (Tryd.prog.globals[x.2.1]?).map (·.type) = some 34 := by
  intro x hx
  simp only [twoNames, List.mem_cons, List.not_mem_nil, or_false] at hx
  rcases hx with rfl | rfl
  · exact ⟨by kernel_rfl, by kernel_rfl⟩
  · exact ⟨by kernel_rfl, by kernel_rfl⟩
theorem two_parts {W : World} (h : laidMetH Tryd.prog (listed twoNames) W) : laidMet Tryd.prog (listed twoNames) W := h
set_option maxRecDepth 100000 in
theorem arg_of_laid {W : World} (h : laidMetH Tryd.prog (listed twoNames) W) : ∃ A, W.cell? ⟨11, 0, none⟩ = some (sent A) := by
  obtain ⟨ps, hv, hnd, hrows⟩ := two_parts h
  obtain ⟨As, h1, h2, h3, h4⟩ := sentinels_of Tryd.underlying34 rowE Tryd.underlying127 Tryd.underlying148 rfl rfl Tryd.underlying9 cellsES cellsS twoNames ps hv hnd hrows twoNames_are
  have hlen : As.length = 2 := h1
  have hget : ∀ i, i < 2 → As[i]? = some (As.getD i ⟨0, 0, none⟩) := fun i hi => by simp [hlen, hi]
  exact ⟨_, h4 1 _ _ rfl (hget 1 (by decide))⟩

theorem door_met (os : Os) (args : Array Value) : laidMetH Tryd.prog Rows.pageMarksRow.laid ((World.doorLaid Tryd.prog 396 os).forCall (fun _ _ => 0) ⟨#[], args, []⟩).memory :=
  laidMetH_of_parts3 (fuel := 8) (laidMet_of_run' 8 (by kernel_rfl) (by kernel_rfl)) (by kernel_rfl) (by kernel_rfl)

set_option maxRecDepth 100000 in
theorem lifted (os : Os) (started : os.Started) (H : Type) (enc : TypeId × Value → H) :
    ReturnsInHanded {} Tryd.checked os 8 .any (fun w args => (Rows.pageMarksSpec.pre enc Tryd.prog Tryd.f8 [] false w args ∧ laidMetH Tryd.prog Rows.pageMarksRow.laid w) ∧ sizedMet enc Tryd.prog Tryd.f8 (OpenSpec.ofChange Rows.pageMarksSpec) false w args)
      (Rows.pageMarksSpec.post enc Tryd.prog Tryd.f8 false true false false) := by
  refine returnsInHanded_of_change_and (C := Tryd.checked) (X := fun w _ => laidMetH Tryd.prog Rows.pageMarksRow.laid w) (fun _ _ _ hh h => h.of_heap hh) own started (by kernel_rfl) Tryd.func8
    (ChangeSpec.witness_shaped (enc := enc) (C := Tryd.checked) (os := os) (X := fun w _ => laidMetH Tryd.prog Rows.pageMarksRow.laid w) false (World.doorLaid Tryd.prog 396 os) #[.slice none 0 0, .slice none 0 0] 8 rfl (World.shaped_of_RefB (by kernel_rfl) (by kernel_rfl)) (by kernel_rfl) (by kernel_rfl) (by kernel_rfl) (door_met os _)) ?_
  intro W base args ds gs before hval0 hW _ hsz0 hL _
  have hsz : (DataW.weightsEach Tryd.prog (Tryd.f8.params.toList ++ Rows.pageMarksSpec.plain.varTypes Tryd.prog) (ds ++ gs)).all (· ≤ reachBytes) = true := hsz0
  clear hsz0
  have hval : ∀ (j : Nat) t v, Tryd.f8.params[j]? = some t → args[j]? = some v → Value.okWide Tryd.prog W .any base t v := hval0
  have hW' := hW
  obtain ⟨p, q, hA0, hV, rfl, hfz, hnd⟩ := hW
  have hA : DataW.TrodAll enc Tryd.prog W 0 (fun _ => true) true Tryd.f8.params.toList args.toList ds p := hA0
  rw [Tryd.params8] at hA hval hsz
  obtain ⟨v0, vs0, d0, ds0, p0, q0, hargs, rfl, rfl, h0, r0⟩ := trodAll_cons hA
  obtain ⟨v1, vs1, d1, ds1, p1, q1, rfl, rfl, rfl, h1, r1⟩ := trodAll_cons r0
  obtain ⟨rfl, rfl, rfl⟩ := trodAll_nil r1
  obtain rfl : args = #[v0, v1] := by cases args; simp_all
  obtain ⟨rfl, rfl⟩ := trodVars_none hV
  obtain ⟨a0, len0, cap0, rfl⟩ := okWide_slice Tryd.underlying22 (hval 0 22 v0 rfl rfl)
  have k0 := h0
  have lt0 : ∀ x ∈ p0, x.block < W.heap.size := by obtain ⟨m, hm⟩ := k0; exact DataW.trod_lt m _ _ _ hm
  have wt0 : ∀ m ∈ d0.weights Tryd.prog 22, m ≤ reachBytes := fun m hm => of_decide_eq_true (List.all_eq_true.1 hsz m (DataW.weights_mem_each (j := 0) rfl rfl m hm))
  obtain ⟨l0, w0⟩ : ∃ l, Pgs W a0 len0 cap0 l := by
    obtain ⟨fuel, hf⟩ := h0
    exact pages_open hf wt0
  obtain ⟨a1, len1, cap1, rfl⟩ := okWide_slice Tryd.underlying23 (hval 1 23 v1 rfl rfl)
  have k1 := h1
  have lt1 : ∀ x ∈ p1, x.block < W.heap.size := by obtain ⟨m, hm⟩ := k1; exact DataW.trod_lt m _ _ _ hm
  obtain ⟨C1, w1⟩ : ∃ C, Pos W a1 len1 C := by
    obtain ⟨fuel, hf⟩ := h1
    exact pos_open hf
  clear hA0 hval0
  obtain ⟨A12, hE⟩ := arg_of_laid (show laidMetH Tryd.prog (listed twoNames) W from hL)
  refine (law A12 a0 len0 cap0 l0 a1 len1 cap1 C1 W hE w0 w1).mono fun e W' ⟨he, bel⟩ => ?_
  subst he
  exact ⟨_, rfl, _, _, _, [], _, [], hW', trodAll_mk1 (shut_bool Tryd.underlying4 _), (trodAll_cons_mk (Below.trod laidOut (by kernel_rfl) (of_decide_eq_true (by kernel_rfl)) k0 bel lt0) (trodAll_cons_mk (Below.trod laidOut (by kernel_rfl) (of_decide_eq_true (by kernel_rfl)) k1 bel lt1) trodAll_mk0)), rfl, bel.frame _, fun h => by cases h⟩

theorem over : Rows.pageMarksRow.holds Tryd.pinned (OpenSpec.ofChange Rows.pageMarksSpec) :=
  OpenClaim.holds_of_wide 8 Tryd.f8 rfl rfl rfl rfl rfl rfl rfl ⟨rfl, rfl, rfl, rfl, rfl⟩ rfl rfl rfl rfl rfl (by kernel_rfl) Tryd.func8 (by kernel_rfl)
    (of_decide_eq_true (by kernel_rfl)) (by unfold Func.isWrapper; first | (rw [if_pos (by decide +kernel)]; kernel_rfl) | (rw [if_neg (by decide +kernel)]; exact ⟨rfl, rfl⟩))
    (fun os started H enc _ => lifted os started H enc)

theorem types_plain : ∀ t ∈ Tryd.f8.params.toList, Tryd.prog.wantsStandIn t = false := by
  rw [Tryd.params8]
  intro t ht
  simp only [List.mem_cons, List.not_mem_nil, or_false] at ht
  rcases ht with rfl | rfl
  · exact (show Tryd.prog.wantsStandIn 22 = false by kernel_rfl)
  · exact (show Tryd.prog.wantsStandIn 23 = false by kernel_rfl)

end Go.Proofs.YtphgcfjjhhaehaaDoor.pageMarks
namespace Go.Proofs.YtphgcfjjhhaehaaDoor
theorem pageMarks_holds : Rows.PageMarksCardSaid :=
  Claim7.holds_tied_plain_at .later [] [.sentinel, .sentinel] true (true, "8a5e620c09beef63b3e6ed3de4f724f29d59fe7383e6bdb5f53bcbf471a58d5a") true
    pageMarks.over (fun _ h => by cases h) (by kernel_rfl) (fun _ h => by cases h) pageMarks_row_tie rfl ⟨rfl, rfl⟩ (by kernel_rfl) rfl
    (fun f fn hf hfn => by
      obtain rfl : f = 8 := Option.some.inj ((show Tryd.prog.funcNamed "ferry/ferrylaw05.PageMarks" = some 8 by kernel_rfl).symm.trans hf) |>.symm
      obtain rfl : fn = Tryd.f8 := (Option.some.inj (Tryd.func8.symm.trans hfn)).symm
      exact ⟨by kernel_rfl, fun j t ht => pageMarks.types_plain t (by rw [Array.getElem?_eq_some_iff] at ht; obtain ⟨h1, h2⟩ := ht; rw [← h2]; simp)⟩)
    (by kernel_rfl)
#print axioms pageMarks_holds
end Go.Proofs.YtphgcfjjhhaehaaDoor
