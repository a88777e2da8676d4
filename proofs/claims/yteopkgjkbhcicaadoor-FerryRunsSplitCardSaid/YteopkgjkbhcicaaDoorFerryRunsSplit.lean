/-
  instructions taken in two goes are those taken in one; a page without the right to be written stays as it is, one that is not dirty has the bytes that it had, one that is dirty stays so; register 0 stays 0 (the given statement, over every list of plans, every process, every two numbers)
  The listed package variables are tied to the program's text by the given tie (over the pruned copy of the project; that nothing else writes them is the translator's report).
-/
import Derived.Test.YteopkgjkbhcicaaDoorFerryRunsSplitWalk
import Derived.Test.YteopkgjkbhcicaaDoorFsOpen
namespace Go.Proofs.YteopkgjkbhcicaaDoor.ferryRunsSplit
open Go.ChangeShapes Go.WideShapes Go.ChangeAt Go.RowKit FerryCrc
set_option linter.unusedVariables false

theorem door_met (os : Os) (args : Array Value) : laidMetH Tryd.prog Rows.ferryRunsSplitRow.laid ((World.doorLaid Tryd.prog 135 os).forCall (fun _ _ => 0) ⟨#[], args, []⟩).memory :=
  laidMetH_of_parts3 (fuel := 8) (laidMet_of_run' 8 (by kernel_rfl) (by kernel_rfl)) (by kernel_rfl) (by kernel_rfl)

set_option maxRecDepth 100000 in
theorem lifted (os : Os) (started : os.Started) (H : Type) (enc : TypeId × Value → H) :
    ReturnsInHanded {} Tryd.checked os 7 .any (fun w args => (Rows.ferryRunsSplitSpec.pre enc Tryd.prog Tryd.f7 [] false w args ∧ laidMetH Tryd.prog Rows.ferryRunsSplitRow.laid w) ∧ sizedMet enc Tryd.prog Tryd.f7 (OpenSpec.ofChange Rows.ferryRunsSplitSpec) false w args)
      (Rows.ferryRunsSplitSpec.post enc Tryd.prog Tryd.f7 false true false false) := by
  refine returnsInHanded_of_change_and (C := Tryd.checked) (X := fun w _ => laidMetH Tryd.prog Rows.ferryRunsSplitRow.laid w) (fun _ _ _ hh h => h.of_heap hh) own started (by kernel_rfl) Tryd.func7
    (ChangeSpec.witness_shaped (enc := enc) (C := Tryd.checked) (os := os) (X := fun w _ => laidMetH Tryd.prog Rows.ferryRunsSplitRow.laid w) false (World.doorLaid Tryd.prog 135 os) #[.agg #[.slice none 0 0, .int .u32 0, .int .u32 0, .int .u32 0, .int .u32 0, .int .u32 0, .int .u32 0, .int .u32 0, .int .u32 0, .int .u32 0, .int .u32 0, .int .u32 0, .int .u32 0, .int .u32 0, .int .u32 0, .int .u32 0, .int .u32 0, .int .u32 0, .int .i64 0, .int .i64 0, .int .i64 0, .int .i64 0, .int .i64 0, .int .i64 0]] 8 rfl (World.shaped_of_RefB (by kernel_rfl) (by kernel_rfl)) (by kernel_rfl) (by kernel_rfl) (by kernel_rfl) (door_met os _)) ?_
  intro W base args ds gs before hval0 hW _ hsz0 hL _
  have hsz : (DataW.weightsEach Tryd.prog (Tryd.f7.params.toList ++ Rows.ferryRunsSplitSpec.plain.varTypes Tryd.prog) (ds ++ gs)).all (· ≤ reachBytes) = true := hsz0
  clear hsz0
  have hval : ∀ (j : Nat) t v, Tryd.f7.params[j]? = some t → args[j]? = some v → Value.okWide Tryd.prog W .any base t v := hval0
  have hW' := hW
  obtain ⟨p, q, hA0, hV, rfl, hfz, hnd⟩ := hW
  have hA : DataW.TrodAll enc Tryd.prog W 0 (fun _ => true) true Tryd.f7.params.toList args.toList ds p := hA0
  rw [Tryd.params7] at hA hval hsz
  obtain ⟨v0, vs0, d0, ds0, p0, q0, hargs, rfl, rfl, h0, r0⟩ := trodAll_cons hA
  obtain ⟨rfl, rfl, rfl⟩ := trodAll_nil r0
  obtain rfl : args = #[v0] := by cases args; simp_all
  obtain ⟨rfl, rfl⟩ := trodVars_none hV
  obtain ⟨cs0, rfl, _⟩ := okWide_struct Tryd.underlying50 (hval 0 50 v0 rfl rfl)
  have k0 := h0
  have lt0 : ∀ x ∈ p0, x.block < W.heap.size := by obtain ⟨m, hm⟩ := k0; exact DataW.trod_lt m _ _ _ hm
  have wt0 : ∀ m ∈ d0.weights Tryd.prog 50, m ≤ reachBytes := fun m hm => of_decide_eq_true (List.all_eq_true.1 hsz m (DataW.weights_mem_each (j := 0) rfl rfl m hm))
  obtain ⟨a0, len0, cap0, pl0, m0, n0, kk0, hcs0, w0, ok0, lm0, okm0⟩ := (by
    obtain ⟨fuel, hf⟩ := h0
    exact runs_open hf wt0 : ∃ (a : Option Addr) (len cap : Nat) (pl : List Pnv) (m : Mc) (n k : Int), (Value.agg cs0).cells.toList = .slice a len cap :: (m.proc ++ [.int .i64 n, .int .i64 k]) ∧ Rcs Pnv.cells 2 W a len cap pl ∧ (∀ p ∈ pl, p.Ok) ∧ len ≤ 5864062014805 ∧ m.Ok)
  obtain rfl : cs0 = (.slice a0 len0 cap0 :: (m0.proc ++ [.int .i64 n0, .int .i64 kk0])).toArray := by cases cs0; simpa [Value.cells] using hcs0
  clear hA0 hval0
  obtain ⟨A, E, hC, hE⟩ := frs_of_laid hL
  refine (law a0 len0 cap0 pl0 m0 n0 kk0 W E A hE hC w0 ok0 lm0 okm0).mono fun e W' ⟨he, bel⟩ => ?_
  subst he
  exact ⟨_, rfl, _, _, _, [], _, [], hW', trodAll_mk1 (shut_bool Tryd.underlying4 _), (trodAll_cons_mk (Below.trod laidOut (by kernel_rfl) (of_decide_eq_true (by kernel_rfl)) k0 bel lt0) trodAll_mk0), rfl, bel.frame _, fun h => by cases h⟩

theorem over : Rows.ferryRunsSplitRow.holds Tryd.pinned (OpenSpec.ofChange Rows.ferryRunsSplitSpec) :=
  OpenClaim.holds_of_wide 7 Tryd.f7 rfl rfl rfl rfl rfl rfl rfl ⟨rfl, rfl, rfl, rfl, rfl⟩ rfl rfl rfl rfl rfl (by kernel_rfl) Tryd.func7 (by kernel_rfl)
    (of_decide_eq_true (by kernel_rfl)) (by unfold Func.isWrapper; first | (rw [if_pos (by decide +kernel)]; kernel_rfl) | (rw [if_neg (by decide +kernel)]; exact ⟨rfl, rfl⟩))
    (fun os started H enc _ => lifted os started H enc)

theorem types_plain : ∀ t ∈ Tryd.f7.params.toList, Tryd.prog.wantsStandIn t = false := by
  rw [Tryd.params7]
  intro t ht
  simp only [List.mem_cons, List.not_mem_nil, or_false] at ht
  rcases ht with rfl
  · exact (show Tryd.prog.wantsStandIn 50 = false by kernel_rfl)

end Go.Proofs.YteopkgjkbhcicaaDoor.ferryRunsSplit
namespace Go.Proofs.YteopkgjkbhcicaaDoor
theorem ferryRunsSplit_holds : Rows.FerryRunsSplitCardSaid :=
  Claim7.holds_tied_plain_at .later [] [.sentinel, .sentinel, .sentinel, .sentinel, .sentinel, .sentinel, .data] true (true, "8809deff09599b9dadb1da376ce304b390e2526a5762cf464c95f51d534ce6c3") false
    ferryRunsSplit.over (fun _ h => by cases h) (by kernel_rfl) (fun _ h => by cases h) ferryRunsSplit_row_tie rfl ⟨rfl, rfl⟩ (by kernel_rfl) rfl
    (fun f fn hf hfn => by
      obtain rfl : f = 7 := Option.some.inj ((show Tryd.prog.funcNamed "ferry/ferrytop.FerryRunsSplit" = some 7 by kernel_rfl).symm.trans hf) |>.symm
      obtain rfl : fn = Tryd.f7 := (Option.some.inj (Tryd.func7.symm.trans hfn)).symm
      exact ⟨by kernel_rfl, fun j t ht => ferryRunsSplit.types_plain t (by rw [Array.getElem?_eq_some_iff] at ht; obtain ⟨h1, h2⟩ := ht; rw [← h2]; simp)⟩)
    (by kernel_rfl)
#print axioms ferryRunsSplit_holds
end Go.Proofs.YteopkgjkbhcicaaDoor
