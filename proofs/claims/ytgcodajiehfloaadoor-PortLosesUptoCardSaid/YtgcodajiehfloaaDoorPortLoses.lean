/-
  For all cases of at most 1048576 values in all, the law PortLoses returns true and leaves its argument as it was: each message that comes is put or reported, and each one that was written is emitted, once, in order.
  The listed package variables are tied to the program's text by the given tie (over the pruned copy of the project; that nothing else writes them is the translator's report).
-/
import Derived.Test.YtgcodajiehfloaaDoorPortLosesWalk
import Derived.Test.YtgcodajiehfloaaDoorCaseOpen2
import Derived.Test.YtgcodajiehfloaaDoorDoorErr
import Derived.Deep.DeepHandedRow
import Derived.Deep.DeepWitnessRowRef
namespace Go.Proofs.YtgcodajiehfloaaDoor.portLoses
open Go.ChangeShapes Go.WideShapes Go.ChangeAt Go.RowKit
set_option linter.unusedVariables false

theorem door_met (os : Os) (args : Array Value) : laidMetH Tryd.prog Rows.portLosesUptoRow.laid ((World.doorLaid Tryd.prog 396 os).forCall (fun _ _ => 0) ⟨#[], args, []⟩).memory :=
  laidMetH_of_parts3 (fuel := 8) (laidMet_of_run' 8 (by kernel_rfl) (by kernel_rfl)) (by kernel_rfl) (by kernel_rfl)
theorem reads (os : Os) {H : Type} (enc : TypeId × Value → H) : ∃ places, DataW.whole enc Tryd.prog ((World.doorLaid Tryd.prog 396 os).forCall (fun _ _ => 0) ⟨#[], #[.agg #[.int .i64 0, .int .i64 0, .int .i64 0, .int .i64 0, .slice none 0 0, .int .i64 0, .string ByteArray.empty, .slice none 0 0, .slice none 0 0, .slice none 0 0]], []⟩).memory Tryd.f4.params.toList Rows.portLosesSpec.vars false (#[.agg #[.int .i64 0, .int .i64 0, .int .i64 0, .int .i64 0, .slice none 0 0, .int .i64 0, .string ByteArray.empty, .slice none 0 0, .slice none 0 0, .slice none 0 0]] : Array Value).toList 8 = some ([.agg [.agg [.lit (.int .i64 0), .lit (.int .i64 0), .lit (.int .i64 0), .lit (.int .i64 0)], .agg [.nil, .lit (.int .i64 0)], .lit (.string []), .nil, .nil, .nil]], [], places) :=
  ⟨[], by kernel_rfl⟩

set_option maxRecDepth 100000 in
theorem lifted (os : Os) (started : os.Started) (H : Type) (enc : TypeId × Value → H) (FF : Stop.Interp) :
    ReturnsInHanded {} Tryd.checked os 4 .any ((Rows.OpenSpec.upto Rows.portLosesSpec).preRow enc Tryd.prog Tryd.f4 Rows.portLosesUptoRow.domain false Rows.portLosesUptoRow.laid)
      (((Rows.OpenSpec.upto Rows.portLosesSpec).at FF).post enc Tryd.prog Tryd.f4 false true false false) := by
  obtain ⟨places, hx⟩ := reads os enc
  refine returnsInHanded_of_row (C := Tryd.checked) (s := Rows.OpenSpec.upto Rows.portLosesSpec) own started (by kernel_rfl) Tryd.func4
    (witness_row_atRef (enc := enc) (C := Tryd.checked) false (World.doorLaid Tryd.prog 396 os) #[.agg #[.int .i64 0, .int .i64 0, .int .i64 0, .int .i64 0, .slice none 0 0, .int .i64 0, .string ByteArray.empty, .slice none 0 0, .slice none 0 0, .slice none 0 0]] rfl (by kernel_rfl) (by kernel_rfl) (by kernel_rfl)
      (OpenSpec.preRow_of_cond 8 hx (by kernel_rfl) (fun k hk => by cases hk; kernel_rfl) (by kernel_rfl) (door_met os _))) ?_
  intro W base args ds gs before hval0 hW _ hcond hsz0 hL _ _
  clear hsz0
  have hbulk : Rows.uptoBulkAll (ds ++ gs) ≤ 1048576 := of_decide_eq_true (hcond _ rfl)
  have hval : ∀ (j : Nat) t v, Tryd.f4.params[j]? = some t → args[j]? = some v → Value.okWide Tryd.prog W .any base t v := hval0
  have hW' := hW
  obtain ⟨p, q, hA0, hV, rfl, hfz, hnd⟩ := hW
  have hA : DataW.TrodAll enc Tryd.prog W 0 (fun _ => true) true Tryd.f4.params.toList args.toList ds p := hA0
  rw [Tryd.params4] at hA hval
  obtain ⟨v0, vs0, d0, ds0, p0, q0, hargs, rfl, rfl, h0, r0⟩ := trodAll_cons hA
  obtain ⟨rfl, rfl, rfl⟩ := trodAll_nil r0
  obtain rfl : args = #[v0] := by cases args; simp_all
  obtain ⟨rfl, rfl⟩ := trodVars_none hV
  obtain ⟨cs0, rfl, _⟩ := okWide_struct Tryd.underlying31 (hval 0 31 v0 rfl rfl)
  have k0 := h0
  have lt0 : ∀ x ∈ p0, x.block < W.heap.size := by obtain ⟨m, hm⟩ := k0; exact DataW.trod_lt m _ _ _ hm
  have hb2 := hbulk
  simp only [List.append_nil, Rows.uptoBulkAll] at hb2
  obtain ⟨k, s, d, r, a, len, cap, age, D, a7, n7, c7, ps, a8, n8, c8, l, a9, n9, c9, ms, hcs0, r7, r8, r9, l7, l8, l9, hD⟩ := (by
    obtain ⟨fuel, hf⟩ := h0
    exact case_open2 hf (by omega) : ∃ (k s d r : Int) (a : Option Addr) (len cap : Nat) (age : Int) (D : ByteArray) (a7 : Option Addr) (n7 c7 : Nat) (ps : List Plv) (a8 : Option Addr) (n8 c8 : Nat) (l : List Pr) (a9 : Option Addr) (n9 c9 : Nat) (ms : List Mgv),
      (Value.agg cs0).cells.toList = [.int .i64 k, .int .i64 s, .int .i64 d, .int .i64 r, .slice a len cap, .int .i64 age, .string D, .slice a7 n7 c7, .slice a8 n8 c8, .slice a9 n9 c9] ∧
      Rcs Plv.cells 4 W a7 n7 c7 ps ∧ Prs W a8 n8 c8 l ∧ Rcs Mgv.cells 2 W a9 n9 c9 ms ∧ n7 ≤ 1048576 ∧ n8 ≤ 1048576 ∧ n9 ≤ 1048576 ∧ (∀ m ∈ ms, m.data.size ≤ 9223372036854775807))
  obtain rfl : cs0 = #[.int .i64 k, .int .i64 s, .int .i64 d, .int .i64 r, .slice a len cap, .int .i64 age, .string D, .slice a7 n7 c7, .slice a8 n8 c8, .slice a9 n9 c9] := by cases cs0; simpa [Value.cells] using hcs0
  clear hA0 hval0
  obtain ⟨E, hE⟩ := errs_of_laid (show laidMetH Tryd.prog allLaid W from hL)
  refine (law k s d r a len cap age D a7 n7 c7 ps a8 n8 c8 l a9 n9 c9 ms W hE r7 r8 r9 l7 l8 l9 hD).mono fun e W' ⟨he, bel⟩ => ?_
  subst he
  exact ⟨_, rfl, _, _, _, [], _, [], hW', trodAll_mk1 (shut_bool Tryd.underlying4 _), (trodAll_cons_mk (Below.trod laidOut (by kernel_rfl) (of_decide_eq_true (by kernel_rfl)) k0 bel lt0) trodAll_mk0), rfl, bel.frame _, fun h => by cases h⟩

theorem over : Rows.PortLosesUptoSaid :=
  OpenClaim.holds_of_cond 4 Tryd.f4 rfl rfl rfl rfl rfl rfl rfl ⟨rfl, rfl, rfl, rfl, rfl⟩ rfl rfl rfl rfl rfl (by kernel_rfl) Tryd.func4 (by kernel_rfl)
    (of_decide_eq_true (by kernel_rfl)) (by unfold Func.isWrapper; first | (rw [if_pos (by decide +kernel)]; kernel_rfl) | (rw [if_neg (by decide +kernel)]; exact ⟨rfl, rfl⟩))
    (fun os started H enc _ FF => by rw [OpenClaim.pre_eq_preRow]; exact lifted os started H enc FF)

theorem types_plain : ∀ t ∈ Tryd.f4.params.toList, Tryd.prog.wantsStandIn t = false := by
  rw [Tryd.params4]
  intro t ht
  simp only [List.mem_cons, List.not_mem_nil, or_false] at ht
  rcases ht with rfl
  exact (show Tryd.prog.wantsStandIn 31 = false by kernel_rfl)

end Go.Proofs.YtgcodajiehfloaaDoor.portLoses
namespace Go.Proofs.YtgcodajiehfloaaDoor
theorem portLoses_holds : Rows.PortLosesUptoCardSaid :=
  Claim7.holds_tied_plain_at .later [] [.handle, .sentinel, .sentinel, .sentinel, .sentinel, .sentinel, .sentinel, .sentinel, .sentinel, .sentinel, .sentinel, .sentinel, .sentinel, .sentinel, .sentinel, .sentinel, .sentinel, .sentinel, .sentinel, .sentinel, .sentinel] true (true, "a8a321321b4a170c3e5626ed0d2c8d659c19ea8610845e3849daee48c5385bef") true
    portLoses.over (fun _ h => by cases h) (by kernel_rfl) (fun _ h => by cases h) portLosesUpto_row_tie rfl ⟨rfl, rfl⟩ (by kernel_rfl) rfl
    (fun f fn hf hfn => by
      obtain rfl : f = 4 := Option.some.inj ((show Tryd.prog.funcNamed "ferry/ferrylaw07.PortLoses" = some 4 by kernel_rfl).symm.trans hf) |>.symm
      obtain rfl : fn = Tryd.f4 := (Option.some.inj (Tryd.func4.symm.trans hfn)).symm
      exact ⟨by kernel_rfl, fun j t ht => portLoses.types_plain t (by rw [Array.getElem?_eq_some_iff] at ht; obtain ⟨h1, h2⟩ := ht; rw [← h2]; simp)⟩)
    (by kernel_rfl)
#print axioms portLoses_holds
end Go.Proofs.YtgcodajiehfloaaDoor
