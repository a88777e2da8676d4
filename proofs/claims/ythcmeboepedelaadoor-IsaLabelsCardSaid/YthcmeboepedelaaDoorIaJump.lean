/-
  What the reading of a Jump that came in gives.
-/
import Derived.Test.YthcmeboepedelaaDoorIaOpen
namespace Go.Proofs.YthcmeboepedelaaDoor
open Go.ChangeShapes Go.WideShapes Go.ChangeAt Go.RowKit Go.Deep
set_option linter.unusedVariables false
theorem cellsJump : Tryd.prog.cellsOf 48 = 4 := by kernel_rfl
set_option maxRecDepth 100000 in
theorem jump_open {H : Type} {enc : TypeId × Value → H} {W : World} {fuel : Nat} {cs : List Value} {x : DataW H × List MemPlace}
    (hf : DataW.trod enc Tryd.prog W 0 (fun _ => true) true fuel 48 cs = some x) : ∃ k s d r : Int, cs = [.int .i64 k, .int .i64 s, .int .i64 d, .int .i64 r] := by
  obtain ⟨zs, n0, _, hz, hcl, hzl, hzf⟩ := DataW.trod_struct Tryd.underlying48 hf
  rw [cellsJump] at hcl
  match zs, hzl, cs, hcl with
  | [z0, z1, z2, z3], _, [v0, v1, v2, v3], _ =>
    have g0 := hzf 0 _ rfl
    have g1 := hzf 1 _ rfl
    have g2 := hzf 2 _ rfl
    have g3 := hzf 3 _ rfl
    simp [cellsI1] at g0 g1 g2 g3
    obtain ⟨k, e0, _, _⟩ := DataW.trod_int Tryd.underlying3 g0
    obtain ⟨s, e1, _, _⟩ := DataW.trod_int Tryd.underlying3 g1
    obtain ⟨d, e2, _, _⟩ := DataW.trod_int Tryd.underlying3 g2
    obtain ⟨r, e3, _, _⟩ := DataW.trod_int Tryd.underlying3 g3
    simp only [List.cons.injEq, and_true] at e0 e1 e2 e3
    subst e0 e1 e2 e3
    exact ⟨k, s, d, r, rfl⟩
end Go.Proofs.YthcmeboepedelaaDoor
