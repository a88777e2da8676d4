/-
  What the reading of ferrylaw04's cases that came in gives.
-/
import Derived.Test.YthcmeboepedelaaDoorIaLaid
import Derived.Test.YthcmeboepedelaaDoorIsEnc
namespace Go.Proofs.YthcmeboepedelaaDoor
open Go.ChangeShapes Go.WideShapes Go.ChangeAt Go.RowKit Go.Deep FerryCrc
set_option linter.unusedVariables false
/-- An instruction, a word, two texts. -/
structure C4 where
  i : Ins
  n : Nat
  s1 : ByteArray
  s2 : ByteArray
def C4.cells (c : C4) : List Value := [.int .i64 c.i.op, .int .i64 c.i.a, .int .i64 c.i.b, .int .i64 c.i.c, .int .i64 c.i.imm, .int .u32 (c.n : Int), .string c.s1, .string c.s2]
theorem cellsC4 : Tryd.prog.cellsOf 30 = 8 := by kernel_rfl
theorem cellsI5 : Tryd.prog.cellsOf 27 = 5 := by kernel_rfl
theorem cellsU1 : Tryd.prog.cellsOf 28 = 1 := by kernel_rfl
theorem cellsI1 : Tryd.prog.cellsOf 3 = 1 := by kernel_rfl
set_option maxRecDepth 100000 in
theorem ins_open {H : Type} {enc : TypeId × Value → H} {W : World} {fuel : Nat} {cs : List Value} {x : DataW H × List MemPlace}
    (hf : DataW.trod enc Tryd.prog W 0 (fun _ => true) true fuel 27 cs = some x) : ∃ i : Ins, cs = [.int .i64 i.op, .int .i64 i.a, .int .i64 i.b, .int .i64 i.c, .int .i64 i.imm] := by
  obtain ⟨xs, n, _, hx, hcl, hxl, hff⟩ := DataW.trod_struct Tryd.underlying27 hf
  rw [cellsI5] at hcl
  match xs, hxl, cs, hcl with
  | [y0, y1, y2, y3, y4], _, [v0, v1, v2, v3, v4], _ =>
    have g0 := hff 0 _ rfl
    have g1 := hff 1 _ rfl
    have g2 := hff 2 _ rfl
    have g3 := hff 3 _ rfl
    have g4 := hff 4 _ rfl
    simp [cellsI1] at g0 g1 g2 g3 g4
    obtain ⟨z0, e0, _, _⟩ := DataW.trod_int Tryd.underlying3 g0
    obtain ⟨z1, e1, _, _⟩ := DataW.trod_int Tryd.underlying3 g1
    obtain ⟨z2, e2, _, _⟩ := DataW.trod_int Tryd.underlying3 g2
    obtain ⟨z3, e3, _, _⟩ := DataW.trod_int Tryd.underlying3 g3
    obtain ⟨z4, e4, _, _⟩ := DataW.trod_int Tryd.underlying3 g4
    simp only [List.cons.injEq, and_true] at e0 e1 e2 e3 e4
    subst e0 e1 e2 e3 e4
    exact ⟨⟨z0, z1, z2, z3, z4⟩, rfl⟩
set_option maxRecDepth 100000 in
theorem case4_open {H : Type} {enc : TypeId × Value → H} {W : World} {fuel : Nat} {cs : List Value} {x : DataW H × List MemPlace}
    (hf : DataW.trod enc Tryd.prog W 0 (fun _ => true) true fuel 30 cs = some x) : ∃ c : C4, cs = c.cells ∧ c.n < 4294967296 := by
  obtain ⟨xs, n, _, hx, hcl, hxl, hff⟩ := DataW.trod_struct Tryd.underlying30 hf
  rw [cellsC4] at hcl
  match xs, hxl, cs, hcl with
  | [y0, y1, y2, y3], _, [v0, v1, v2, v3, v4, v5, v6, v7], _ =>
    have g0 := hff 0 _ rfl
    have g1 := hff 1 _ rfl
    have g2 := hff 2 _ rfl
    have g3 := hff 3 _ rfl
    simp [cellsI5, cellsU1, cellsS] at g0 g1 g2 g3
    obtain ⟨i, e0⟩ := ins_open g0
    obtain ⟨z1, e1, _, b1⟩ := DataW.trod_int Tryd.underlying28 g1
    obtain ⟨D, e2, _, _⟩ := DataW.trod_string Tryd.underlying9 g2
    obtain ⟨D', e3, _, _⟩ := DataW.trod_string Tryd.underlying9 g3
    simp only [List.cons.injEq, and_true] at e0 e1 e2 e3
    obtain ⟨a0, a1, a2, a3, a4⟩ := e0
    subst a0 a1 a2 a3 a4 e1 e2 e3
    have c1 := bounds_u32 b1
    obtain ⟨m, rfl⟩ := Int.eq_ofNat_of_zero_le c1.1
    exact ⟨⟨i, m, D, D'⟩, rfl, by show m < _; have := c1.2; omega⟩
end Go.Proofs.YthcmeboepedelaaDoor
