/-
  What the reading of an image to be cut gives.
-/
import Derived.Test.YtdbciciljeainaaDoorCkOpen
namespace Go.Proofs.YtdbciciljeainaaDoor
open Go.ChangeShapes Go.WideShapes Go.ChangeAt Go.RowKit Go.Deep FerryCrc
set_option linter.unusedVariables false

/-- An image to be cut. -/
structure Pce where
  (part stage boot peer num : Int) (image : ByteArray)
def Pce.cells (p : Pce) : List Value := [.int .i64 p.part, .int .i64 p.stage, .int .i64 p.boot, .int .i64 p.peer, .int .i64 p.num, .string p.image]
/-- What a Piece's numbers and its text keep to. -/
structure Pce.Ok (p : Pce) : Prop where
  p1 : -9223372036854775808 ≤ p.part
  p2 : p.part ≤ 9223372036854775807
  s1 : -9223372036854775808 ≤ p.stage
  s2 : p.stage ≤ 9223372036854775807
  m1 : -9223372036854775808 ≤ p.num
  m2 : p.num ≤ 9223372036854775807
  im : p.image.size ≤ 140737488351232
theorem cellsPc : Tryd.prog.cellsOf 43 = 6 := by kernel_rfl
set_option maxRecDepth 100000 in
theorem xid_open2 {H : Type} {enc : TypeId × Value → H} {W : World} {fuel : Nat} {cs : List Value} {x : DataW H × List MemPlace}
    (hf : DataW.trod enc Tryd.prog W 0 (fun _ => true) true fuel 23 cs = some x) : ∃ b r m : Int, cs = [.int .i64 b, .int .i64 r, .int .i64 m] ∧ -9223372036854775808 ≤ m ∧ m ≤ 9223372036854775807 := by
  obtain ⟨xs, n, _, hx, hcl, hxl, hff⟩ := DataW.trod_struct Tryd.underlying23 hf
  rw [cellsXd] at hcl
  match xs, hxl, cs, hcl with
  | [y0, y1, y2], _, [v0, v1, v2], _ =>
    have g0 := hff 0 _ rfl
    have g1 := hff 1 _ rfl
    have g2 := hff 2 _ rfl
    simp [cellsIn] at g0 g1 g2
    obtain ⟨z0, e0, _, _⟩ := DataW.trod_int Tryd.underlying3 g0
    obtain ⟨z1, e1, _, _⟩ := DataW.trod_int Tryd.underlying3 g1
    obtain ⟨z2, e2, _, b2⟩ := DataW.trod_int Tryd.underlying3 g2
    simp only [List.cons.injEq, and_true] at e0 e1 e2
    subst e0 e1 e2
    have c2 := bounds_i64 b2
    exact ⟨z0, z1, z2, rfl, c2.1, by have := c2.2; omega⟩
set_option maxRecDepth 100000 in
theorem piece_open {H : Type} {enc : TypeId × Value → H} {W : World} {fuel : Nat} {cs : List Value} {x : DataW H × List MemPlace}
    (hf : DataW.trod enc Tryd.prog W 0 (fun _ => true) true fuel 43 cs = some x) (hw : ∀ m ∈ x.1.weights Tryd.prog 43, m ≤ reachBytes) : ∃ p : Pce, cs = p.cells ∧ p.Ok := by
  obtain ⟨xs, n, _, hx, hcl, hxl, hff⟩ := DataW.trod_struct Tryd.underlying43 hf
  rw [cellsPc] at hcl
  match xs, hxl, cs, hcl with
  | [y0, y1, y2, y3], _, [v0, v1, v2, v3, v4, v5], _ =>
    have g0 := hff 0 _ rfl
    have g1 := hff 1 _ rfl
    have g2 := hff 2 _ rfl
    have g3 := hff 3 _ rfl
    simp [cellsIn, cellsXd, cellsSt] at g0 g1 g2 g3
    obtain ⟨z0, e0, _, b0⟩ := DataW.trod_int Tryd.underlying3 g0
    obtain ⟨z1, e1, _, b1⟩ := DataW.trod_int Tryd.underlying3 g1
    obtain ⟨zb, zr, zm, e2, m1, m2⟩ := xid_open2 g2
    obtain ⟨D, e3, hx3, b3⟩ := DataW.trod_string Tryd.underlying9 g3
    have h3 : D.data.toList.length ≤ reachBytes := hw D.data.toList.length (by
      rw [hx]
      simp only [DataW.weights, Tryd.underlying43, List.map_cons, List.map_nil, DataW.weightsEach, List.mem_append]
      refine .inr (.inr (.inr (.inl ?_)))
      rw [hx3]
      simp [DataW.weights])
    unfold reachBytes at h3
    simp only [List.cons.injEq, and_true] at e0 e1 e2 e3
    obtain ⟨e2a, e2b, e2c⟩ := e2
    subst e0 e1 e2a e2b e2c e3
    have c0 := bounds_i64 b0
    have c1 := bounds_i64 b1
    exact ⟨⟨z0, z1, zb, zr, zm, D⟩, rfl, ⟨c0.1, by show z0 ≤ _; have := c0.2; omega, c1.1, by show z1 ≤ _; have := c1.2; omega, m1, m2, by show D.size ≤ _; simpa using h3⟩⟩
end Go.Proofs.YtdbciciljeainaaDoor
