/-
  What the reading of a case that came in gives: its table, its numbers.
-/
import Derived.Test.YtfbmlmdgonoflaaDoorTabOpen
namespace Go.Proofs.YtfbmlmdgonoflaaDoor
open Go.ChangeShapes Go.WideShapes Go.ChangeAt Go.RowKit Go.Deep FerryCrc
set_option linter.unusedVariables false

theorem cellsCs : Tryd.prog.cellsOf 29 = 11 := by kernel_rfl
set_option maxRecDepth 100000 in
theorem case9_open {H : Type} {enc : TypeId × Value → H} {W : World} {fuel : Nat} {cs : List Value} {x : DataW H × List MemPlace}
    (hf : DataW.trod enc Tryd.prog W 0 (fun _ => true) true fuel 29 cs = some x) (hw : ∀ m ∈ x.1.weights Tryd.prog 29, m ≤ reachBytes) :
    ∃ (a1 : Option Addr) (n1 c1 : Nat) (l : List Pro) (a2 : Option Addr) (n2 c2 : Nat) (r : List Int) (a3 : Option Addr) (n3 c3 : Nat) (t : List Tm) (p wt ob du pr st nw xx : Int), cs = [.slice a1 n1 c1, .slice a2 n2 c2, .slice a3 n3 c3, .int .i64 p, .int .i64 wt, .int .i64 ob, .int .i64 du, .int .i64 pr, .int .i64 st, .int .i64 nw, .int .u32 xx] ∧ Pros W a1 n1 c1 l ∧ Is W a2 n2 c2 r ∧ Tms W a3 n3 c3 t ∧ n1 ≤ 1353245080400 ∧ n2 ≤ 9223372036854775807 ∧ n3 ≤ 9223372036854775807 := by
  obtain ⟨xs, n, _, hx, hcl, hxl, hff⟩ := DataW.trod_struct Tryd.underlying29 hf
  rw [cellsCs] at hcl
  match xs, hxl, cs, hcl with
  | [y0, y1, y2, y3, y4, y5, y6, y7, y8], _, [v0, v1, v2, v3, v4, v5, v6, v7, v8, v9, v10], _ =>
    have g0 := hff 0 _ rfl
    have g1 := hff 1 _ rfl
    have g2 := hff 2 _ rfl
    have g3 := hff 3 _ rfl
    have g4 := hff 4 _ rfl
    have g5 := hff 5 _ rfl
    have g6 := hff 6 _ rfl
    have g7 := hff 7 _ rfl
    have g8 := hff 8 _ rfl
    simp [cellsTab, cellsTmI, cellsU32] at g0 g1 g2 g3 g4 g5 g6 g7 g8
    subst hx
    simp only [DataW.weights, Tryd.underlying29, List.map_cons, List.map_nil, DataW.weightsEach, List.mem_append] at hw
    obtain ⟨a1, n1, c1, l, a2, n2, c2, r, a3, n3, c3, t, e0, p0, p1, p2, b0, b1, b2⟩ := tab_open g0 (fun m hm => hw m (Or.inl hm))
    obtain ⟨z1, e1, _, _⟩ := DataW.trod_int Tryd.underlying3 g1
    obtain ⟨z2, e2, _, _⟩ := DataW.trod_int Tryd.underlying3 g2
    obtain ⟨z3, e3, _, _⟩ := DataW.trod_int Tryd.underlying3 g3
    obtain ⟨z4, e4, _, _⟩ := DataW.trod_int Tryd.underlying3 g4
    obtain ⟨z5, e5, _, _⟩ := DataW.trod_int Tryd.underlying3 g5
    obtain ⟨z6, e6, _, _⟩ := DataW.trod_int Tryd.underlying3 g6
    obtain ⟨z7, e7, _, _⟩ := DataW.trod_int Tryd.underlying3 g7
    obtain ⟨z8, e8, _, _⟩ := DataW.trod_int Tryd.underlying27 g8
    simp only [List.cons.injEq, and_true] at e0 e1 e2 e3 e4 e5 e6 e7 e8
    obtain ⟨rfl, rfl, rfl⟩ := e0
    subst e1 e2 e3 e4 e5 e6 e7 e8
    exact ⟨a1, n1, c1, l, a2, n2, c2, r, a3, n3, c3, t, _, _, _, _, _, _, _, _, rfl, p0, p1, p2, b0, b1, b2⟩
end Go.Proofs.YtfbmlmdgonoflaaDoor
