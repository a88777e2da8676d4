/-
  Calls on a memory, as records in a list that came in.
-/
import Derived.Test.YtbekdbgnpcbklaaDoorPgMark
import Derived.Test.YtbekdbgnpcbklaaDoorPgOpen
namespace Go.Proofs.YtbekdbgnpcbklaaDoor
open Go.ChangeShapes Go.WideShapes Go.ChangeAt Go.RowKit Go.Deep FerryCrc
set_option linter.unusedVariables false

/-- One call: kind, size, address, number, data. -/
structure Po where
  kind : Int
  size : Int
  addr : Nat
  v : Nat
  data : ByteArray
structure Po.Ok (p : Po) : Prop where
  k1 : -9223372036854775808 ≤ p.kind
  k2 : p.kind ≤ 9223372036854775807
  s1 : -9223372036854775808 ≤ p.size
  s2 : p.size ≤ 9223372036854775807
  addr : p.addr < 4294967296
  v : p.v < 4294967296
  data : p.data.size ≤ 9223372036854775807
def Po.cells (p : Po) : List Value := [.int .i64 p.kind, .int .i64 p.size, .int .u32 (p.addr : Int), .int .u32 (p.v : Int), .string p.data]
structure Pos (w : World) (a : Option Addr) (len : Nat) (C : Nat → Po) : Prop where
  most : len ≤ 9223372036854775807
  cell : ∀ k, k < len → ∃ b off, a = some ⟨b, off, none⟩ ∧ (C k).Ok ∧ w.rangeAt b (off + k * 5) (C k).cells
theorem Pos.below {w w' : World} {a : Option Addr} {len : Nat} {C : Nat → Po} (h : Pos w a len C) (hb : Below w.heap.size w w') : Pos w' a len C :=
  ⟨h.most, fun k hk => by
    obtain ⟨b, off, e, o, hr⟩ := h.cell k hk
    exact ⟨b, off, e, o, range_below hr hb⟩⟩
theorem cellsPo : Tryd.prog.cellsOf 25 = 5 := by kernel_rfl
theorem cellsU : Tryd.prog.cellsOf 23 = 1 := by kernel_rfl
theorem cellsStr : Tryd.prog.cellsOf 9 = 1 := by kernel_rfl

set_option maxRecDepth 100000 in
theorem po_open {H : Type} {enc : TypeId × Value → H} {W : World} {fuel : Nat} {cs : List Value} {x : DataW H × List MemPlace}
    (h2 : DataW.trod enc Tryd.prog W 0 (fun _ => true) true fuel 25 cs = some x) (hlen : cs.length = 5) : ∃ p : Po, p.Ok ∧ cs = p.cells := by
  obtain ⟨xs, n, _, _, _, hxl, hff⟩ := DataW.trod_struct Tryd.underlying25 h2
  match xs, hxl, cs, hlen with
  | [y0, y1, y2, y3, y4], _, [v0, v1, v2, v3, v4], _ =>
    have g0 : DataW.trod enc Tryd.prog W 0 (fun _ => true) true n 3 (([v0, v1, v2, v3, v4].drop 0).take (Tryd.prog.cellsOf 3)) = some y0 := hff 0 _ rfl
    have g1 : DataW.trod enc Tryd.prog W 0 (fun _ => true) true n 3 (([v0, v1, v2, v3, v4].drop 1).take (Tryd.prog.cellsOf 3)) = some y1 := hff 1 _ rfl
    have g2 : DataW.trod enc Tryd.prog W 0 (fun _ => true) true n 23 (([v0, v1, v2, v3, v4].drop 2).take (Tryd.prog.cellsOf 23)) = some y2 := hff 2 _ rfl
    have g3 : DataW.trod enc Tryd.prog W 0 (fun _ => true) true n 23 (([v0, v1, v2, v3, v4].drop 3).take (Tryd.prog.cellsOf 23)) = some y3 := hff 3 _ rfl
    have g4 : DataW.trod enc Tryd.prog W 0 (fun _ => true) true n 9 (([v0, v1, v2, v3, v4].drop 4).take (Tryd.prog.cellsOf 9)) = some y4 := hff 4 _ rfl
    rw [cellsPi] at g0 g1
    rw [cellsU] at g2 g3
    rw [cellsStr] at g4
    obtain ⟨z0, e0, _, b0⟩ := DataW.trod_int Tryd.underlying3 g0
    obtain ⟨z1, e1, _, b1⟩ := DataW.trod_int Tryd.underlying3 g1
    obtain ⟨z2, e2, _, b2⟩ := DataW.trod_int Tryd.underlying23 g2
    obtain ⟨z3, e3, _, b3⟩ := DataW.trod_int Tryd.underlying23 g3
    obtain ⟨s, e4, _, b4⟩ := DataW.trod_string Tryd.underlying9 g4
    simp at e0 e1 e2 e3 e4
    subst e0 e1 e2 e3 e4
    have i0 := bounds_i64 b0
    have i1 := bounds_i64 b1
    have u2 := bounds_u32 b2
    have u3 := bounds_u32 b3
    obtain ⟨n2, rfl⟩ := Int.eq_ofNat_of_zero_le u2.1
    obtain ⟨n3, rfl⟩ := Int.eq_ofNat_of_zero_le u3.1
    exact ⟨⟨z0, z1, n2, n3, s⟩, ⟨i0.1, i0.2, i1.1, i1.2, by show n2 < _; omega, by show n3 < _; omega, by unfold maxLen at b4; exact Nat.le_trans b4 (by decide)⟩, rfl⟩

theorem po_open' {H : Type} {enc : TypeId × Value → H} {W : World} {fuel : Nat} {cs : List Value} {x : DataW H × List MemPlace}
    (h2 : DataW.trod enc Tryd.prog W 0 (fun _ => true) true fuel 25 cs = some x) : ∃ p : Po, p.Ok ∧ cs = p.cells := by
  obtain ⟨xs, n, _, _, hcl, _, _⟩ := DataW.trod_struct Tryd.underlying25 h2
  rw [cellsPo] at hcl
  exact po_open h2 hcl

end Go.Proofs.YtbekdbgnpcbklaaDoor
