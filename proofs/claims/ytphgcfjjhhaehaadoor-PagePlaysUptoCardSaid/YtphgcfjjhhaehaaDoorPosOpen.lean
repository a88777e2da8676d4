/-
  Calls on a memory, as records in a list that came in.
-/
import Derived.Test.YtphgcfjjhhaehaaDoorPgMark
import Derived.Test.YtphgcfjjhhaehaaDoorPgOpen
namespace Go.Proofs.YtphgcfjjhhaehaaDoor
open Go.ChangeShapes Go.WideShapes Go.ChangeAt Go.RowKit Go.Deep FerryCrc
set_option linter.unusedVariables false

/-- One call: kind, size, address, number, data. -/
structure Po where
  kind : Int
  size : Int
  addr : Nat
  v : Nat
  data : ByteArray
structure Po.Ok (p : Po) : Prop where
  k1 : -9223372036854775808 ≤ p.kind
  k2 : p.kind ≤ 9223372036854775807
  s1 : -9223372036854775808 ≤ p.size
  s2 : p.size ≤ 9223372036854775807
  addr : p.addr < 4294967296
  v : p.v < 4294967296
  data : p.data.size ≤ 9223372036854775807
def Po.cells (p : Po) : List Value := [.int .i64 p.kind, .int .i64 p.size, .int .u32 (p.addr : Int), .int .u32 (p.v : Int), .string p.data]
structure Pos (w : World) (a : Option Addr) (len : Nat) (C : Nat → Po) : Prop where
  most : len ≤ 9223372036854775807
  cell : ∀ k, k < len → ∃ b off, a = some ⟨b, off, none⟩ ∧ (C k).Ok ∧ w.rangeAt b (off + k * 5) (C k).cells
theorem Pos.below {w w' : World} {a : Option Addr} {len : Nat} {C : Nat → Po} (h : Pos w a len C) (hb : Below w.heap.size w w') : Pos w' a len C :=
  ⟨h.most, fun k hk => by
    obtain ⟨b, off, e, o, hr⟩ := h.cell k hk
    exact ⟨b, off, e, o, range_below hr hb⟩⟩
theorem cellsPo : Tryd.prog.cellsOf 30 = 5 := by kernel_rfl
theorem cellsU : Tryd.prog.cellsOf 28 = 1 := by kernel_rfl
theorem cellsStr : Tryd.prog.cellsOf 9 = 1 := by kernel_rfl

set_option maxRecDepth 100000 in
theorem po_open {H : Type} {enc : TypeId × Value → H} {W : World} {fuel : Nat} {cs : List Value} {x : DataW H × List MemPlace}
    (h2 : DataW.trod enc Tryd.prog W 0 (fun _ => true) true fuel 30 cs = some x) (hlen : cs.length = 5) : ∃ p : Po, p.Ok ∧ cs = p.cells := by
  obtain ⟨xs, n, _, _, _, hxl, hff⟩ := DataW.trod_struct Tryd.underlying30 h2
  match xs, hxl, cs, hlen with
  | [y0, y1, y2, y3, y4], _, [v0, v1, v2, v3, v4], _ =>
    have g0 : DataW.trod enc Tryd.prog W 0 (fun _ => true) true n 3 (([v0, v1, v2, v3, v4].drop 0).take (Tryd.prog.cellsOf 3)) = some y0 := hff 0 _ rfl
    have g1 : DataW.trod enc Tryd.prog W 0 (fun _ => true) true n 3 (([v0, v1, v2, v3, v4].drop 1).take (Tryd.prog.cellsOf 3)) = some y1 := hff 1 _ rfl
    have g2 : DataW.trod enc Tryd.prog W 0 (fun _ => true) true n 28 (([v0, v1, v2, v3, v4].drop 2).take (Tryd.prog.cellsOf 28)) = some y2 := hff 2 _ rfl
    have g3 : DataW.trod enc Tryd.prog W 0 (fun _ => true) true n 28 (([v0, v1, v2, v3, v4].drop 3).take (Tryd.prog.cellsOf 28)) = some y3 := hff 3 _ rfl
    have g4 : DataW.trod enc Tryd.prog W 0 (fun _ => true) true n 9 (([v0, v1, v2, v3, v4].drop 4).take (Tryd.prog.cellsOf 9)) = some y4 := hff 4 _ rfl
    rw [cellsPi] at g0 g1
    rw [cellsU] at g2 g3
    rw [cellsStr] at g4
    obtain ⟨z0, e0, _, b0⟩ := DataW.trod_int Tryd.underlying3 g0
    obtain ⟨z1, e1, _, b1⟩ := DataW.trod_int Tryd.underlying3 g1
    obtain ⟨z2, e2, _, b2⟩ := DataW.trod_int Tryd.underlying28 g2
    obtain ⟨z3, e3, _, b3⟩ := DataW.trod_int Tryd.underlying28 g3
    obtain ⟨s, e4, _, b4⟩ := DataW.trod_string Tryd.underlying9 g4
    simp at e0 e1 e2 e3 e4
    subst e0 e1 e2 e3 e4
    have i0 := bounds_i64 b0
    have i1 := bounds_i64 b1
    have u2 := bounds_u32 b2
    have u3 := bounds_u32 b3
    obtain ⟨n2, rfl⟩ := Int.eq_ofNat_of_zero_le u2.1
    obtain ⟨n3, rfl⟩ := Int.eq_ofNat_of_zero_le u3.1
    exact ⟨⟨z0, z1, n2, n3, s⟩, ⟨i0.1, i0.2, i1.1, i1.2, by show n2 < _; omega, by show n3 < _; omega, by unfold maxLen at b4; exact Nat.le_trans b4 (by decide)⟩, rfl⟩

theorem po_open' {H : Type} {enc : TypeId × Value → H} {W : World} {fuel : Nat} {cs : List Value} {x : DataW H × List MemPlace}
    (h2 : DataW.trod enc Tryd.prog W 0 (fun _ => true) true fuel 30 cs = some x) : ∃ p : Po, p.Ok ∧ cs = p.cells := by
  obtain ⟨xs, n, _, _, hcl, _, _⟩ := DataW.trod_struct Tryd.underlying30 h2
  rw [cellsPo] at hcl
  exact po_open h2 hcl

set_option maxRecDepth 100000 in
theorem pos_open {H : Type} {enc : TypeId × Value → H} {W : World} {fuel : Nat} {a : Option Addr} {len cap : Nat} {x : DataW H × List MemPlace}
    (hf : DataW.trod enc Tryd.prog W 0 (fun _ => true) true fuel 23 [.slice a len cap] = some x) : ∃ C, Pos W a len C := by
  rcases open_slice Tryd.underlying23 hf with ⟨hcs, _⟩ | ⟨ad, l, c, m, nf, D, Pl, hcs, _, hl, hm, hmm, hx0, hx⟩
  · simp only [List.cons.injEq, Value.slice.injEq, and_true] at hcs
    obtain ⟨rfl, rfl, rfl⟩ := hcs
    exact ⟨fun _ => ⟨0, 0, 0, 0, ByteArray.empty⟩, by decide, fun k hk => by omega⟩
  · simp only [List.cons.injEq, Value.slice.injEq, and_true] at hcs
    obtain ⟨rfl, rfl, rfl⟩ := hcs
    simp only [if_true] at hmm
    subst hmm
    have hsp0 : 0 < len → ad.spot = none := fun h0 => by
      obtain ⟨cs, h1, _⟩ := hx 0 (by omega)
      rw [cellsPo] at h1
      obtain ⟨_, hlen, hcell⟩ := World.cells?_some h1
      have c0 := hcell 0 (by omega)
      rw [add_add, List.getElem?_eq_getElem (by omega)] at c0
      have := World.cell?_spot c0
      simpa [Addr.add] using this
    have each : ∀ k, k < len → ∃ p : Po, ∃ b off, some ad = some (⟨b, off, none⟩ : Addr) ∧ p.Ok ∧ W.rangeAt b (off + k * 5) p.cells := by
      intro k hk
      obtain ⟨cs, h1, h2⟩ := hx k (by omega)
      rw [cellsPo] at h1
      obtain ⟨_, hlen, hcell⟩ := World.cells?_some h1
      obtain ⟨p, hp, rfl⟩ := po_open h2 hlen
      have hsp : ad.spot = none := hsp0 (by omega)
      obtain ⟨b, off, spot⟩ := ad
      simp only at hsp
      subst hsp
      refine ⟨p, b, off, rfl, hp, fun j v hv => ?_⟩
      have hj : j < 5 := by
        have := (List.getElem?_eq_some_iff.1 hv).1
        omega
      have c := hcell j hj
      rw [add_add, add_plain, hv] at c
      rw [Nat.add_assoc]
      exact c
    haveI : Inhabited Po := ⟨⟨0, 0, 0, 0, ByteArray.empty⟩⟩
    obtain ⟨C, hC⟩ := choose_lt each
    exact ⟨C, by unfold maxLen at hm; omega, hC⟩
end Go.Proofs.YtphgcfjjhhaehaaDoor
