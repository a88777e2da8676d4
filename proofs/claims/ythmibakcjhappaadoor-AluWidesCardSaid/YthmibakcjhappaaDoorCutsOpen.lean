/-
  What the reading of a list of cuts that came in gives: the cuts, in memory.
-/
import Derived.Test.YthmibakcjhappaaDoorCuts
import Derived.Test.YthmibakcjhappaaDoorDoorErr
import Derived.Deep.Slices
namespace Go.Proofs.YthmibakcjhappaaDoor
open Go.ChangeShapes Go.WideShapes Go.ChangeAt Go.RowKit Go.Deep

theorem cells41 : Tryd.prog.cellsOf 41 = 5 := by kernel_rfl
theorem cellsU : Tryd.prog.cellsOf 23 = 1 := by kernel_rfl
theorem cellsI : Tryd.prog.cellsOf 3 = 1 := by kernel_rfl

set_option maxRecDepth 100000 in
theorem cuts_open {H : Type} {enc : TypeId × Value → H} {W : World} {fuel : Nat} {a : Option Addr} {len cap : Nat} {x : DataW H × List MemPlace}
    (hf : DataW.trod enc Tryd.prog W 0 (fun _ => true) true fuel 38 [.slice a len cap] = some x) : ∃ C, Cuts W a len C := by
  rcases open_slice Tryd.underlying38 hf with ⟨hcs, _⟩ | ⟨ad, l, c, m, nf, D, Pl, hcs, _, hl, hm, hmm, _, hx⟩
  · simp only [List.cons.injEq, Value.slice.injEq, and_true] at hcs
    obtain ⟨rfl, rfl, rfl⟩ := hcs
    exact ⟨fun _ => ⟨0, 0, 0, 0, 0⟩, by decide, fun k hk => by omega⟩
  · simp only [List.cons.injEq, Value.slice.injEq, and_true] at hcs
    obtain ⟨rfl, rfl, rfl⟩ := hcs
    have hlm : len ≤ m := by rw [hmm]; simp; exact hl
    have hsp : 0 < len → ad.spot = none := fun h0 => by
      obtain ⟨cs, h1, _⟩ := hx 0 (by omega)
      rw [cells41] at h1
      obtain ⟨_, hlen, hcell⟩ := World.cells?_some h1
      have c0 := hcell 0 (by omega)
      rw [add_add, List.getElem?_eq_getElem (by omega)] at c0
      have := World.cell?_spot c0
      simpa [Addr.add] using this
    have each : ∀ k, k < len → ∃ q : Cut, ∃ b off, some ad = some ⟨b, off, none⟩ ∧ q.Ok ∧ W.cell? ⟨b, off + k * 5, none⟩ = some (.int .u32 (q.x : Int)) ∧ W.cell? ⟨b, off + k * 5 + 1, none⟩ = some (.int .i64 q.lo) ∧
        W.cell? ⟨b, off + k * 5 + 2, none⟩ = some (.int .i64 q.n) ∧ W.cell? ⟨b, off + k * 5 + 3, none⟩ = some (.int .u32 (q.v : Int)) ∧ W.cell? ⟨b, off + k * 5 + 4, none⟩ = some (.int .i64 q.num) := by
      intro k hk
      obtain ⟨cs, h1, h2⟩ := hx k (by omega)
      rw [cells41] at h1
      obtain ⟨_, hlen, hcell⟩ := World.cells?_some h1
      obtain ⟨xs, n, _, _, _, hxl, hff⟩ := DataW.trod_struct Tryd.underlying41 h2
      match xs, hxl, cs, hlen with
      | [y0, y1, y2, y3, y4], _, [v0, v1, v2, v3, v4], _ =>
        have g0 := hff 0 _ rfl
        have g1 := hff 1 _ rfl
        have g2 := hff 2 _ rfl
        have g3 := hff 3 _ rfl
        have g4 := hff 4 _ rfl
        simp [cellsU, cellsI] at g0 g1 g2 g3 g4
        obtain ⟨z0, e0, _, b0⟩ := DataW.trod_int Tryd.underlying23 g0
        obtain ⟨z1, e1, _, b1⟩ := DataW.trod_int Tryd.underlying3 g1
        obtain ⟨z2, e2, _, b2⟩ := DataW.trod_int Tryd.underlying3 g2
        obtain ⟨z3, e3, _, b3⟩ := DataW.trod_int Tryd.underlying23 g3
        obtain ⟨z4, e4, _, b4⟩ := DataW.trod_int Tryd.underlying3 g4
        simp only [List.cons.injEq, and_true] at e0 e1 e2 e3 e4
        subst e0 e1 e2 e3 e4
        have c0 := hcell 0 (by omega)
        have c1 := hcell 1 (by omega)
        have c2 := hcell 2 (by omega)
        have c3 := hcell 3 (by omega)
        have c4 := hcell 4 (by omega)
        rw [add_add] at c0 c1 c2 c3 c4
        obtain ⟨b, off, spot⟩ := ad
        have hspot : spot = none := hsp (by omega)
        subst hspot
        simp only [add_plain] at c0 c1 c2 c3 c4
        have u0 := bounds_u32 b0
        have u3 := bounds_u32 b3
        have i1 := bounds_i64 b1
        have i2 := bounds_i64 b2
        have i4 := bounds_i64 b4
        obtain ⟨n0, rfl⟩ := Int.eq_ofNat_of_zero_le u0.1
        obtain ⟨n3, rfl⟩ := Int.eq_ofNat_of_zero_le u3.1
        refine ⟨⟨n0, z1, z2, n3, z4⟩, b, off, rfl, ⟨by show n0 < _; omega, by show n3 < _; omega, i1.1, i1.2, i2.1, i2.2, i4.1, i4.2⟩, ?_, ?_, ?_, ?_, ?_⟩
        · simpa using c0
        · simpa [Nat.add_assoc] using c1
        · simpa [Nat.add_assoc] using c2
        · simpa [Nat.add_assoc] using c3
        · simpa [Nat.add_assoc] using c4
    haveI : Inhabited Cut := ⟨⟨0, 0, 0, 0, 0⟩⟩
    obtain ⟨C, hC⟩ := choose_lt each
    exact ⟨C, by unfold maxLen at hm; omega, hC⟩
end Go.Proofs.YthmibakcjhappaaDoor
