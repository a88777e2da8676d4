/-
  What the reading of a list of operations that came in gives: the operations, in memory.
-/
import Derived.Test.YthmibakcjhappaaDoorOpers
import Derived.Test.YthmibakcjhappaaDoorDoorErr
import Derived.Deep.Slices
namespace Go.Proofs.YthmibakcjhappaaDoor
open Go.ChangeShapes Go.WideShapes Go.ChangeAt Go.RowKit Go.Deep

theorem cellsOp : Tryd.prog.cellsOf 29 = 3 := by kernel_rfl
theorem cellsU : Tryd.prog.cellsOf 23 = 1 := by kernel_rfl
theorem cellsI : Tryd.prog.cellsOf 3 = 1 := by kernel_rfl

set_option maxRecDepth 100000 in
theorem ops_open {H : Type} {enc : TypeId × Value → H} {W : World} {fuel : Nat} {a : Option Addr} {len cap : Nat} {x : DataW H × List MemPlace}
    (hf : DataW.trod enc Tryd.prog W 0 (fun _ => true) true fuel 22 [.slice a len cap] = some x) : ∃ C, Ops W a len C := by
  rcases open_slice Tryd.underlying22 hf with ⟨hcs, _⟩ | ⟨ad, l, c, m, nf, D, Pl, hcs, _, hl, hm, hmm, _, hx⟩
  · simp only [List.cons.injEq, Value.slice.injEq, and_true] at hcs
    obtain ⟨rfl, rfl, rfl⟩ := hcs
    exact ⟨fun _ => ⟨0, 0, 0⟩, by decide, fun k hk => by omega⟩
  · simp only [List.cons.injEq, Value.slice.injEq, and_true] at hcs
    obtain ⟨rfl, rfl, rfl⟩ := hcs
    have hlm : len ≤ m := by rw [hmm]; simp; exact hl
    have hsp : 0 < len → ad.spot = none := fun h0 => by
      obtain ⟨cs, h1, _⟩ := hx 0 (by omega)
      rw [cellsOp] at h1
      obtain ⟨_, hlen, hcell⟩ := World.cells?_some h1
      have c0 := hcell 0 (by omega)
      rw [add_add, List.getElem?_eq_getElem (by omega)] at c0
      have := World.cell?_spot c0
      simpa [Addr.add] using this
    have each : ∀ k, k < len → ∃ q : Opn, ∃ b off, some ad = some ⟨b, off, none⟩ ∧ q.Ok ∧ W.cell? ⟨b, off + k * 3, none⟩ = some (.int .i64 q.op) ∧ W.cell? ⟨b, off + k * 3 + 1, none⟩ = some (.int .u32 (q.b : Int)) ∧ W.cell? ⟨b, off + k * 3 + 2, none⟩ = some (.int .u32 (q.c : Int)) := by
      intro k hk
      obtain ⟨cs, h1, h2⟩ := hx k (by omega)
      rw [cellsOp] at h1
      obtain ⟨_, hlen, hcell⟩ := World.cells?_some h1
      obtain ⟨xs, n, _, _, _, hxl, hff⟩ := DataW.trod_struct Tryd.underlying29 h2
      match xs, hxl, cs, hlen with
      | [y0, y1, y2], _, [v0, v1, v2], _ =>
        have g0 := hff 0 _ rfl
        have g1 := hff 1 _ rfl
        have g2 := hff 2 _ rfl
        simp [cellsU, cellsI] at g0 g1 g2
        obtain ⟨z0, e0, _, b0⟩ := DataW.trod_int Tryd.underlying3 g0
        obtain ⟨z1, e1, _, b1⟩ := DataW.trod_int Tryd.underlying23 g1
        obtain ⟨z2, e2, _, b2⟩ := DataW.trod_int Tryd.underlying23 g2
        simp only [List.cons.injEq, and_true] at e0 e1 e2
        subst e0 e1 e2
        have c0 := hcell 0 (by omega)
        have c1 := hcell 1 (by omega)
        have c2 := hcell 2 (by omega)
        rw [add_add] at c0 c1 c2
        obtain ⟨b, off, spot⟩ := ad
        have hspot : spot = none := hsp (by omega)
        subst hspot
        simp only [add_plain] at c0 c1 c2
        have u1 := bounds_u32 b1
        have u2 := bounds_u32 b2
        obtain ⟨n1, rfl⟩ := Int.eq_ofNat_of_zero_le u1.1
        obtain ⟨n2, rfl⟩ := Int.eq_ofNat_of_zero_le u2.1
        refine ⟨⟨z0, n1, n2⟩, b, off, rfl, ⟨by show n1 < _; omega, by show n2 < _; omega⟩, ?_, ?_, ?_⟩
        · simpa using c0
        · simpa [Nat.add_assoc] using c1
        · simpa [Nat.add_assoc] using c2
    haveI : Inhabited Opn := ⟨⟨0, 0, 0⟩⟩
    obtain ⟨C, hC⟩ := choose_lt each
    exact ⟨C, by unfold maxLen at hm; omega, hC⟩
end Go.Proofs.YthmibakcjhappaaDoor
