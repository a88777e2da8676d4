/-
  What the reading of a note that came in gives.
-/
import Derived.Test.YtnopclacchoijaaDoorXfBase
import Derived.Test.YtnopclacchoijaaDoorDoorErr
import Derived.Deep.Slices
namespace Go.Proofs.YtnopclacchoijaaDoor
open Go.ChangeShapes Go.WideShapes Go.ChangeAt Go.RowKit Go.Deep FerryCrc
set_option linter.unusedVariables false

/-- What the reading of a byte slice gives: its bytes, in memory. -/
theorem bts_row {w : World} {a : Option Addr} {len cap : Nat} {zs : List Int} (x : Addr) (ha : a = some x) (hl : len ≤ cap) (hz : zs.length = cap) (hr : cap ≤ 140737488351232)
    (hc : ∀ i, i < zs.length → w.cell? (x.add i) = some (.int .u8 (zs.getD i 0))) (hw : ∀ n ∈ zs, (Lit.int .u8 n).wf = true) : Bts w a len cap ((zs.take len).map Int.toNat) := by
  have hb : ∀ n ∈ zs, 0 ≤ n ∧ n < 256 := fun n hn => by have := bounds_u8 (hw n hn); omega
  refine ⟨by simp; omega, by omega, hl, ?_, fun e => by rw [ha] at e; simp at e, ?_⟩
  · intro c hc'
    obtain ⟨n, hn, rfl⟩ := List.mem_map.1 hc'
    have := hb n (List.mem_of_mem_take hn)
    omega
  · intro k hk
    have hcell := hc k (by omega)
    obtain ⟨b, off, spot⟩ := x
    have hspot : spot = none := by simpa [Addr.add] using World.cell?_spot (hc 0 (by omega))
    subst hspot
    have hkz : k < zs.length := by omega
    refine ⟨b, off, ha, (zs[k]).toNat, by simp [hk, hkz], ?_⟩
    have hn := hb _ (List.getElem_mem hkz)
    rw [Int.toNat_of_nonneg hn.1]
    rw [add_plain] at hcell
    simpa [hkz] using hcell
theorem cellsNt : Tryd.prog.cellsOf 34 = 10 := by kernel_rfl
theorem cellsXd : Tryd.prog.cellsOf 23 = 3 := by kernel_rfl
theorem cellsIn : Tryd.prog.cellsOf 3 = 1 := by kernel_rfl
theorem cellsU4 : Tryd.prog.cellsOf 32 = 1 := by kernel_rfl
theorem cellsSt : Tryd.prog.cellsOf 9 = 1 := by kernel_rfl
set_option maxRecDepth 100000 in
theorem xid_open {H : Type} {enc : TypeId × Value → H} {W : World} {fuel : Nat} {cs : List Value} {x : DataW H × List MemPlace}
    (hf : DataW.trod enc Tryd.prog W 0 (fun _ => true) true fuel 23 cs = some x) : ∃ b r m : Int, cs = [.int .i64 b, .int .i64 r, .int .i64 m] := by
  obtain ⟨xs, n, _, hx, hcl, hxl, hff⟩ := DataW.trod_struct Tryd.underlying23 hf
  rw [cellsXd] at hcl
  match xs, hxl, cs, hcl with
  | [y0, y1, y2], _, [v0, v1, v2], _ =>
    have g0 := hff 0 _ rfl
    have g1 := hff 1 _ rfl
    have g2 := hff 2 _ rfl
    simp [cellsIn] at g0 g1 g2
    obtain ⟨z0, e0, _, _⟩ := DataW.trod_int Tryd.underlying3 g0
    obtain ⟨z1, e1, _, _⟩ := DataW.trod_int Tryd.underlying3 g1
    obtain ⟨z2, e2, _, _⟩ := DataW.trod_int Tryd.underlying3 g2
    simp only [List.cons.injEq, and_true] at e0 e1 e2
    subst e0 e1 e2
    exact ⟨z0, z1, z2, rfl⟩
set_option maxRecDepth 100000 in
theorem note_open {H : Type} {enc : TypeId × Value → H} {W : World} {fuel : Nat} {cs : List Value} {x : DataW H × List MemPlace}
    (hf : DataW.trod enc Tryd.prog W 0 (fun _ => true) true fuel 34 cs = some x) : ∃ n : Nt, cs = n.cells ∧ n.Ok := by
  obtain ⟨xs, n, _, hx, hcl, hxl, hff⟩ := DataW.trod_struct Tryd.underlying34 hf
  rw [cellsNt] at hcl
  match xs, hxl, cs, hcl with
  | [y0, y1, y2, y3, y4, y5, y6, y7], _, [v0, v1, v2, v3, v4, v5, v6, v7, v8, v9], _ =>
    have g0 := hff 0 _ rfl
    have g1 := hff 1 _ rfl
    have g2 := hff 2 _ rfl
    have g3 := hff 3 _ rfl
    have g4 := hff 4 _ rfl
    have g5 := hff 5 _ rfl
    have g6 := hff 6 _ rfl
    have g7 := hff 7 _ rfl
    simp [cellsIn, cellsXd, cellsU4, cellsSt] at g0 g1 g2 g3 g4 g5 g6 g7
    obtain ⟨z0, e0, _, b0⟩ := DataW.trod_int Tryd.underlying3 g0
    obtain ⟨z1, e1, _, b1⟩ := DataW.trod_int Tryd.underlying3 g1
    obtain ⟨zb, zr, zm, e2⟩ := xid_open g2
    obtain ⟨z3, e3, _, b3⟩ := DataW.trod_int Tryd.underlying3 g3
    obtain ⟨z4, e4, _, b4⟩ := DataW.trod_int Tryd.underlying3 g4
    obtain ⟨z5, e5, _, b5⟩ := DataW.trod_int Tryd.underlying3 g5
    obtain ⟨z6, e6, _, b6⟩ := DataW.trod_int Tryd.underlying32 g6
    obtain ⟨D, e7, _, b7⟩ := DataW.trod_string Tryd.underlying9 g7
    simp only [List.cons.injEq, and_true] at e0 e1 e2 e3 e4 e5 e6 e7
    obtain ⟨e2a, e2b, e2c⟩ := e2
    subst e0 e1 e2a e2b e2c e3 e4 e5 e6 e7
    have c0 := bounds_i64 b0
    have c4 := bounds_i64 b4
    have c5 := bounds_i64 b5
    refine ⟨⟨z0, z1, zb, zr, zm, z3, z4, z5, z6, D⟩, rfl, ⟨c0.1, ?_, c5.1, ?_, c4.1, ?_, ?_⟩⟩
    · show z0 ≤ _
      have := c0.2
      omega
    · show z5 ≤ _
      have := c5.2
      omega
    · show z4 ≤ _
      have := c4.2
      omega
    · show D.size ≤ _
      have := b7
      unfold maxLen at this
      omega
end Go.Proofs.YtnopclacchoijaaDoor
