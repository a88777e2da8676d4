/-
  What the reading of a note that came in gives, and the listed errors.
-/
import Derived.Test.YtdbciciljeainaaGreatDoorCkGet
import Derived.Test.YtdbciciljeainaaGreatDoorDoorErr
import Derived.Deep.Slices
namespace Go.Proofs.YtdbciciljeainaaGreatDoor
open Go.ChangeShapes Go.WideShapes Go.ChangeAt Go.RowKit Go.Deep FerryCrc
set_option linter.unusedVariables false

/-- What the reading of a byte slice gives: its bytes, in memory. -/
theorem bts_row {w : World} {a : Option Addr} {len cap : Nat} {zs : List Int} (x : Addr) (ha : a = some x) (hl : len ≤ cap) (hz : zs.length = cap) (hr : cap ≤ 140737488351232)
    (hc : ∀ i, i < zs.length → w.cell? (x.add i) = some (.int .u8 (zs.getD i 0))) (hw : ∀ n ∈ zs, (Lit.int .u8 n).wf = true) : Bts w a len cap ((zs.take len).map Int.toNat) := by
  have hb : ∀ n ∈ zs, 0 ≤ n ∧ n < 256 := fun n hn => by have := bounds_u8 (hw n hn); omega
  refine ⟨by simp; omega, by omega, hl, ?_, fun e => by rw [ha] at e; simp at e, ?_⟩
  · intro c hc'
    obtain ⟨n, hn, rfl⟩ := List.mem_map.1 hc'
    have := hb n (List.mem_of_mem_take hn)
    omega
  · intro k hk
    have hcell := hc k (by omega)
    obtain ⟨b, off, spot⟩ := x
    have hspot : spot = none := by simpa [Addr.add] using World.cell?_spot (hc 0 (by omega))
    subst hspot
    have hkz : k < zs.length := by omega
    refine ⟨b, off, ha, (zs[k]).toNat, by simp [hk, hkz], ?_⟩
    have hn := hb _ (List.getElem_mem hkz)
    rw [Int.toNat_of_nonneg hn.1]
    rw [add_plain] at hcell
    simpa [hkz] using hcell
theorem cellsNt : Tryz.prog.cellsOf 33 = 10 := by kernel_rfl
theorem cellsXd : Tryz.prog.cellsOf 23 = 3 := by kernel_rfl
theorem cellsIn : Tryz.prog.cellsOf 3 = 1 := by kernel_rfl
theorem cellsU4 : Tryz.prog.cellsOf 31 = 1 := by kernel_rfl
theorem cellsSt : Tryz.prog.cellsOf 9 = 1 := by kernel_rfl
set_option maxRecDepth 100000 in
theorem xid_open {H : Type} {enc : TypeId × Value → H} {W : World} {fuel : Nat} {cs : List Value} {x : DataW H × List MemPlace}
    (hf : DataW.trod enc Tryz.prog W 0 (fun _ => true) true fuel 23 cs = some x) : ∃ b r m : Int, cs = [.int .i64 b, .int .i64 r, .int .i64 m] := by
  obtain ⟨xs, n, _, hx, hcl, hxl, hff⟩ := DataW.trod_struct Tryz.underlying23 hf
  rw [cellsXd] at hcl
  match xs, hxl, cs, hcl with
  | [y0, y1, y2], _, [v0, v1, v2], _ =>
    have g0 := hff 0 _ rfl
    have g1 := hff 1 _ rfl
    have g2 := hff 2 _ rfl
    simp [cellsIn] at g0 g1 g2
    obtain ⟨z0, e0, _, _⟩ := DataW.trod_int Tryz.underlying3 g0
    obtain ⟨z1, e1, _, _⟩ := DataW.trod_int Tryz.underlying3 g1
    obtain ⟨z2, e2, _, _⟩ := DataW.trod_int Tryz.underlying3 g2
    simp only [List.cons.injEq, and_true] at e0 e1 e2
    subst e0 e1 e2
    exact ⟨z0, z1, z2, rfl⟩
set_option maxRecDepth 100000 in
theorem note_open {H : Type} {enc : TypeId × Value → H} {W : World} {fuel : Nat} {cs : List Value} {x : DataW H × List MemPlace}
    (hf : DataW.trod enc Tryz.prog W 0 (fun _ => true) true fuel 33 cs = some x) : ∃ n : Nt, cs = n.cells ∧ n.Ok ∧ 0 ≤ n.sum ∧ n.sum < 4294967296 := by
  obtain ⟨xs, n, _, hx, hcl, hxl, hff⟩ := DataW.trod_struct Tryz.underlying33 hf
  rw [cellsNt] at hcl
  match xs, hxl, cs, hcl with
  | [y0, y1, y2, y3, y4, y5, y6, y7], _, [v0, v1, v2, v3, v4, v5, v6, v7, v8, v9], _ =>
    have g0 := hff 0 _ rfl
    have g1 := hff 1 _ rfl
    have g2 := hff 2 _ rfl
    have g3 := hff 3 _ rfl
    have g4 := hff 4 _ rfl
    have g5 := hff 5 _ rfl
    have g6 := hff 6 _ rfl
    have g7 := hff 7 _ rfl
    simp [cellsIn, cellsXd, cellsU4, cellsSt] at g0 g1 g2 g3 g4 g5 g6 g7
    obtain ⟨z0, e0, _, b0⟩ := DataW.trod_int Tryz.underlying3 g0
    obtain ⟨z1, e1, _, b1⟩ := DataW.trod_int Tryz.underlying3 g1
    obtain ⟨zb, zr, zm, e2⟩ := xid_open g2
    obtain ⟨z3, e3, _, b3⟩ := DataW.trod_int Tryz.underlying3 g3
    obtain ⟨z4, e4, _, b4⟩ := DataW.trod_int Tryz.underlying3 g4
    obtain ⟨z5, e5, _, b5⟩ := DataW.trod_int Tryz.underlying3 g5
    obtain ⟨z6, e6, _, b6⟩ := DataW.trod_int Tryz.underlying31 g6
    obtain ⟨D, e7, _, b7⟩ := DataW.trod_string Tryz.underlying9 g7
    simp only [List.cons.injEq, and_true] at e0 e1 e2 e3 e4 e5 e6 e7
    obtain ⟨e2a, e2b, e2c⟩ := e2
    subst e0 e1 e2a e2b e2c e3 e4 e5 e6 e7
    have c0 := bounds_i64 b0
    have c4 := bounds_i64 b4
    have c5 := bounds_i64 b5
    have c6 := bounds_u32 b6
    refine ⟨⟨z0, z1, zb, zr, zm, z3, z4, z5, z6, D⟩, rfl, ⟨c0.1, ?_, c5.1, ?_, c4.1, ?_, ?_⟩, c6.1, (by show z6 < _; have := c6.2; omega)⟩
    · show z0 ≤ _
      have := c0.2
      omega
    · show z5 ≤ _
      have := c5.2
      omega
    · show z4 ≤ _
      have := c4.2
      omega
    · show D.size ≤ _
      have := b7
      unfold maxLen at this
      omega
theorem str_weight {H : Type} (s : ByteArray) (t : TypeId) : s.size ∈ (DataW.lit (Lit.string s.data.toList) : DataW H).weights Tryz.prog t := by
  rw [DataW.weights]
  exact List.mem_singleton.2 (Array.length_toList (xs := s.data)).symm

def ckbNames : List (String × Nat × List UInt8) := [("ferry/api.ErrShort", 4, [116, 104, 101, 32, 98, 121, 116, 101, 115, 32, 101, 110, 100, 32, 116, 111, 111, 32, 101, 97, 114, 108, 121]), ("ferry/api.ErrRange", 8, [97, 32, 110, 117, 109, 98, 101, 114, 32, 111, 117, 116, 32, 111, 102, 32, 105, 116, 115, 32, 114, 97, 110, 103, 101]), ("ferry/api.ErrLength", 5, [97, 32, 108, 101, 110, 103, 116, 104, 32, 116, 104, 97, 116, 32, 105, 115, 110, 39, 116, 32, 116, 104, 101, 32, 116, 104, 105, 110, 103, 39, 115]), ("ferry/api.ErrSum", 11, [116, 104, 101, 32, 99, 104, 101, 99, 107, 32, 115, 117, 109, 32, 105, 115, 32, 119, 114, 111, 110, 103]), ("ferry/api.ErrKind", 3, [110, 111, 32, 115, 117, 99, 104, 32, 107, 105, 110, 100]), ("ferry/api.ErrSize", 7, [116, 111, 111, 32, 108, 97, 114, 103, 101]), ("ferry/api.ErrArg", 6, [97, 32, 119, 114, 111, 110, 103, 32, 97, 114, 103, 117, 109, 101, 110, 116])]
theorem ckbNames_are : ∀ x ∈ ckbNames, Tryz.prog.globalNamed x.1 = some x.2.1 ∧ (Tryz.prog.globals[x.2.1]?).map (·.type) = some 36 := by
  intro x hx
  simp only [ckbNames, List.mem_cons, List.not_mem_nil, or_false] at hx
  rcases hx with rfl | rfl | rfl | rfl | rfl | rfl | rfl
  · exact ⟨by kernel_rfl, by kernel_rfl⟩
  · exact ⟨by kernel_rfl, by kernel_rfl⟩
  · exact ⟨by kernel_rfl, by kernel_rfl⟩
  · exact ⟨by kernel_rfl, by kernel_rfl⟩
  · exact ⟨by kernel_rfl, by kernel_rfl⟩
  · exact ⟨by kernel_rfl, by kernel_rfl⟩
  · exact ⟨by kernel_rfl, by kernel_rfl⟩
theorem ckb_parts {W : World} (h : laidMetH Tryz.prog (listed ckbNames) W) : laidMet Tryz.prog (listed ckbNames) W := h
set_option maxRecDepth 100000 in
theorem ckb_of_laid {W : World} (h : laidMetH Tryz.prog (listed ckbNames) W) : ∃ E, Er10 W E := by
  obtain ⟨ps, hv, hnd, hrows⟩ := ckb_parts h
  obtain ⟨As, h1, h2, h3, h4⟩ := sentinels_of Tryz.underlying36 rowE Tryz.underlying157 Tryz.underlying176 rfl rfl Tryz.underlying9 cellsES cellsS ckbNames ps hv hnd hrows ckbNames_are
  have hlen : As.length = 7 := h1
  have hget : ∀ i, i < 7 → As[i]? = some (As.getD i ⟨0, 0, none⟩) := fun i hi => by simp [hlen, hi]
  exact ⟨fun n => if n = 1 then As.getD 0 ⟨0, 0, none⟩ else if n = 4 then As.getD 1 ⟨0, 0, none⟩ else if n = 5 then As.getD 2 ⟨0, 0, none⟩ else if n = 6 then As.getD 3 ⟨0, 0, none⟩ else if n = 7 then As.getD 4 ⟨0, 0, none⟩ else if n = 11 then As.getD 5 ⟨0, 0, none⟩ else As.getD 6 ⟨0, 0, none⟩, ⟨⟨h4 1 _ _ rfl (hget 1 (by decide)), h4 4 _ _ rfl (hget 4 (by decide)), h4 5 _ _ rfl (hget 5 (by decide)), h4 6 _ _ rfl (hget 6 (by decide))⟩, h4 0 _ _ rfl (hget 0 (by decide)), h4 2 _ _ rfl (hget 2 (by decide)), h4 3 _ _ rfl (hget 3 (by decide))⟩⟩

def ckaNames : List (String × Nat × List UInt8) := [("ferry/api.ErrShort", 4, [116, 104, 101, 32, 98, 121, 116, 101, 115, 32, 101, 110, 100, 32, 116, 111, 111, 32, 101, 97, 114, 108, 121]), ("ferry/api.ErrRange", 8, [97, 32, 110, 117, 109, 98, 101, 114, 32, 111, 117, 116, 32, 111, 102, 32, 105, 116, 115, 32, 114, 97, 110, 103, 101]), ("ferry/api.ErrLength", 5, [97, 32, 108, 101, 110, 103, 116, 104, 32, 116, 104, 97, 116, 32, 105, 115, 110, 39, 116, 32, 116, 104, 101, 32, 116, 104, 105, 110, 103, 39, 115]), ("ferry/api.ErrSum", 11, [116, 104, 101, 32, 99, 104, 101, 99, 107, 32, 115, 117, 109, 32, 105, 115, 32, 119, 114, 111, 110, 103]), ("ferry/api.ErrKind", 3, [110, 111, 32, 115, 117, 99, 104, 32, 107, 105, 110, 100]), ("ferry/api.ErrState", 0, [116, 104, 101, 32, 115, 116, 97, 116, 101, 32, 98, 114, 101, 97, 107, 115, 32, 97, 32, 114, 117, 108, 101]), ("ferry/api.ErrBase", 1, [110, 111, 116, 32, 111, 118, 101, 114, 32, 116, 104, 105, 115, 32, 98, 97, 115, 101]), ("ferry/api.ErrSize", 7, [116, 111, 111, 32, 108, 97, 114, 103, 101]), ("ferry/api.ErrArg", 6, [97, 32, 119, 114, 111, 110, 103, 32, 97, 114, 103, 117, 109, 101, 110, 116]), ("ferry/api.ErrBusy", 2, [115, 111, 109, 101, 116, 104, 105, 110, 103, 32, 105, 115, 32, 117, 110, 100, 101, 114, 32, 119, 97, 121])]
theorem ckaNames_are : ∀ x ∈ ckaNames, Tryz.prog.globalNamed x.1 = some x.2.1 ∧ (Tryz.prog.globals[x.2.1]?).map (·.type) = some 36 := by
  intro x hx
  simp only [ckaNames, List.mem_cons, List.not_mem_nil, or_false] at hx
  rcases hx with rfl | rfl | rfl | rfl | rfl | rfl | rfl | rfl | rfl | rfl
  · exact ⟨by kernel_rfl, by kernel_rfl⟩
  · exact ⟨by kernel_rfl, by kernel_rfl⟩
  · exact ⟨by kernel_rfl, by kernel_rfl⟩
  · exact ⟨by kernel_rfl, by kernel_rfl⟩
  · exact ⟨by kernel_rfl, by kernel_rfl⟩
  · exact ⟨by kernel_rfl, by kernel_rfl⟩
  · exact ⟨by kernel_rfl, by kernel_rfl⟩
  · exact ⟨by kernel_rfl, by kernel_rfl⟩
  · exact ⟨by kernel_rfl, by kernel_rfl⟩
  · exact ⟨by kernel_rfl, by kernel_rfl⟩
theorem cka_parts {W : World} (h : laidMetH Tryz.prog (listed ckaNames) W) : laidMet Tryz.prog (listed ckaNames) W := h
set_option maxRecDepth 100000 in
theorem cka_of_laid {W : World} (h : laidMetH Tryz.prog (listed ckaNames) W) : ∃ E, Er10 W E ∧ Er7x W E := by
  obtain ⟨ps, hv, hnd, hrows⟩ := cka_parts h
  obtain ⟨As, h1, h2, h3, h4⟩ := sentinels_of Tryz.underlying36 rowE Tryz.underlying157 Tryz.underlying176 rfl rfl Tryz.underlying9 cellsES cellsS ckaNames ps hv hnd hrows ckaNames_are
  have hlen : As.length = 10 := h1
  have hget : ∀ i, i < 10 → As[i]? = some (As.getD i ⟨0, 0, none⟩) := fun i hi => by simp [hlen, hi]
  exact ⟨fun n => if n = 1 then As.getD 0 ⟨0, 0, none⟩ else if n = 4 then As.getD 1 ⟨0, 0, none⟩ else if n = 5 then As.getD 2 ⟨0, 0, none⟩ else if n = 6 then As.getD 3 ⟨0, 0, none⟩ else if n = 7 then As.getD 4 ⟨0, 0, none⟩ else if n = 9 then As.getD 5 ⟨0, 0, none⟩ else if n = 10 then As.getD 6 ⟨0, 0, none⟩ else if n = 11 then As.getD 7 ⟨0, 0, none⟩ else if n = 12 then As.getD 8 ⟨0, 0, none⟩ else As.getD 9 ⟨0, 0, none⟩, ⟨⟨⟨h4 1 _ _ rfl (hget 1 (by decide)), h4 4 _ _ rfl (hget 4 (by decide)), h4 7 _ _ rfl (hget 7 (by decide)), h4 8 _ _ rfl (hget 8 (by decide))⟩, h4 0 _ _ rfl (hget 0 (by decide)), h4 2 _ _ rfl (hget 2 (by decide)), h4 3 _ _ rfl (hget 3 (by decide))⟩, ⟨⟨h4 1 _ _ rfl (hget 1 (by decide)), h4 4 _ _ rfl (hget 4 (by decide)), h4 7 _ _ rfl (hget 7 (by decide)), h4 8 _ _ rfl (hget 8 (by decide))⟩, h4 5 _ _ rfl (hget 5 (by decide)), h4 6 _ _ rfl (hget 6 (by decide)), h4 9 _ _ rfl (hget 9 (by decide))⟩⟩⟩
end Go.Proofs.YtdbciciljeainaaGreatDoor
