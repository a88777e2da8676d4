/-
  What the reading of a record with bytes, a place, a mask and a number that came in gives.
-/
import Derived.Test.YtcodcbnlnapeeabDoorBase
import Derived.Test.YtcodcbnlnapeeabDoorDoorErrQ
import Derived.Deep.Slices
namespace Go.Proofs.YtcodcbnlnapeeabDoor
open Go.ChangeShapes Go.WideShapes Go.ChangeAt Go.RowKit Go.Deep

theorem cellsH : Tryd.prog.cellsOf 74 = 4 := by kernel_rfl
theorem cellsB8 : Tryd.prog.cellsOf 5 = 1 := by kernel_rfl
theorem cellsU4 : Tryd.prog.cellsOf 72 = 1 := by kernel_rfl
theorem cellsI8 : Tryd.prog.cellsOf 3 = 1 := by kernel_rfl
theorem cellsSB : Tryd.prog.cellsOf 42 = 1 := by kernel_rfl
theorem bytesB : Tryd.prog.bytesOf 5 = 1 := by kernel_rfl

theorem bytes_row {w : World} {a : Option Addr} {len cap : Nat} {zs : List Int} (x : Addr) (ha : a = some x) (hl : len ≤ cap) (hz : zs.length = cap) (hr : cap ≤ 140737488351232)
    (hc : ∀ i, i < zs.length → w.cell? (x.add i) = some (.int .u8 (zs.getD i 0))) (hw : ∀ n ∈ zs, (Lit.int .u8 n).wf = true) : Bts w a len cap ((zs.take len).map Int.toNat) := by
  have hb : ∀ n ∈ zs, 0 ≤ n ∧ n < 256 := fun n hn => by have := bounds_u8 (hw n hn); omega
  refine ⟨by simp; omega, by omega, hl, ?_, fun e => by rw [ha] at e; simp at e, ?_⟩
  · intro c hc'
    obtain ⟨n, hn, rfl⟩ := List.mem_map.1 hc'
    have := hb n (List.mem_of_mem_take hn)
    omega
  · intro k hk
    have hcell := hc k (by omega)
    obtain ⟨b, off, spot⟩ := x
    have hspot : spot = none := by simpa [Addr.add] using World.cell?_spot (hc 0 (by omega))
    subst hspot
    have hkz : k < zs.length := by omega
    refine ⟨b, off, ha, (zs[k]).toNat, by simp [hk, hkz], ?_⟩
    have hn := hb _ (List.getElem_mem hkz)
    rw [Int.toNat_of_nonneg hn.1]
    rw [add_plain] at hcell
    simpa [hkz] using hcell
theorem bytes_open {H : Type} {enc : TypeId × Value → H} {W : World} {fuel : Nat} {cs : List Value} {x : DataW H × List MemPlace}
    (hf : DataW.trod enc Tryd.prog W 0 (fun _ => true) true fuel 42 cs = some x) (hw : ∀ m ∈ x.1.weights Tryd.prog 42, m ≤ reachBytes) :
    ∃ a n c l, cs = [.slice a n c] ∧ Bts W a n c l ∧ n ≤ 140737488351232 := by
  rcases open_ints Tryd.underlying42 Tryd.underlying5 cellsB8 hf with ⟨hcs, _⟩ | ⟨ad, l, c, zs, hcs, _, hl, hm, hz, hx, hcell, hwz⟩
  · exact ⟨none, 0, 0, [], hcs, ⟨rfl, by decide, by decide, by simp, fun _ => ⟨rfl, rfl⟩, fun k hk => by omega⟩, by decide⟩
  · simp only [if_true] at hz
    have hr : c ≤ 140737488351232 := by
      have h2 := hw ((l + (c - l)) * 1) (by
        rw [hx]
        simp [DataW.weights, Tryd.underlying42, bytesB, lits, hz]
        left
        omega)
      simp only [reachBytes] at h2
      omega
    exact ⟨some ad, l, c, _, hcs, bytes_row ad rfl hl hz hr hcell hwz, by omega⟩

set_option maxRecDepth 100000 in
theorem hurt_open {H : Type} {enc : TypeId × Value → H} {W : World} {fuel : Nat} {cs : List Value} {x : DataW H × List MemPlace}
    (hf : DataW.trod enc Tryd.prog W 0 (fun _ => true) true fuel 74 cs = some x) (hw : ∀ m ∈ x.1.weights Tryd.prog 74, m ≤ reachBytes) :
    ∃ (a : Option Addr) (n c : Nat) (l : List Nat) (pos : Int) (m : Nat) (ct : Int), cs = [.slice a n c, .int .i64 pos, .int .u32 (m : Int), .int .i64 ct] ∧ Bts W a n c l ∧ n ≤ 140737488351232 ∧ -9223372036854775808 ≤ pos ∧ pos ≤ 9223372036854775807 ∧ m < 4294967296 ∧ -9223372036854775808 ≤ ct ∧ ct ≤ 9223372036854775807 := by
  obtain ⟨xs, n, _, hx, hcl, hxl, hff⟩ := DataW.trod_struct Tryd.underlying74 hf
  rw [cellsH] at hcl
  match xs, hxl, cs, hcl with
  | [y0, y1, y2, y3], _, [v0, v1, v2, v3], _ =>
    have g0 := hff 0 _ rfl
    have g1 := hff 1 _ rfl
    have g2 := hff 2 _ rfl
    have g3 := hff 3 _ rfl
    simp [cellsU4, cellsI8, cellsSB] at g0 g1 g2 g3
    subst hx
    simp only [DataW.weights, Tryd.underlying74, List.map_cons, List.map_nil, DataW.weightsEach, List.mem_append] at hw
    obtain ⟨a1, n1, c1, l1, e0, w0, l0⟩ := bytes_open g0 (fun m hm => hw m (Or.inl hm))
    obtain ⟨z1, e1, _, b1⟩ := DataW.trod_int Tryd.underlying3 g1
    obtain ⟨z2, e2, _, b2⟩ := DataW.trod_int Tryd.underlying72 g2
    obtain ⟨z3, e3, _, b3⟩ := DataW.trod_int Tryd.underlying3 g3
    simp only [List.cons.injEq, and_true] at e0 e1 e2 e3
    subst e0 e1 e2 e3
    have u1 := bounds_i64 b1
    have u2 := bounds_u32 b2
    have u3 := bounds_i64 b3
    obtain ⟨m2, rfl⟩ := Int.eq_ofNat_of_zero_le u2.1
    exact ⟨a1, n1, c1, l1, z1, m2, z3, rfl, w0, l0, u1.1, u1.2, by omega, u3.1, u3.2⟩
end Go.Proofs.YtcodcbnlnapeeabDoor
