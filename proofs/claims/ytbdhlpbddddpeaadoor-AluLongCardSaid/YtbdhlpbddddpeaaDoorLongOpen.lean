/-
  What the reading of a record with two lists of words and two words that came in gives: the words, in memory.
-/
import Derived.Test.YtbdhlpbddddpeaaDoorPlus
import Derived.Test.YtbdhlpbddddpeaaDoorDoorErr0
import Derived.Deep.Slices
namespace Go.Proofs.YtbdhlpbddddpeaaDoor
open Go.ChangeShapes Go.WideShapes Go.ChangeAt Go.RowKit Go.Deep

theorem cellsL : Tryd.prog.cellsOf 44 = 4 := by kernel_rfl
theorem cellsU : Tryd.prog.cellsOf 22 = 1 := by kernel_rfl
theorem cellsW : Tryd.prog.cellsOf 42 = 1 := by kernel_rfl
theorem bytesU : Tryd.prog.bytesOf 22 = 4 := by kernel_rfl

theorem words_open {H : Type} {enc : TypeId × Value → H} {W : World} {fuel : Nat} {cs : List Value} {x : DataW H × List MemPlace}
    (hf : DataW.trod enc Tryd.prog W 0 (fun _ => true) true fuel 42 cs = some x) (hw : ∀ m ∈ x.1.weights Tryd.prog 42, m ≤ reachBytes) :
    ∃ a n c A, cs = [.slice a n c] ∧ Wf W a n A ∧ n ≤ c := by
  rcases open_ints Tryd.underlying42 Tryd.underlying22 cellsU hf with ⟨hcs, _⟩ | ⟨ad, l, c, zs, hcs, _, hl, hm, hz, hx, hcell, hwz⟩
  · exact ⟨none, 0, 0, fun _ => 0, hcs, ⟨by decide, fun k hk => by omega, fun k hk => by omega⟩, by decide⟩
  · simp only [if_true] at hz
    refine ⟨some ad, l, c, fun k => (zs.getD k 0).toNat, hcs, ⟨?_, ?_, ?_⟩, hl⟩
    · have h2 := hw ((l + (c - l)) * 4) (by
        rw [hx]
        simp [DataW.weights, Tryd.underlying42, bytesU, lits, hz]
        left
        omega)
      simp only [reachBytes] at h2
      omega
    · intro k hk
      have hmem : zs.getD k 0 ∈ zs := by
        simp [List.getD, List.getElem?_eq_getElem (show k < zs.length by omega)]
      have := bounds_u32 (hwz _ hmem)
      show (zs.getD k 0).toNat < _
      omega
    · intro k hk
      have hmem : zs.getD k 0 ∈ zs := by
        simp [List.getD, List.getElem?_eq_getElem (show k < zs.length by omega)]
      have hb := bounds_u32 (hwz _ hmem)
      have hc := hcell k (by omega)
      obtain ⟨b, off, spot⟩ := ad
      have hs : spot = none := by
        have := World.cell?_spot (hcell 0 (by omega))
        simpa [Addr.add] using this
      subst hs
      refine ⟨b, off, rfl, ?_⟩
      rw [show ((zs.getD k 0).toNat : Int) = zs.getD k 0 from Int.toNat_of_nonneg hb.1]
      simpa only [add_plain] using hc

set_option maxRecDepth 100000 in
theorem long_open {H : Type} {enc : TypeId × Value → H} {W : World} {fuel : Nat} {cs : List Value} {x : DataW H × List MemPlace}
    (hf : DataW.trod enc Tryd.prog W 0 (fun _ => true) true fuel 44 cs = some x) (hw : ∀ m ∈ x.1.weights Tryd.prog 44, m ≤ reachBytes) :
    ∃ (a1 a2 : Option Addr) (n1 n2 c1 c2 : Nat) (A B : Nat → Nat) (c r : Nat), cs = [.slice a1 n1 c1, .slice a2 n2 c2, .int .u32 (c : Int), .int .u32 (r : Int)] ∧ Wf W a1 n1 A ∧ Wf W a2 n2 B ∧ n1 ≤ c1 ∧ n2 ≤ c2 ∧ c < 4294967296 ∧ r < 4294967296 := by
  obtain ⟨xs, n, _, hx, hcl, hxl, hff⟩ := DataW.trod_struct Tryd.underlying44 hf
  rw [cellsL] at hcl
  match xs, hxl, cs, hcl with
  | [y0, y1, y2, y3], _, [v0, v1, v2, v3], _ =>
    have g0 := hff 0 _ rfl
    have g1 := hff 1 _ rfl
    have g2 := hff 2 _ rfl
    have g3 := hff 3 _ rfl
    simp [cellsU, cellsW] at g0 g1 g2 g3
    subst hx
    simp only [DataW.weights, Tryd.underlying44, List.map_cons, List.map_nil, DataW.weightsEach, List.mem_append] at hw
    obtain ⟨a1, n1, c1, A, e0, w0, l0⟩ := words_open g0 (fun m hm => hw m (Or.inl hm))
    obtain ⟨a2, n2, c2, B, e1, w1, l1⟩ := words_open g1 (fun m hm => hw m (Or.inr (Or.inl hm)))
    obtain ⟨z2, e2, _, b2⟩ := DataW.trod_int Tryd.underlying22 g2
    obtain ⟨z3, e3, _, b3⟩ := DataW.trod_int Tryd.underlying22 g3
    simp only [List.cons.injEq, and_true] at e0 e1 e2 e3
    subst e0 e1 e2 e3
    have u2 := bounds_u32 b2
    have u3 := bounds_u32 b3
    obtain ⟨m2, rfl⟩ := Int.eq_ofNat_of_zero_le u2.1
    obtain ⟨m3, rfl⟩ := Int.eq_ofNat_of_zero_le u3.1
    exact ⟨a1, a2, n1, n2, c1, c2, A, B, m2, m3, rfl, w0, w1, l0, l1, by omega, by omega⟩
end Go.Proofs.YtbdhlpbddddpeaaDoor
