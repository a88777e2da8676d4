/-
  What the seven listed errors give at a call's beginning; what the reading of a list of numbers that came in gives.
-/
import Derived.Test.YtnopclacchoijaaDoorXfOpen
import Derived.Test.YtnopclacchoijaaDoorXferComesWalk
namespace Go.Proofs.YtnopclacchoijaaDoor
open Go.ChangeShapes Go.WideShapes Go.ChangeAt Go.RowKit Go.Deep FerryCrc
set_option linter.unusedVariables false

def sevenNames : List (String × Nat × List UInt8) := [("ferry/api.ErrRange", 6, [97, 32, 110, 117, 109, 98, 101, 114, 32, 111, 117, 116, 32, 111, 102, 32, 105, 116, 115, 32, 114, 97, 110, 103, 101]), ("ferry/api.ErrKind", 1, [110, 111, 32, 115, 117, 99, 104, 32, 107, 105, 110, 100]), ("ferry/api.ErrState", 0, [116, 104, 101, 32, 115, 116, 97, 116, 101, 32, 98, 114, 101, 97, 107, 115, 32, 97, 32, 114, 117, 108, 101]), ("ferry/api.ErrBase", 2, [110, 111, 116, 32, 111, 118, 101, 114, 32, 116, 104, 105, 115, 32, 98, 97, 115, 101]), ("ferry/api.ErrSize", 11, [116, 111, 111, 32, 108, 97, 114, 103, 101]), ("ferry/api.ErrArg", 10, [97, 32, 119, 114, 111, 110, 103, 32, 97, 114, 103, 117, 109, 101, 110, 116]), ("ferry/api.ErrBusy", 12, [115, 111, 109, 101, 116, 104, 105, 110, 103, 32, 105, 115, 32, 117, 110, 100, 101, 114, 32, 119, 97, 121])]
theorem sevenNames_are : ∀ x ∈ sevenNames, Tryd.prog.globalNamed x.1 = some x.2.1 ∧ (Tryd.prog.globals[x.2.1]?).map (·.type) = some 52 := by
  intro x hx
  simp only [sevenNames, List.mem_cons, List.not_mem_nil, or_false] at hx
  rcases hx with rfl | rfl | rfl | rfl | rfl | rfl | rfl
  · exact ⟨by kernel_rfl, by kernel_rfl⟩
  · exact ⟨by kernel_rfl, by kernel_rfl⟩
  · exact ⟨by kernel_rfl, by kernel_rfl⟩
  · exact ⟨by kernel_rfl, by kernel_rfl⟩
  · exact ⟨by kernel_rfl, by kernel_rfl⟩
  · exact ⟨by kernel_rfl, by kernel_rfl⟩
  · exact ⟨by kernel_rfl, by kernel_rfl⟩
theorem seven_parts {W : World} (h : laidMetH Tryd.prog (listed sevenNames) W) : laidMet Tryd.prog (listed sevenNames) W := h
set_option maxRecDepth 100000 in
theorem er7_of_laid {W : World} (h : laidMetH Tryd.prog (listed sevenNames) W) : ∃ E, Er7 W E := by
  obtain ⟨ps, hv, hnd, hrows⟩ := seven_parts h
  obtain ⟨As, h1, h2, h3, h4⟩ := sentinels_of Tryd.underlying52 rowE Tryd.underlying189 Tryd.underlying208 rfl rfl Tryd.underlying9 cellsES cellsS sevenNames ps hv hnd hrows sevenNames_are
  have hlen : As.length = 7 := h1
  have hget : ∀ i, i < 7 → As[i]? = some (As.getD i ⟨0, 0, none⟩) := fun i hi => by simp [hlen, hi]
  exact ⟨fun n => if n = 4 then As.getD 0 ⟨0, 0, none⟩ else if n = 7 then As.getD 1 ⟨0, 0, none⟩ else if n = 9 then As.getD 2 ⟨0, 0, none⟩ else if n = 10 then As.getD 3 ⟨0, 0, none⟩ else if n = 11 then As.getD 4 ⟨0, 0, none⟩ else if n = 12 then As.getD 5 ⟨0, 0, none⟩ else As.getD 6 ⟨0, 0, none⟩, ⟨h4 0 _ _ rfl (hget 0 (by decide)), h4 1 _ _ rfl (hget 1 (by decide)), h4 2 _ _ rfl (hget 2 (by decide)), h4 3 _ _ rfl (hget 3 (by decide)), h4 4 _ _ rfl (hget 4 (by decide)), h4 5 _ _ rfl (hget 5 (by decide)), h4 6 _ _ rfl (hget 6 (by decide))⟩⟩
theorem iv_flat (l : List Int) : l.flatMap iv = l.map (fun x => Value.int .i64 x) := by
  induction l with
  | nil => rfl
  | cons x l ih => rw [List.flatMap_cons, ih]; rfl
theorem bytesI8 : Tryd.prog.bytesOf 3 = 8 := by kernel_rfl
theorem ints_open {H : Type} {enc : TypeId × Value → H} {W : World} {fuel : Nat} {cs : List Value} {x : DataW H × List MemPlace}
    (hf : DataW.trod enc Tryd.prog W 0 (fun _ => true) true fuel 86 cs = some x) (hw : ∀ m ∈ x.1.weights Tryd.prog 86, m ≤ reachBytes) :
    ∃ a n c l, cs = [.slice a n c] ∧ Ins W a n c l ∧ n ≤ 4611686018427387904 := by
  rcases open_ints Tryd.underlying86 Tryd.underlying3 cellsIn hf with ⟨hcs, _⟩ | ⟨ad, l, c, zs, hcs, _, hl, hm, hz, hx, hcell, hwz⟩
  · exact ⟨none, 0, 0, [], hcs, ⟨rfl, rfl, Nat.le_refl _, fun _ => ⟨rfl, rfl⟩, fun j v hv => by simp at hv⟩, by decide⟩
  · simp only [if_true] at hz
    have h2 := hw ((l + (c - l)) * 8) (by
      rw [hx]
      simp [DataW.weights, Tryd.underlying86, bytesI8, lits, hz]
      left
      omega)
    simp only [reachBytes] at h2
    obtain ⟨b, off, spot⟩ := ad
    refine ⟨_, l, c, zs.take l, hcs, ⟨by rw [List.length_take]; omega, ?_, hl, fun e => by simp at e, ?_⟩, by omega⟩
    · rw [iv_flat, List.length_map, List.length_take]
      omega
    · intro j v hv
      rw [iv_flat, List.getElem?_map] at hv
      have hj : j < l := by
        cases h : (zs.take l)[j]? with
        | none => rw [h] at hv; simp at hv
        | some y =>
          have := (List.getElem?_eq_some_iff.1 h).1
          rw [List.length_take] at this
          omega
      have hs : spot = none := by
        have := World.cell?_spot (hcell 0 (by omega))
        simpa [Addr.add] using this
      subst hs
      have hjz : j < zs.length := by omega
      rw [List.getElem?_take, if_pos hj, List.getElem?_eq_getElem hjz] at hv
      simp only [Option.map_some, Option.some.injEq] at hv
      refine ⟨b, off, rfl, ?_⟩
      have hc := hcell j hjz
      rw [add_plain] at hc
      rw [hc, ← hv]
      simp [hjz]
end Go.Proofs.YtnopclacchoijaaDoor
