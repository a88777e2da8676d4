/-
  What the reading of a list of numbers that came in gives.
-/
import Derived.Test.YtdbciciljeainaaDoorCkOpen
import Derived.Test.YtdbciciljeainaaDoorCkMiss
namespace Go.Proofs.YtdbciciljeainaaDoor
open Go.ChangeShapes Go.WideShapes Go.ChangeAt Go.RowKit Go.Deep FerryCrc
set_option linter.unusedVariables false

theorem iv_flat (l : List Int) : l.flatMap iv = l.map (fun x => Value.int .i64 x) := by
  induction l with
  | nil => rfl
  | cons x l ih => rw [List.flatMap_cons, ih]; rfl
theorem bytesI8 : Tryd.prog.bytesOf 3 = 8 := by kernel_rfl
theorem ints_open {H : Type} {enc : TypeId × Value → H} {W : World} {fuel : Nat} {cs : List Value} {x : DataW H × List MemPlace}
    (hf : DataW.trod enc Tryd.prog W 0 (fun _ => true) true fuel 59 cs = some x) (hw : ∀ m ∈ x.1.weights Tryd.prog 59, m ≤ reachBytes) :
    ∃ a n c l, cs = [.slice a n c] ∧ Ins W a n c l ∧ n ≤ 4611686018427387904 := by
  rcases open_ints Tryd.underlying59 Tryd.underlying3 cellsIn hf with ⟨hcs, _⟩ | ⟨ad, l, c, zs, hcs, _, hl, hm, hz, hx, hcell, hwz⟩
  · exact ⟨none, 0, 0, [], hcs, ⟨rfl, rfl, Nat.le_refl _, fun _ => ⟨rfl, rfl⟩, fun j v hv => by simp at hv⟩, by decide⟩
  · simp only [if_true] at hz
    have h2 := hw ((l + (c - l)) * 8) (by
      rw [hx]
      simp [DataW.weights, Tryd.underlying59, bytesI8, lits, hz]
      left
      omega)
    simp only [reachBytes] at h2
    obtain ⟨b, off, spot⟩ := ad
    refine ⟨_, l, c, zs.take l, hcs, ⟨by rw [List.length_take]; omega, ?_, hl, fun e => by simp at e, ?_⟩, by omega⟩
    · rw [iv_flat, List.length_map, List.length_take]
      omega
    · intro j v hv
      rw [iv_flat, List.getElem?_map] at hv
      have hj : j < l := by
        cases h : (zs.take l)[j]? with
        | none => rw [h] at hv; simp at hv
        | some y =>
          have := (List.getElem?_eq_some_iff.1 h).1
          rw [List.length_take] at this
          omega
      have hs : spot = none := by
        have := World.cell?_spot (hcell 0 (by omega))
        simpa [Addr.add] using this
      subst hs
      have hjz : j < zs.length := by omega
      rw [List.getElem?_take, if_pos hj, List.getElem?_eq_getElem hjz] at hv
      simp only [Option.map_some, Option.some.injEq] at hv
      refine ⟨b, off, rfl, ?_⟩
      have hc := hcell j hjz
      rw [add_plain] at hc
      rw [hc, ← hv]
      simp [hjz]
end Go.Proofs.YtdbciciljeainaaDoor
