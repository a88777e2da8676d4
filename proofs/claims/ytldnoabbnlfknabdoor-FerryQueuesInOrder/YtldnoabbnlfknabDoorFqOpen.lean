/-
  What the reading of a list of strings that came in gives: the strings, in memory.
-/
import Derived.Test.YtldnoabbnlfknabDoorFqBase
import Derived.Deep.Slices
namespace Go.Proofs.YtldnoabbnlfknabDoor
open Go.ChangeShapes Go.WideShapes Go.ChangeAt Go.RowKit Go.Deep
set_option linter.unusedVariables false

theorem cellsSt : Tryd.prog.cellsOf 9 = 1 := by kernel_rfl
theorem bytesSt : Tryd.prog.bytesOf 9 = 16 := by kernel_rfl
set_option maxRecDepth 100000 in
theorem sts_open {H : Type} {enc : TypeId × Value → H} {W : World} {fuel : Nat} {cs : List Value} {x : DataW H × List MemPlace}
    (hf : DataW.trod enc Tryd.prog W 0 (fun _ => true) true fuel 58 cs = some x) (hw : ∀ m ∈ x.1.weights Tryd.prog 58, m ≤ reachBytes) : ∃ a len cap l, cs = [.slice a len cap] ∧ Sts W a len cap l ∧ len ≤ 8796093021952 := by
  rcases open_slice Tryd.underlying58 hf with ⟨hcs, _⟩ | ⟨ad, len, cap, m, nf, D, Pl, hcs, _, hl, hm, hmm, hx0, hx⟩
  · exact ⟨none, 0, 0, [], hcs, ⟨rfl, by decide, fun s hs => by simp at hs, rfl, by decide, fun _ => ⟨rfl, rfl⟩, fun j v hv => by simp at hv⟩, by decide⟩
  · simp only [if_true] at hmm
    subst hmm
    have hreach : m * 16 ≤ reachBytes := by
      refine hw _ ?_
      rw [hx0]
      simp [DataW.weights, Tryd.underlying58, bytesSt]
      left
      rw [show len + (m - len) = m by omega]
    have hsp0 : 0 < len → ad.spot = none := fun h0 => by
      obtain ⟨cs', h1, _⟩ := hx 0 (by omega)
      rw [cellsSt] at h1
      obtain ⟨_, hlen, hcell⟩ := World.cells?_some h1
      have c0 := hcell 0 (by omega)
      rw [add_add, List.getElem?_eq_getElem (by omega)] at c0
      have := World.cell?_spot c0
      simpa [Addr.add] using this
    have each : ∀ k, k < len → ∃ s : ByteArray, s.size ≤ 9223372036854775807 ∧ ∃ b off, some ad = some (⟨b, off, none⟩ : Addr) ∧ W.cell? ⟨b, off + k, none⟩ = some (.string s) := by
      intro k hk
      obtain ⟨cs', h1, h2⟩ := hx k (by omega)
      rw [cellsSt] at h1
      obtain ⟨_, hlen, hcell⟩ := World.cells?_some h1
      obtain ⟨s, e4, _, b4⟩ := DataW.trod_string Tryd.underlying9 h2
      have hsp : ad.spot = none := hsp0 (by omega)
      obtain ⟨b, off, spot⟩ := ad
      simp only at hsp
      subst hsp
      refine ⟨s, by unfold maxLen at b4; exact Nat.le_trans b4 (by decide), b, off, rfl, ?_⟩
      have c := hcell 0 (by omega)
      rw [add_add, add_plain, e4] at c
      simpa using c
    haveI : Inhabited ByteArray := ⟨ByteArray.empty⟩
    obtain ⟨C, hC⟩ := choose_lt each
    refine ⟨some ad, len, m, (List.range len).map C, hcs, ⟨by simp, ?_, fun s hs => ?_, by simp, hl, fun e => by simp at e, fun j v hv => ?_⟩, by unfold reachBytes at hreach; omega⟩
    · unfold reachBytes at hreach
      omega
    · obtain ⟨i, hi, rfl⟩ := List.mem_map.1 hs
      exact (hC i (List.mem_range.1 hi)).1
    · have hj : j < len := by
        have := (List.getElem?_eq_some_iff.1 hv).1
        simpa using this
      simp [hj, sv] at hv
      subst hv
      exact (hC j hj).2
end Go.Proofs.YtldnoabbnlfknabDoor
