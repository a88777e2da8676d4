/-
  What the reading of a list of moves gives.
-/
import Derived.Test.YtnjabidelpafgaaDoorTmsOpen
import Derived.Test.YtnjabidelpafgaaDoorTkLaw
namespace Go.Proofs.YtnjabidelpafgaaDoor
open Go.ChangeShapes Go.WideShapes Go.ChangeAt Go.RowKit Go.Deep
set_option linter.unusedVariables false

theorem cellsMv7 : Tryd.prog.cellsOf 39 = 7 := by kernel_rfl
theorem bytesMv7 : Tryd.prog.bytesOf 39 = 56 := by kernel_rfl

set_option maxRecDepth 100000 in
theorem mv_open {H : Type} {enc : TypeId × Value → H} {W : World} {fuel : Nat} {cs : List Value} {x : DataW H × List MemPlace}
    (h2 : DataW.trod enc Tryd.prog W 0 (fun _ => true) true fuel 39 cs = some x) (hlen : cs.length = 7) : ∃ p : Mv, cs = p.cells := by
  obtain ⟨xs, n, _, _, _, hxl, hff⟩ := DataW.trod_struct Tryd.underlying39 h2
  match xs, hxl, cs, hlen with
  | [y0, y1, y2, y3, y4, y5, y6], _, [v0, v1, v2, v3, v4, v5, v6], _ =>
    have g0 : DataW.trod enc Tryd.prog W 0 (fun _ => true) true n 3 (([v0, v1, v2, v3, v4, v5, v6].drop 0).take (Tryd.prog.cellsOf 3)) = some y0 := hff 0 _ rfl
    have g1 : DataW.trod enc Tryd.prog W 0 (fun _ => true) true n 3 (([v0, v1, v2, v3, v4, v5, v6].drop 1).take (Tryd.prog.cellsOf 3)) = some y1 := hff 1 _ rfl
    have g2 : DataW.trod enc Tryd.prog W 0 (fun _ => true) true n 3 (([v0, v1, v2, v3, v4, v5, v6].drop 2).take (Tryd.prog.cellsOf 3)) = some y2 := hff 2 _ rfl
    have g3 : DataW.trod enc Tryd.prog W 0 (fun _ => true) true n 3 (([v0, v1, v2, v3, v4, v5, v6].drop 3).take (Tryd.prog.cellsOf 3)) = some y3 := hff 3 _ rfl
    have g4 : DataW.trod enc Tryd.prog W 0 (fun _ => true) true n 3 (([v0, v1, v2, v3, v4, v5, v6].drop 4).take (Tryd.prog.cellsOf 3)) = some y4 := hff 4 _ rfl
    have g5 : DataW.trod enc Tryd.prog W 0 (fun _ => true) true n 3 (([v0, v1, v2, v3, v4, v5, v6].drop 5).take (Tryd.prog.cellsOf 3)) = some y5 := hff 5 _ rfl
    have g6 : DataW.trod enc Tryd.prog W 0 (fun _ => true) true n 3 (([v0, v1, v2, v3, v4, v5, v6].drop 6).take (Tryd.prog.cellsOf 3)) = some y6 := hff 6 _ rfl
    rw [cellsTmI] at g0 g1 g2 g3 g4 g5 g6
    obtain ⟨z0, e0, _, _⟩ := DataW.trod_int Tryd.underlying3 g0
    obtain ⟨z1, e1, _, _⟩ := DataW.trod_int Tryd.underlying3 g1
    obtain ⟨z2, e2, _, _⟩ := DataW.trod_int Tryd.underlying3 g2
    obtain ⟨z3, e3, _, _⟩ := DataW.trod_int Tryd.underlying3 g3
    obtain ⟨z4, e4, _, _⟩ := DataW.trod_int Tryd.underlying3 g4
    obtain ⟨z5, e5, _, _⟩ := DataW.trod_int Tryd.underlying3 g5
    obtain ⟨z6, e6, _, _⟩ := DataW.trod_int Tryd.underlying3 g6
    simp at e0 e1 e2 e3 e4 e5 e6
    subst e0 e1 e2 e3 e4 e5 e6
    exact ⟨⟨z0, z1, z2, z3, z4, z5, z6⟩, rfl⟩

set_option maxRecDepth 100000 in
theorem mvs_open {H : Type} {enc : TypeId × Value → H} {W : World} {fuel : Nat} {a : Option Addr} {len cap : Nat} {x : DataW H × List MemPlace}
    (hf : DataW.trod enc Tryd.prog W 0 (fun _ => true) true fuel 22 [.slice a len cap] = some x) (hw : ∀ m ∈ x.1.weights Tryd.prog 22, m ≤ reachBytes) : ∃ l, Rcs Mv.cells 7 W a len cap l ∧ len ≤ 9223372036854775807 := by
  rcases open_slice Tryd.underlying22 hf with ⟨hcs, _⟩ | ⟨ad, l, c, m, nf, D, Pl, hcs, _, hl, hm, hmm, hx0, hx⟩
  · simp only [List.cons.injEq, Value.slice.injEq, and_true] at hcs
    obtain ⟨rfl, rfl, rfl⟩ := hcs
    exact ⟨[], ⟨rfl, rfl, by decide, fun _ => ⟨rfl, rfl⟩, fun j v hv => by simp at hv⟩, by decide⟩
  · simp only [List.cons.injEq, Value.slice.injEq, and_true] at hcs
    obtain ⟨rfl, rfl, rfl⟩ := hcs
    simp only [if_true] at hmm
    subst hmm
    have hreach : m * 56 ≤ reachBytes := by
      refine hw _ ?_
      rw [hx0]
      simp [DataW.weights, Tryd.underlying22, bytesMv7]
      left
      rw [show len + (m - len) = m by omega]
    have hsp0 : 0 < len → ad.spot = none := fun h0 => by
      obtain ⟨cs, h1, _⟩ := hx 0 (by omega)
      rw [cellsMv7] at h1
      obtain ⟨_, hlen, hcell⟩ := World.cells?_some h1
      have c0 := hcell 0 (by omega)
      rw [add_add, List.getElem?_eq_getElem (by omega)] at c0
      have := World.cell?_spot c0
      simpa [Addr.add] using this
    have each : ∀ k, k < len → ∃ p : Mv, ∃ b off, some ad = some (⟨b, off, none⟩ : Addr) ∧ W.rangeAt b (off + k * 7) p.cells := by
      intro k hk
      obtain ⟨cs, h1, h2⟩ := hx k (by omega)
      rw [cellsMv7] at h1
      obtain ⟨_, hlen, hcell⟩ := World.cells?_some h1
      obtain ⟨p, rfl⟩ := mv_open h2 hlen
      have hsp : ad.spot = none := hsp0 (by omega)
      obtain ⟨b, off, spot⟩ := ad
      simp only at hsp
      subst hsp
      refine ⟨p, b, off, rfl, fun j v hv => ?_⟩
      have hj : j < 7 := (List.getElem?_eq_some_iff.1 hv).1
      have c := hcell j hj
      rw [add_add, add_plain, hv] at c
      rw [Nat.add_assoc]
      exact c
    haveI : Inhabited Mv := ⟨⟨0, 0, 0, 0, 0, 0, 0⟩⟩
    obtain ⟨C, hC⟩ := choose_lt each
    refine ⟨(List.range len).map C, ⟨by simp, by rw [fl_len mv7]; simp, hl, fun e => by simp at e, fun j v hv => ?_⟩, by unfold reachBytes at hreach; omega⟩
    · have hj := (List.getElem?_eq_some_iff.1 hv).1
      rw [fl_len mv7] at hj
      simp only [List.length_map, List.length_range] at hj
      have hk : j / 7 < len := by omega
      have h1 := fl_get mv7 (l := (List.range len).map C) (k := j / 7) (x := C (j / 7)) (j % 7) (by simp [hk]) (by omega)
      rw [show j / 7 * 7 + j % 7 = j by omega, hv] at h1
      obtain ⟨b, off, e, hr⟩ := hC (j / 7) hk
      refine ⟨b, off, e, ?_⟩
      have := hr (j % 7) v h1.symm
      rw [show off + j / 7 * 7 + j % 7 = off + j by omega] at this
      exact this

end Go.Proofs.YtnjabidelpafgaaDoor
