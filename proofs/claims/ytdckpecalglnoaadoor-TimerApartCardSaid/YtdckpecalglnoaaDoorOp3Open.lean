/-
  What the reading of a list of the law's calls gives.
-/
import Derived.Test.YtdckpecalglnoaaDoorTmsOpen
namespace Go.Proofs.YtdckpecalglnoaaDoor
open Go.ChangeShapes Go.WideShapes Go.ChangeAt Go.RowKit Go.Deep FerryCrc
set_option linter.unusedVariables false

structure Op3 where
  kd : Int
  pr : Int
  n : Int
def Op3.cells (o : Op3) : List Value := [.int .i64 o.kd, .int .i64 o.pr, .int .i64 o.n]
theorem op3 (o : Op3) : o.cells.length = 3 := rfl
structure Op3.Ok (o : Op3) : Prop where
  k0 : -9223372036854775808 ≤ o.kd
  k1 : o.kd ≤ 9223372036854775807
  p0 : -9223372036854775808 ≤ o.pr
  p1 : o.pr ≤ 9223372036854775807
  n0 : -9223372036854775808 ≤ o.n
  n1 : o.n ≤ 9223372036854775807
theorem cellsO3 : Tryd.prog.cellsOf 29 = 3 := by kernel_rfl
theorem bytesO3 : Tryd.prog.bytesOf 29 = 24 := by kernel_rfl

set_option maxRecDepth 100000 in
theorem op3_open {H : Type} {enc : TypeId × Value → H} {W : World} {fuel : Nat} {cs : List Value} {x : DataW H × List MemPlace}
    (h2 : DataW.trod enc Tryd.prog W 0 (fun _ => true) true fuel 29 cs = some x) (hlen : cs.length = 3) : ∃ p : Op3, p.Ok ∧ cs = p.cells := by
  obtain ⟨xs, n, _, _, _, hxl, hff⟩ := DataW.trod_struct Tryd.underlying29 h2
  match xs, hxl, cs, hlen with
  | [y0, y1, y2], _, [v0, v1, v2], _ =>
    have g0 : DataW.trod enc Tryd.prog W 0 (fun _ => true) true n 3 (([v0, v1, v2].drop 0).take (Tryd.prog.cellsOf 3)) = some y0 := hff 0 _ rfl
    have g1 : DataW.trod enc Tryd.prog W 0 (fun _ => true) true n 3 (([v0, v1, v2].drop 1).take (Tryd.prog.cellsOf 3)) = some y1 := hff 1 _ rfl
    have g2 : DataW.trod enc Tryd.prog W 0 (fun _ => true) true n 3 (([v0, v1, v2].drop 2).take (Tryd.prog.cellsOf 3)) = some y2 := hff 2 _ rfl
    rw [cellsTmI] at g0 g1 g2
    obtain ⟨z0, e0, _, b0⟩ := DataW.trod_int Tryd.underlying3 g0
    obtain ⟨z1, e1, _, b1⟩ := DataW.trod_int Tryd.underlying3 g1
    obtain ⟨z2, e2, _, b2⟩ := DataW.trod_int Tryd.underlying3 g2
    simp at e0 e1 e2
    subst e0 e1 e2
    have i0 := bounds_i64 b0
    have i1 := bounds_i64 b1
    have i2 := bounds_i64 b2
    exact ⟨⟨z0, z1, z2⟩, ⟨i0.1, i0.2, i1.1, i1.2, i2.1, i2.2⟩, rfl⟩

set_option maxRecDepth 100000 in
theorem op3s_open {H : Type} {enc : TypeId × Value → H} {W : World} {fuel : Nat} {a : Option Addr} {len cap : Nat} {x : DataW H × List MemPlace}
    (hf : DataW.trod enc Tryd.prog W 0 (fun _ => true) true fuel 23 [.slice a len cap] = some x) (hw : ∀ m ∈ x.1.weights Tryd.prog 23, m ≤ reachBytes) : ∃ l, Rcs Op3.cells 3 W a len cap l ∧ (∀ p ∈ l, p.Ok) ∧ len ≤ 5864062014805 := by
  rcases open_slice Tryd.underlying23 hf with ⟨hcs, _⟩ | ⟨ad, l, c, m, nf, D, Pl, hcs, _, hl, hm, hmm, hx0, hx⟩
  · simp only [List.cons.injEq, Value.slice.injEq, and_true] at hcs
    obtain ⟨rfl, rfl, rfl⟩ := hcs
    exact ⟨[], ⟨rfl, rfl, by decide, fun _ => ⟨rfl, rfl⟩, fun j v hv => by simp at hv⟩, fun p hp => by simp at hp, by decide⟩
  · simp only [List.cons.injEq, Value.slice.injEq, and_true] at hcs
    obtain ⟨rfl, rfl, rfl⟩ := hcs
    simp only [if_true] at hmm
    subst hmm
    have hreach : m * 24 ≤ reachBytes := by
      refine hw _ ?_
      rw [hx0]
      simp [DataW.weights, Tryd.underlying23, bytesO3]
      left
      rw [show len + (m - len) = m by omega]
    have hsp0 : 0 < len → ad.spot = none := fun h0 => by
      obtain ⟨cs, h1, _⟩ := hx 0 (by omega)
      rw [cellsO3] at h1
      obtain ⟨_, hlen, hcell⟩ := World.cells?_some h1
      have c0 := hcell 0 (by omega)
      rw [add_add, List.getElem?_eq_getElem (by omega)] at c0
      have := World.cell?_spot c0
      simpa [Addr.add] using this
    have each : ∀ k, k < len → ∃ p   : Op3, ∃ b off, some ad = some (⟨b, off, none⟩ : Addr) ∧ p.Ok ∧ W.rangeAt b (off + k * 3) p.cells := by
      intro k hk
      obtain ⟨cs, h1, h2⟩ := hx k (by omega)
      rw [cellsO3] at h1
      obtain ⟨_, hlen, hcell⟩ := World.cells?_some h1
      obtain ⟨p, hp, rfl⟩ := op3_open h2 hlen
      have hsp : ad.spot = none := hsp0 (by omega)
      obtain ⟨b, off, spot⟩ := ad
      simp only at hsp
      subst hsp
      refine ⟨p, b, off, rfl, hp, fun j v hv => ?_⟩
      have hj : j < 3 := by
        have := (List.getElem?_eq_some_iff.1 hv).1
        omega
      have c := hcell j hj
      rw [add_add, add_plain, hv] at c
      rw [Nat.add_assoc]
      exact c
    haveI : Inhabited Op3 := ⟨⟨0, 0, 0⟩⟩
    obtain ⟨C, hC⟩ := choose_lt each
    refine ⟨(List.range len).map C, ⟨by simp, by rw [fl_len op3]; simp, hl, fun e => by simp at e, fun j v hv => ?_⟩, fun p hp => ?_, by unfold reachBytes at hreach; omega⟩
    · have hj := (List.getElem?_eq_some_iff.1 hv).1
      rw [fl_len op3] at hj
      simp only [List.length_map, List.length_range] at hj
      have hk : j / 3 < len := by omega
      have h1 := fl_get op3 (l := (List.range len).map C) (k := j / 3) (x := C (j / 3)) (j % 3) (by simp [hk]) (by omega)
      rw [show j / 3 * 3 + j % 3 = j by omega, hv] at h1
      obtain ⟨b, off, e, _, hr⟩ := hC (j / 3) hk
      refine ⟨b, off, e, ?_⟩
      have := hr (j % 3) v h1.symm
      rw [show off + j / 3 * 3 + j % 3 = off + j by omega] at this
      exact this
    · obtain ⟨i, hi, rfl⟩ := List.mem_map.1 hp
      obtain ⟨_, _, _, h, _⟩ := hC i (List.mem_range.1 hi)
      exact h

end Go.Proofs.YtdckpecalglnoaaDoor
