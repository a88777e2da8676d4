/-
  What the reading of a list of plans of pages that came in gives: the plans, in memory.
-/
import Derived.Test.YtojfeengjlkknaaDoorPgMake0
import Derived.Test.YtojfeengjlkknaaDoorFrameLite
import Derived.Deep.Slices
namespace Go.Proofs.YtojfeengjlkknaaDoor
open Go.ChangeShapes Go.WideShapes Go.ChangeAt Go.RowKit Go.Deep FerryCrc
set_option linter.unusedVariables false

theorem cellsPn : Tryd.prog.cellsOf 29 = 2 := by kernel_rfl
theorem cellsPnI : Tryd.prog.cellsOf 3 = 1 := by kernel_rfl
theorem cellsPnS : Tryd.prog.cellsOf 9 = 1 := by kernel_rfl
theorem bytesPn : Tryd.prog.bytesOf 29 = 24 := by kernel_rfl

set_option maxRecDepth 100000 in
theorem pn_open {H : Type} {enc : TypeId × Value → H} {W : World} {fuel : Nat} {cs : List Value} {x : DataW H × List MemPlace}
    (h2 : DataW.trod enc Tryd.prog W 0 (fun _ => true) true fuel 29 cs = some x) (hlen : cs.length = 2) : ∃ p : Pnv, p.Ok ∧ cs = p.cells := by
  obtain ⟨xs, n, _, _, _, hxl, hff⟩ := DataW.trod_struct Tryd.underlying29 h2
  match xs, hxl, cs, hlen with
  | [y0, y1], _, [v0, v1], _ =>
    have g0 : DataW.trod enc Tryd.prog W 0 (fun _ => true) true n 3 (([v0, v1].drop 0).take (Tryd.prog.cellsOf 3)) = some y0 := hff 0 _ rfl
    have g1 : DataW.trod enc Tryd.prog W 0 (fun _ => true) true n 9 (([v0, v1].drop 1).take (Tryd.prog.cellsOf 9)) = some y1 := hff 1 _ rfl
    rw [cellsPnI] at g0
    rw [cellsPnS] at g1
    obtain ⟨z0, e0, _, b0⟩ := DataW.trod_int Tryd.underlying3 g0
    obtain ⟨s, e1, _, b1⟩ := DataW.trod_string Tryd.underlying9 g1
    simp at e0 e1
    subst e0 e1
    have i0 := bounds_i64 b0
    exact ⟨⟨z0, bytesOf s⟩, ⟨i0.1, i0.2, bytesOf_lt s, by show (bytesOf s).length ≤ _; rw [bytesOf_len]; unfold maxLen at b1; exact Nat.le_trans b1 (by decide)⟩, by show _ = [Value.int .i64 z0, .string (str (bytesOf s))]; rw [str_bytesOf]⟩

set_option maxRecDepth 100000 in
theorem pns_open {H : Type} {enc : TypeId × Value → H} {W : World} {fuel : Nat} {a : Option Addr} {len cap : Nat} {x : DataW H × List MemPlace}
    (hf : DataW.trod enc Tryd.prog W 0 (fun _ => true) true fuel 22 [.slice a len cap] = some x) (hw : ∀ m ∈ x.1.weights Tryd.prog 22, m ≤ reachBytes) : ∃ l, Rcs Pnv.cells 2 W a len cap l ∧ (∀ p ∈ l, p.Ok) ∧ len ≤ 5864062014805 := by
  rcases open_slice Tryd.underlying22 hf with ⟨hcs, _⟩ | ⟨ad, l, c, m, nf, D, Pl, hcs, _, hl, hm, hmm, hx0, hx⟩
  · simp only [List.cons.injEq, Value.slice.injEq, and_true] at hcs
    obtain ⟨rfl, rfl, rfl⟩ := hcs
    exact ⟨[], ⟨rfl, rfl, by decide, fun _ => ⟨rfl, rfl⟩, fun j v hv => by simp at hv⟩, fun p hp => by simp at hp, by decide⟩
  · simp only [List.cons.injEq, Value.slice.injEq, and_true] at hcs
    obtain ⟨rfl, rfl, rfl⟩ := hcs
    simp only [if_true] at hmm
    subst hmm
    have hreach : m * 24 ≤ reachBytes := by
      refine hw _ ?_
      rw [hx0]
      simp [DataW.weights, Tryd.underlying22, bytesPn]
      left
      rw [show len + (m - len) = m by omega]
    have hsp0 : 0 < len → ad.spot = none := fun h0 => by
      obtain ⟨cs, h1, _⟩ := hx 0 (by omega)
      rw [cellsPn] at h1
      obtain ⟨_, hlen, hcell⟩ := World.cells?_some h1
      have c0 := hcell 0 (by omega)
      rw [add_add, List.getElem?_eq_getElem (by omega)] at c0
      have := World.cell?_spot c0
      simpa [Addr.add] using this
    have each : ∀ k, k < len → ∃ p : Pnv, ∃ b off, some ad = some (⟨b, off, none⟩ : Addr) ∧ p.Ok ∧ W.rangeAt b (off + k * 2) p.cells := by
      intro k hk
      obtain ⟨cs, h1, h2⟩ := hx k (by omega)
      rw [cellsPn] at h1
      obtain ⟨_, hlen, hcell⟩ := World.cells?_some h1
      obtain ⟨p, hp, rfl⟩ := pn_open h2 hlen
      have hsp : ad.spot = none := hsp0 (by omega)
      obtain ⟨b, off, spot⟩ := ad
      simp only at hsp
      subst hsp
      refine ⟨p, b, off, rfl, hp, fun j v hv => ?_⟩
      have hj : j < 2 := by
        have := (List.getElem?_eq_some_iff.1 hv).1
        omega
      have c := hcell j hj
      rw [add_add, add_plain, hv] at c
      rw [Nat.add_assoc]
      exact c
    haveI : Inhabited Pnv := ⟨⟨0, []⟩⟩
    obtain ⟨C, hC⟩ := choose_lt each
    refine ⟨(List.range len).map C, ⟨by simp, by rw [fl_len pnv2]; simp, hl, fun e => by simp at e, fun j v hv => ?_⟩, fun p hp => ?_, by unfold reachBytes at hreach; omega⟩
    · have hj := (List.getElem?_eq_some_iff.1 hv).1
      rw [fl_len pnv2] at hj
      simp only [List.length_map, List.length_range] at hj
      have hk : j / 2 < len := by omega
      have h1 := fl_get pnv2 (l := (List.range len).map C) (k := j / 2) (x := C (j / 2)) (j % 2) (by simp [hk]) (by omega)
      rw [show j / 2 * 2 + j % 2 = j by omega, hv] at h1
      obtain ⟨b, off, e, _, hr⟩ := hC (j / 2) hk
      refine ⟨b, off, e, ?_⟩
      have := hr (j % 2) v h1.symm
      rw [show off + j / 2 * 2 + j % 2 = off + j by omega] at this
      exact this
    · obtain ⟨i, hi, rfl⟩ := List.mem_map.1 hp
      obtain ⟨_, _, _, h, _⟩ := hC i (List.mem_range.1 hi)
      exact h
end Go.Proofs.YtojfeengjlkknaaDoor
