/-
  What the reading of a list of timers that came in gives: the timers, in memory; what the three listed errors give.
-/
import Derived.Test.YtahcchipedppmaaGreatDoorTmForm
import Derived.Test.YtahcchipedppmaaGreatDoorDoorErr
import Derived.Deep.Slices
namespace Go.Proofs.YtahcchipedppmaaGreatDoor
open Go.ChangeShapes Go.WideShapes Go.ChangeAt Go.RowKit Go.Deep FerryCrc
set_option linter.unusedVariables false

structure Tm.Ok (t : Tm) : Prop where
  p0 : -9223372036854775808 ≤ t.proc
  p1 : t.proc ≤ 9223372036854775807
  d0 : -9223372036854775808 ≤ t.due
  d1 : t.due ≤ 9223372036854775807
theorem cellsTm : Tryz.prog.cellsOf 51 = 2 := by kernel_rfl
theorem cellsTmI : Tryz.prog.cellsOf 3 = 1 := by kernel_rfl
theorem bytesTm : Tryz.prog.bytesOf 51 = 16 := by kernel_rfl

set_option maxRecDepth 100000 in
theorem tm_open {H : Type} {enc : TypeId × Value → H} {W : World} {fuel : Nat} {cs : List Value} {x : DataW H × List MemPlace}
    (h2 : DataW.trod enc Tryz.prog W 0 (fun _ => true) true fuel 51 cs = some x) (hlen : cs.length = 2) : ∃ p : Tm, p.Ok ∧ cs = p.cells := by
  obtain ⟨xs, n, _, _, _, hxl, hff⟩ := DataW.trod_struct Tryz.underlying51 h2
  match xs, hxl, cs, hlen with
  | [y0, y1], _, [v0, v1], _ =>
    have g0 : DataW.trod enc Tryz.prog W 0 (fun _ => true) true n 3 (([v0, v1].drop 0).take (Tryz.prog.cellsOf 3)) = some y0 := hff 0 _ rfl
    have g1 : DataW.trod enc Tryz.prog W 0 (fun _ => true) true n 3 (([v0, v1].drop 1).take (Tryz.prog.cellsOf 3)) = some y1 := hff 1 _ rfl
    rw [cellsTmI] at g0 g1
    obtain ⟨z0, e0, _, b0⟩ := DataW.trod_int Tryz.underlying3 g0
    obtain ⟨z1, e1, _, b1⟩ := DataW.trod_int Tryz.underlying3 g1
    simp at e0 e1
    subst e0 e1
    have i0 := bounds_i64 b0
    have i1 := bounds_i64 b1
    exact ⟨⟨z0, z1⟩, ⟨i0.1, i0.2, i1.1, i1.2⟩, rfl⟩

set_option maxRecDepth 100000 in
theorem tms_open {H : Type} {enc : TypeId × Value → H} {W : World} {fuel : Nat} {a : Option Addr} {len cap : Nat} {x : DataW H × List MemPlace}
    (hf : DataW.trod enc Tryz.prog W 0 (fun _ => true) true fuel 24 [.slice a len cap] = some x) (hw : ∀ m ∈ x.1.weights Tryz.prog 24, m ≤ reachBytes) : ∃ l, Rcs Tm.cells 2 W a len cap l ∧ (∀ p ∈ l, p.Ok) ∧ len ≤ 8796093021952 := by
  rcases open_slice Tryz.underlying24 hf with ⟨hcs, _⟩ | ⟨ad, l, c, m, nf, D, Pl, hcs, _, hl, hm, hmm, hx0, hx⟩
  · simp only [List.cons.injEq, Value.slice.injEq, and_true] at hcs
    obtain ⟨rfl, rfl, rfl⟩ := hcs
    exact ⟨[], ⟨rfl, rfl, by decide, fun _ => ⟨rfl, rfl⟩, fun j v hv => by simp at hv⟩, fun p hp => by simp at hp, by decide⟩
  · simp only [List.cons.injEq, Value.slice.injEq, and_true] at hcs
    obtain ⟨rfl, rfl, rfl⟩ := hcs
    simp only [if_true] at hmm
    subst hmm
    have hreach : m * 16 ≤ reachBytes := by
      refine hw _ ?_
      rw [hx0]
      simp [DataW.weights, Tryz.underlying24, bytesTm]
      left
      rw [show len + (m - len) = m by omega]
    have hsp0 : 0 < len → ad.spot = none := fun h0 => by
      obtain ⟨cs, h1, _⟩ := hx 0 (by omega)
      rw [cellsTm] at h1
      obtain ⟨_, hlen, hcell⟩ := World.cells?_some h1
      have c0 := hcell 0 (by omega)
      rw [add_add, List.getElem?_eq_getElem (by omega)] at c0
      have := World.cell?_spot c0
      simpa [Addr.add] using this
    have each : ∀ k, k < len → ∃ p : Tm, ∃ b off, some ad = some (⟨b, off, none⟩ : Addr) ∧ p.Ok ∧ W.rangeAt b (off + k * 2) p.cells := by
      intro k hk
      obtain ⟨cs, h1, h2⟩ := hx k (by omega)
      rw [cellsTm] at h1
      obtain ⟨_, hlen, hcell⟩ := World.cells?_some h1
      obtain ⟨p, hp, rfl⟩ := tm_open h2 hlen
      have hsp : ad.spot = none := hsp0 (by omega)
      obtain ⟨b, off, spot⟩ := ad
      simp only at hsp
      subst hsp
      refine ⟨p, b, off, rfl, hp, fun j v hv => ?_⟩
      have hj : j < 2 := by
        have := (List.getElem?_eq_some_iff.1 hv).1
        omega
      have c := hcell j hj
      rw [add_add, add_plain, hv] at c
      rw [Nat.add_assoc]
      exact c
    haveI : Inhabited Tm := ⟨⟨0, 0⟩⟩
    obtain ⟨C, hC⟩ := choose_lt each
    refine ⟨(List.range len).map C, ⟨by simp, by rw [fl_len tm2]; simp, hl, fun e => by simp at e, fun j v hv => ?_⟩, fun p hp => ?_, by unfold reachBytes at hreach; omega⟩
    · have hj := (List.getElem?_eq_some_iff.1 hv).1
      rw [fl_len tm2] at hj
      simp only [List.length_map, List.length_range] at hj
      have hk : j / 2 < len := by omega
      have h1 := fl_get tm2 (l := (List.range len).map C) (k := j / 2) (x := C (j / 2)) (j % 2) (by simp [hk]) (by omega)
      rw [show j / 2 * 2 + j % 2 = j by omega, hv] at h1
      obtain ⟨b, off, e, _, hr⟩ := hC (j / 2) hk
      refine ⟨b, off, e, ?_⟩
      have := hr (j % 2) v h1.symm
      rw [show off + j / 2 * 2 + j % 2 = off + j by omega] at this
      exact this
    · obtain ⟨i, hi, rfl⟩ := List.mem_map.1 hp
      obtain ⟨_, _, _, h, _⟩ := hC i (List.mem_range.1 hi)
      exact h

/-- The three errors that the laws' calls name. -/
def nineNames : List (String × Nat × List UInt8) := [("ferry/api.ErrState", 0, [116, 104, 101, 32, 115, 116, 97, 116, 101, 32, 98, 114, 101, 97, 107, 115, 32, 97, 32, 114, 117, 108, 101]), ("ferry/api.ErrArg", 11, [97, 32, 119, 114, 111, 110, 103, 32, 97, 114, 103, 117, 109, 101, 110, 116]), ("ferry/api.ErrNone", 1, [116, 104, 101, 114, 101, 32, 105, 115, 32, 110, 111, 110, 101])]
theorem nineNames_are : ∀ x ∈ nineNames, Tryz.prog.globalNamed x.1 = some x.2.1 ∧ (Tryz.prog.globals[x.2.1]?).map (·.type) = some 31 := by
  intro x hx
  simp only [nineNames, List.mem_cons, List.not_mem_nil, or_false] at hx
  rcases hx with rfl | rfl | rfl
  · exact ⟨by kernel_rfl, by kernel_rfl⟩
  · exact ⟨by kernel_rfl, by kernel_rfl⟩
  · exact ⟨by kernel_rfl, by kernel_rfl⟩
theorem nine_parts {W : World} (h : laidMetH Tryz.prog (listed nineNames) W) : laidMet Tryz.prog (listed nineNames) W := h
set_option maxRecDepth 100000 in
theorem er9_of_laid {W : World} (h : laidMetH Tryz.prog (listed nineNames) W) : ∃ E, Er9 W E := by
  obtain ⟨ps, hv, hnd, hrows⟩ := nine_parts h
  obtain ⟨As, h1, h2, h3, h4⟩ := sentinels_of Tryz.underlying31 rowE Tryz.underlying161 Tryz.underlying182 rfl rfl Tryz.underlying9 cellsES cellsS nineNames ps hv hnd hrows nineNames_are
  have hlen : As.length = 3 := h1
  have hget : ∀ i, i < 3 → As[i]? = some (As.getD i ⟨0, 0, none⟩) := fun i hi => by simp [hlen, hi]
  exact ⟨fun n => if n = 9 then As.getD 0 ⟨0, 0, none⟩ else if n = 12 then As.getD 1 ⟨0, 0, none⟩ else As.getD 2 ⟨0, 0, none⟩, ⟨h4 0 _ _ rfl (hget 0 (by decide)), h4 1 _ _ rfl (hget 1 (by decide)), h4 2 _ _ rfl (hget 2 (by decide))⟩⟩
end Go.Proofs.YtahcchipedppmaaGreatDoor
