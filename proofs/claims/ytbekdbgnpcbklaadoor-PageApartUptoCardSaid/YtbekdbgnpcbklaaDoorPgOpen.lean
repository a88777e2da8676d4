/-
  What the reading of a list of pages that came in gives: the pages, in memory.
-/
import Derived.Test.YtbekdbgnpcbklaaDoorPgBase
import Derived.Test.YtbekdbgnpcbklaaDoorFrameLite
import Derived.Deep.Slices
namespace Go.Proofs.YtbekdbgnpcbklaaDoor
open Go.ChangeShapes Go.WideShapes Go.ChangeAt Go.RowKit Go.Deep FerryCrc
set_option linter.unusedVariables false

theorem cellsPg : Tryd.prog.cellsOf 59 = 66 := by kernel_rfl
theorem cellsPi : Tryd.prog.cellsOf 3 = 1 := by kernel_rfl
theorem cellsPb : Tryd.prog.cellsOf 4 = 1 := by kernel_rfl
theorem cellsPc : Tryd.prog.cellsOf 5 = 1 := by kernel_rfl
theorem cellsPd : Tryd.prog.cellsOf 57 = 64 := by kernel_rfl
theorem bytesPg : Tryd.prog.bytesOf 59 = 80 := by kernel_rfl

theorem take_one_get {cs : List Value} {k : Nat} {v : Value} (h : (cs.drop k).take 1 = [v]) : cs[k]? = some v := by
  have := congrArg (fun l : List Value => l[0]?) h
  simpa [List.getElem?_take, List.getElem?_drop] using this

set_option maxRecDepth 100000 in
theorem page_open {H : Type} {enc : TypeId × Value → H} {W : World} {fuel : Nat} {cs : List Value} {x : DataW H × List MemPlace}
    (h2 : DataW.trod enc Tryd.prog W 0 (fun _ => true) true fuel 59 cs = some x) (hlen : cs.length = 66) : ∃ p : Pg, p.Ok ∧ cs = p.cells := by
  obtain ⟨xs, n, _, _, _, hxl, hff⟩ := DataW.trod_struct Tryd.underlying59 h2
  match xs, hxl with
  | [y0, y1, y2], _ =>
    have g0 : DataW.trod enc Tryd.prog W 0 (fun _ => true) true n 3 ((cs.drop 0).take (Tryd.prog.cellsOf 3)) = some y0 := hff 0 _ rfl
    have g1 : DataW.trod enc Tryd.prog W 0 (fun _ => true) true n 4 ((cs.drop 1).take (Tryd.prog.cellsOf 4)) = some y1 := hff 1 _ rfl
    have g2 : DataW.trod enc Tryd.prog W 0 (fun _ => true) true n 57 ((cs.drop 2).take (Tryd.prog.cellsOf 57)) = some y2 := hff 2 _ rfl
    rw [cellsPi] at g0
    rw [cellsPb] at g1
    rw [cellsPd] at g2
    obtain ⟨z0, e0, _, b0⟩ := DataW.trod_int Tryd.underlying3 g0
    obtain ⟨d, e1, _⟩ := DataW.trod_bool Tryd.underlying4 g1
    obtain ⟨zs, m, _, _, _, hzl, hz⟩ := DataW.trod_array Tryd.underlying57 g2
    have c0 := take_one_get e0
    have c1 := take_one_get e1
    obtain ⟨f, hf⟩ := choose_lt (α := Nat) (n := 64) (p := fun i c => c < 256 ∧ cs[2 + i]? = some (bv c)) (fun i hi => by
      have hzi := hz i hi
      rw [cellsPc, Nat.mul_one, List.getElem?_eq_getElem (by omega)] at hzi
      obtain ⟨z, e, _, b⟩ := DataW.trod_int Tryd.underlying5 hzi
      have e3 := take_one_get e
      have u := bounds_u8 b
      obtain ⟨c, rfl⟩ := Int.eq_ofNat_of_zero_le u.1
      refine ⟨c, by omega, ?_⟩
      rw [List.getElem?_take, if_pos hi, List.getElem?_drop] at e3
      exact e3)
    have i0 := bounds_i64 b0
    refine ⟨⟨z0, d, (List.range 64).map f⟩, ⟨i0.1, i0.2, by simp, fun c hc => ?_⟩, ?_⟩
    · obtain ⟨i, hi, rfl⟩ := List.mem_map.1 hc
      exact (hf i (List.mem_range.1 hi)).1
    · refine List.ext_getElem? fun j => ?_
      match j with
      | 0 => exact c0
      | 1 => exact c1
      | j + 2 =>
        show cs[j + 2]? = (((List.range 64).map f).map bv)[j]?
        by_cases hj : j < 64
        · rw [Nat.add_comm, (hf j hj).2]
          simp [hj]
        · rw [List.getElem?_eq_none (by omega), List.getElem?_eq_none (by simp; omega)]

set_option maxRecDepth 100000 in
theorem pages_open {H : Type} {enc : TypeId × Value → H} {W : World} {fuel : Nat} {a : Option Addr} {len cap : Nat} {x : DataW H × List MemPlace}
    (hf : DataW.trod enc Tryd.prog W 0 (fun _ => true) true fuel 22 [.slice a len cap] = some x) (hw : ∀ m ∈ x.1.weights Tryd.prog 22, m ≤ reachBytes) : ∃ l, Pgs W a len cap l := by
  rcases open_slice Tryd.underlying22 hf with ⟨hcs, _⟩ | ⟨ad, l, c, m, nf, D, Pl, hcs, _, hl, hm, hmm, hx0, hx⟩
  · simp only [List.cons.injEq, Value.slice.injEq, and_true] at hcs
    obtain ⟨rfl, rfl, rfl⟩ := hcs
    exact ⟨[], ⟨rfl, by decide, by decide, fun p hp => by simp at hp, fun _ => ⟨rfl, rfl⟩, fun k p hk => by simp at hk⟩⟩
  · simp only [List.cons.injEq, Value.slice.injEq, and_true] at hcs
    obtain ⟨rfl, rfl, rfl⟩ := hcs
    simp only [if_true] at hmm
    subst hmm
    have hreach : m * 80 ≤ reachBytes := by
      refine hw _ ?_
      rw [hx0]
      simp [DataW.weights, Tryd.underlying22, bytesPg]
      left
      rw [show len + (m - len) = m by omega]
    have hsp0 : 0 < len → ad.spot = none := fun h0 => by
      obtain ⟨cs, h1, _⟩ := hx 0 (by omega)
      rw [cellsPg] at h1
      obtain ⟨_, hlen, hcell⟩ := World.cells?_some h1
      have c0 := hcell 0 (by omega)
      rw [add_add, List.getElem?_eq_getElem (by omega)] at c0
      have := World.cell?_spot c0
      simpa [Addr.add] using this
    have each : ∀ k, k < len → ∃ p : Pg, p.Ok ∧ ∃ b off, some ad = some (⟨b, off, none⟩ : Addr) ∧ W.rangeAt b (off + k * 66) p.cells := by
      intro k hk
      obtain ⟨cs, h1, h2⟩ := hx k (by omega)
      rw [cellsPg] at h1
      obtain ⟨_, hlen, hcell⟩ := World.cells?_some h1
      obtain ⟨p, hp, rfl⟩ := page_open h2 hlen
      have hsp : ad.spot = none := hsp0 (by omega)
      obtain ⟨b, off, spot⟩ := ad
      simp only at hsp
      subst hsp
      refine ⟨p, hp, b, off, rfl, fun j v hv => ?_⟩
      have hj : j < 66 := by
        have := (List.getElem?_eq_some_iff.1 hv).1
        omega
      have c := hcell j hj
      rw [add_add, add_plain, hv] at c
      rw [Nat.add_assoc]
      exact c
    haveI : Inhabited Pg := ⟨⟨0, false, []⟩⟩
    obtain ⟨C, hC⟩ := choose_lt each
    refine ⟨(List.range len).map C, ⟨by simp, ?_, hl, fun p hp => ?_, fun e => by simp at e, fun k p hk => ?_⟩⟩
    · unfold reachBytes at hreach
      omega
    · obtain ⟨i, hi, rfl⟩ := List.mem_map.1 hp
      exact (hC i (List.mem_range.1 hi)).1
    · have hkl : k < len := by
        have := (List.getElem?_eq_some_iff.1 hk).1
        simpa using this
      simp [hkl] at hk
      subst hk
      exact (hC k hkl).2
end Go.Proofs.YtbekdbgnpcbklaaDoor
