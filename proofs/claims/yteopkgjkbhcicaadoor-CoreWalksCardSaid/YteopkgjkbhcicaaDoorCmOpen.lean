/-
  What the reading of a process and of a cut that came in gives.
-/
import Derived.Test.YteopkgjkbhcicaaDoorCmStep
import Derived.Test.YteopkgjkbhcicaaDoorPgOpen
namespace Go.Proofs.YteopkgjkbhcicaaDoor
open Go.ChangeShapes Go.WideShapes Go.ChangeAt Go.RowKit Go.Deep FerryCrc
set_option linter.unusedVariables false

theorem cellsPr : Tryd.prog.cellsOf 26 = 21 := by kernel_rfl
theorem cellsCt : Tryd.prog.cellsOf 28 = 2 := by kernel_rfl
theorem cellsPu : Tryd.prog.cellsOf 23 = 1 := by kernel_rfl
theorem cellsPu16 : Tryd.prog.cellsOf 24 = 16 := by kernel_rfl

set_option maxRecDepth 100000 in
theorem proc_open {H : Type} {enc : TypeId × Value → H} {W : World} {fuel : Nat} {cs : List Value} {x : DataW H × List MemPlace}
    (h2 : DataW.trod enc Tryd.prog W 0 (fun _ => true) true fuel 26 cs = some x) {l : List Pg} (ol : Oks l) (hl : l.length ≤ 1759218604391) : ∃ m : Mc, m.pages = l ∧ m.Ok ∧ cs = m.proc := by
  obtain ⟨xs, n, _, _, hcl, hxl, hff⟩ := DataW.trod_struct Tryd.underlying26 h2
  rw [cellsPr] at hcl
  match xs, hxl with
  | [y0, y1, y2, y3, y4, y5], _ =>
    have g0 : DataW.trod enc Tryd.prog W 0 (fun _ => true) true n 24 ((cs.drop 0).take (Tryd.prog.cellsOf 24)) = some y0 := hff 0 _ rfl
    have g1 : DataW.trod enc Tryd.prog W 0 (fun _ => true) true n 23 ((cs.drop 16).take (Tryd.prog.cellsOf 23)) = some y1 := hff 1 _ rfl
    have g2 : DataW.trod enc Tryd.prog W 0 (fun _ => true) true n 3 ((cs.drop 17).take (Tryd.prog.cellsOf 3)) = some y2 := hff 2 _ rfl
    have g3 : DataW.trod enc Tryd.prog W 0 (fun _ => true) true n 3 ((cs.drop 18).take (Tryd.prog.cellsOf 3)) = some y3 := hff 3 _ rfl
    have g4 : DataW.trod enc Tryd.prog W 0 (fun _ => true) true n 3 ((cs.drop 19).take (Tryd.prog.cellsOf 3)) = some y4 := hff 4 _ rfl
    have g5 : DataW.trod enc Tryd.prog W 0 (fun _ => true) true n 3 ((cs.drop 20).take (Tryd.prog.cellsOf 3)) = some y5 := hff 5 _ rfl
    rw [cellsPu16] at g0
    rw [cellsPu] at g1
    rw [cellsPi] at g2 g3 g4 g5
    obtain ⟨z1, e1, _, b1⟩ := DataW.trod_int Tryd.underlying23 g1
    obtain ⟨z2, e2, _, _⟩ := DataW.trod_int Tryd.underlying3 g2
    obtain ⟨z3, e3, _, _⟩ := DataW.trod_int Tryd.underlying3 g3
    obtain ⟨z4, e4, _, _⟩ := DataW.trod_int Tryd.underlying3 g4
    obtain ⟨z5, e5, _, _⟩ := DataW.trod_int Tryd.underlying3 g5
    obtain ⟨zs, m, _, _, _, hzl, hz⟩ := DataW.trod_array Tryd.underlying24 g0
    have c1 := take_one_get e1
    have c2 := take_one_get e2
    have c3 := take_one_get e3
    have c4 := take_one_get e4
    have c5 := take_one_get e5
    obtain ⟨f, hf⟩ := choose_lt (α := Nat) (n := 16) (p := fun i c => c < 4294967296 ∧ cs[i]? = some (u32v c)) (fun i hi => by
      have hzi := hz i hi
      rw [cellsPu, Nat.mul_one, List.getElem?_eq_getElem (by omega)] at hzi
      obtain ⟨z, e, _, b⟩ := DataW.trod_int Tryd.underlying23 hzi
      have e3 := take_one_get e
      have u := bounds_u32 b
      obtain ⟨c, rfl⟩ := Int.eq_ofNat_of_zero_le u.1
      refine ⟨c, by omega, ?_⟩
      rw [List.getElem?_take, if_pos hi, List.getElem?_drop, Nat.zero_add] at e3
      exact e3)
    have u1 := bounds_u32 b1
    obtain ⟨p1, rfl⟩ := Int.eq_ofNat_of_zero_le u1.1
    refine ⟨⟨l, (List.range 16).map f, p1, z2, z3, z4, z5⟩, rfl, ⟨ol, hl, by simp, fun r hr => ?_, by show p1 < _; omega⟩, ?_⟩
    · obtain ⟨i, hi, rfl⟩ := List.mem_map.1 hr
      exact (hf i (List.mem_range.1 hi)).1
    · refine List.ext_getElem? fun j => ?_
      show cs[j]? = (((List.range 16).map f).map u32v ++ [.int .u32 (p1 : Int), .int .i64 z2, .int .i64 z3, .int .i64 z4, .int .i64 z5])[j]?
      by_cases hj : j < 16
      · rw [(hf j hj).2, List.getElem?_append_left (by simpa using hj)]
        simp [hj]
      · rw [List.getElem?_append_right (by simp; omega)]
        simp only [List.length_map, List.length_range]
        rcases (by omega : j = 16 ∨ j = 17 ∨ j = 18 ∨ j = 19 ∨ j = 20 ∨ 21 ≤ j) with rfl | rfl | rfl | rfl | rfl | h
        · exact c1
        · exact c2
        · exact c3
        · exact c4
        · exact c5
        · rw [List.getElem?_eq_none (by omega), List.getElem?_eq_none (by simp; omega)]

set_option maxRecDepth 100000 in
theorem cut_open {H : Type} {enc : TypeId × Value → H} {W : World} {fuel : Nat} {cs : List Value} {x : DataW H × List MemPlace}
    (hf : DataW.trod enc Tryd.prog W 0 (fun _ => true) true fuel 28 cs = some x) : ∃ c1 c2 : Int, cs = [.int .i64 c1, .int .i64 c2] ∧ -9223372036854775808 ≤ c1 ∧ -9223372036854775808 ≤ c2 := by
  obtain ⟨xs, n, _, hx, hcl, hxl, hff⟩ := DataW.trod_struct Tryd.underlying28 hf
  rw [cellsCt] at hcl
  match xs, hxl, cs, hcl with
  | [y0, y1], _, [v0, v1], _ =>
    have g0 := hff 0 _ rfl
    have g1 := hff 1 _ rfl
    simp [cellsPi] at g0 g1
    obtain ⟨z0, e0, _, b0⟩ := DataW.trod_int Tryd.underlying3 g0
    obtain ⟨z1, e1, _, b1⟩ := DataW.trod_int Tryd.underlying3 g1
    simp only [List.cons.injEq, and_true] at e0 e1
    subst e0 e1
    exact ⟨z0, z1, rfl, (bounds_i64 b0).1, (bounds_i64 b1).1⟩
end Go.Proofs.YteopkgjkbhcicaaDoor
