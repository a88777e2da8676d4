/-
  What the listed package variables give the machine: three errors, and the table of the forms' ranges.
  What the reading of a process that came in gives.
-/
import Derived.Test.YtegkodgondlcmaaDoorCmStep
import Derived.Test.YtegkodgondlcmaaDoorPgOpen
namespace Go.Proofs.YtegkodgondlcmaaDoor
open Go.ChangeShapes Go.WideShapes Go.ChangeAt Go.RowKit Go.Deep FerryCrc
set_option linter.unusedVariables false

theorem rowE : ∀ u, Tryd.prog.typeName? 3 u = some "*errors.errorString" → u = 134 := fun u h =>
  typeName_ptr_named (nm := "errors.errorString") (by kernel_rfl) (by kernel_rfl) (by decide) u h
theorem cellsES : Tryd.prog.cellsOf 151 = 1 := by kernel_rfl
theorem cellsS : Tryd.prog.cellsOf 9 = 1 := by kernel_rfl
theorem cellsBd : Tryd.prog.cellsOf 97 = 5 := by kernel_rfl

theorem int_at {W : World} {sp : Nat → Bool} {held : Bool} {n : Nat} {cs : List Value} {k : Nat} {x : Int} {y : DataW Unit × List MemPlace}
    (g : DataW.trod (fun _ => ()) Tryd.prog W 0 sp held n 3 ((cs.drop k).take (Tryd.prog.cellsOf 3)) = some y) (hy : y.1 = .lit (.int .i64 x)) : cs[k]? = some (.int .i64 x) := by
  rw [cellsPi] at g
  obtain ⟨z, e, hz, _⟩ := DataW.trod_int Tryd.underlying3 g
  subst hz
  simp only [DataW.lit.injEq, Lit.int.injEq, true_and] at hy
  subst hy
  exact take_one_get e
theorem bounds_at {W : World} {sp : Nat → Bool} {held : Bool} {fuel : Nat} {cs : List Value} {x0 x1 x2 x3 x4 : Int} {p : List MemPlace}
    (h : DataW.trod (fun _ => ()) Tryd.prog W 0 sp held fuel 97 cs = some (.agg [.lit (.int .i64 x0), .lit (.int .i64 x1), .lit (.int .i64 x2), .lit (.int .i64 x3), .lit (.int .i64 x4)], p)) :
    cs[0]? = some (.int .i64 x0) ∧ cs[1]? = some (.int .i64 x1) ∧ cs[2]? = some (.int .i64 x2) ∧ cs[3]? = some (.int .i64 x3) ∧ cs[4]? = some (.int .i64 x4) := by
  obtain ⟨xs, n, _, hx, _, hxl, hff⟩ := DataW.trod_struct Tryd.underlying97 h
  match xs, hxl with
  | [y0, y1, y2, y3, y4], _ =>
    simp only [Prod.mk.injEq, DataW.agg.injEq, List.map_cons, List.map_nil, List.cons.injEq, and_true] at hx
    obtain ⟨⟨e0, e1, e2, e3, e4⟩, _⟩ := hx
    exact ⟨int_at (hff 0 _ rfl) e0.symm, int_at (hff 1 _ rfl) e1.symm, int_at (hff 2 _ rfl) e2.symm, int_at (hff 3 _ rfl) e3.symm, int_at (hff 4 _ rfl) e4.symm⟩
def rowD (f : Nat) : DataW Unit := .agg [.lit (.int .i64 (hiA f)), .lit (.int .i64 (hiB f)), .lit (.int .i64 (hiC f)), .lit (.int .i64 (loI f)), .lit (.int .i64 (hiI f))]
set_option maxRecDepth 100000 in
theorem table_at {W : World} {sp : Nat → Bool} {held : Bool} {fuel : Nat} {cs : List Value} {p : List MemPlace}
    (h : DataW.trod (fun _ => ()) Tryd.prog W 0 sp held fuel 98 cs = some (.agg [rowD 0, rowD 1, rowD 2, rowD 3, rowD 4, rowD 5, rowD 6, rowD 7], p)) (f : Nat) (hf : f < 8) :
    cs[f * 5]? = some (.int .i64 (hiA f)) ∧ cs[f * 5 + 1]? = some (.int .i64 (hiB f)) ∧ cs[f * 5 + 2]? = some (.int .i64 (hiC f)) ∧ cs[f * 5 + 3]? = some (.int .i64 (loI f)) ∧ cs[f * 5 + 4]? = some (.int .i64 (hiI f)) := by
  obtain ⟨xs, m, _, hx, _, hxl, hff⟩ := DataW.trod_array Tryd.underlying98 h
  simp only [Prod.mk.injEq, DataW.agg.injEq] at hx
  have hg := hff f hf
  rw [cellsBd] at hg
  obtain ⟨y, hy⟩ : ∃ y, xs[f]? = some y := ⟨_, List.getElem?_eq_getElem (by omega)⟩
  have hy1 : y.1 = rowD f := by
    have h1 : (xs.map (·.1))[f]? = some y.1 := by rw [List.getElem?_map, hy]; rfl
    rw [← hx.1] at h1
    rcases (by omega : f = 0 ∨ f = 1 ∨ f = 2 ∨ f = 3 ∨ f = 4 ∨ f = 5 ∨ f = 6 ∨ f = 7) with rfl | rfl | rfl | rfl | rfl | rfl | rfl | rfl
    all_goals exact (Option.some.inj h1).symm
  rw [hy] at hg
  obtain ⟨y1, y2⟩ := y
  simp only at hy1
  subst hy1
  have hb := bounds_at hg
  have e (j : Nat) (hj : j < 5) : ((cs.drop (f * 5)).take 5)[j]? = cs[f * 5 + j]? := by rw [List.getElem?_take, if_pos hj, List.getElem?_drop]
  rw [e 0 (by decide), e 1 (by decide), e 2 (by decide), e 3 (by decide), e 4 (by decide)] at hb
  exact hb

set_option maxRecDepth 100000 in
theorem cov_of_laid {W : World} (h : laidMetH Tryd.prog Rows.coreStepsRow.laid W) : ∃ A, Cov W A := by
  have h' : laidMet Tryd.prog Rows.coreStepsRow.laid W := h
  obtain ⟨ps, hv, hnd, hrows⟩ := h'
  obtain ⟨g1, t1, cs1, f1, p1, q1, hg1, ht1, hv1, hd1, hq1, rfl⟩ := hv
  obtain ⟨g2, t2, cs2, f2, p2, q2, hg2, ht2, hv2, hd2, hq2, rfl⟩ := hq1
  obtain ⟨g3, t3, cs3, f3, p3, q3, hg3, ht3, hv3, hd3, hq3, rfl⟩ := hq2
  obtain ⟨g4, t4, cs4, f4, p4, q4, hg4, ht4, hv4, hd4, hq4, rfl⟩ := hq3
  obtain ⟨g5, t5, cs5, f5, p5, q5, hg5, ht5, hv5, hd5, hq5, rfl⟩ := hq4
  obtain rfl : 3 = g1 := Option.some.inj ((show Tryd.prog.globalNamed "ferry/api.ErrRange" = some 3 by kernel_rfl).symm.trans hg1)
  obtain rfl : 44 = t1 := Option.some.inj ((show (Tryd.prog.globals[3]?).map (·.type) = some 44 by kernel_rfl).symm.trans ht1)
  obtain rfl : 1 = g2 := Option.some.inj ((show Tryd.prog.globalNamed "ferry/api.ErrKind" = some 1 by kernel_rfl).symm.trans hg2)
  obtain rfl : 44 = t2 := Option.some.inj ((show (Tryd.prog.globals[1]?).map (·.type) = some 44 by kernel_rfl).symm.trans ht2)
  obtain rfl : 4 = g4 := Option.some.inj ((show Tryd.prog.globalNamed "ferry/api.ErrDivide" = some 4 by kernel_rfl).symm.trans hg4)
  obtain rfl : 44 = t4 := Option.some.inj ((show (Tryd.prog.globals[4]?).map (·.type) = some 44 by kernel_rfl).symm.trans ht4)
  obtain rfl : 2 = g5 := Option.some.inj ((show Tryd.prog.globalNamed "ferry/isa.formBounds" = some 2 by kernel_rfl).symm.trans hg5)
  obtain rfl : 98 = t5 := Option.some.inj ((show (Tryd.prog.globals[2]?).map (·.type) = some 98 by kernel_rfl).symm.trans ht5)
  obtain ⟨l1⟩ := cs1
  obtain ⟨l2⟩ := cs2
  obtain ⟨l4⟩ := cs4
  have ok1 : ∀ u v, l1 = [.iface u v] → Value.okWide Tryd.prog W .any 0 u v := fun u v e => by
    subst e
    exact (hrows 3 0 (by simp [MemPlace.row])).2 u v (by simpa using World.var?_cell hg1 hv1 0)
  have ok2 : ∀ u v, l2 = [.iface u v] → Value.okWide Tryd.prog W .any 0 u v := fun u v e => by
    subst e
    exact (hrows 1 0 (by simp [MemPlace.row])).2 u v (by simpa using World.var?_cell hg2 hv2 0)
  have ok4 : ∀ u v, l4 = [.iface u v] → Value.okWide Tryd.prog W .any 0 u v := fun u v e => by
    subst e
    exact (hrows 4 0 (by simp [MemPlace.row])).2 u v (by simpa using World.var?_cell hg4 hv4 0)
  obtain ⟨a1, s1, rfl, _, _, _, _⟩ := errorString_of_trod Tryd.underlying44 rowE Tryd.underlying134 Tryd.underlying151 rfl rfl Tryd.underlying9 cellsES cellsS hd1 ok1
  obtain ⟨a2, s2, rfl, _, _, _, _⟩ := errorString_of_trod Tryd.underlying44 rowE Tryd.underlying134 Tryd.underlying151 rfl rfl Tryd.underlying9 cellsES cellsS hd2 ok2
  obtain ⟨a4, s4, rfl, _, _, _, _⟩ := errorString_of_trod Tryd.underlying44 rowE Tryd.underlying134 Tryd.underlying151 rfl rfl Tryd.underlying9 cellsES cellsS hd4 ok4
  refine ⟨a4, ⟨⟨a2, by simpa using World.var?_cell hg2 hv2 0⟩, ⟨a1, by simpa using World.var?_cell hg1 hv1 0⟩, fun f hf => ?_⟩, by unfold Dvz; simpa using World.var?_cell hg4 hv4 0⟩
  have ht := table_at (p := p5) hd5 f hf
  have c (i : Nat) : W.cell? ⟨2, i, none⟩ = cs5.toList[i]? := by rw [World.var?_cell hg5 hv5 i]; simp
  rw [← c, ← c, ← c, ← c, ← c] at ht
  exact ht
end Go.Proofs.YtegkodgondlcmaaDoor
namespace Go.Proofs.YtegkodgondlcmaaDoor
open Go.ChangeShapes Go.WideShapes Go.ChangeAt Go.RowKit Go.Deep FerryCrc
set_option linter.unusedVariables false

theorem cellsPr : Tryd.prog.cellsOf 26 = 21 := by kernel_rfl
theorem cellsPu : Tryd.prog.cellsOf 23 = 1 := by kernel_rfl
theorem cellsPu16 : Tryd.prog.cellsOf 24 = 16 := by kernel_rfl

set_option maxRecDepth 100000 in
theorem proc_open {H : Type} {enc : TypeId × Value → H} {W : World} {fuel : Nat} {cs : List Value} {x : DataW H × List MemPlace}
    (h2 : DataW.trod enc Tryd.prog W 0 (fun _ => true) true fuel 26 cs = some x) {l : List Pg} (ol : Oks l) (hl : l.length ≤ 1759218604391) : ∃ m : Mc, m.pages = l ∧ m.Ok ∧ cs = m.proc := by
  obtain ⟨xs, n, _, _, hcl, hxl, hff⟩ := DataW.trod_struct Tryd.underlying26 h2
  rw [cellsPr] at hcl
  match xs, hxl with
  | [y0, y1, y2, y3, y4, y5], _ =>
    have g0 : DataW.trod enc Tryd.prog W 0 (fun _ => true) true n 24 ((cs.drop 0).take (Tryd.prog.cellsOf 24)) = some y0 := hff 0 _ rfl
    have g1 : DataW.trod enc Tryd.prog W 0 (fun _ => true) true n 23 ((cs.drop 16).take (Tryd.prog.cellsOf 23)) = some y1 := hff 1 _ rfl
    have g2 : DataW.trod enc Tryd.prog W 0 (fun _ => true) true n 3 ((cs.drop 17).take (Tryd.prog.cellsOf 3)) = some y2 := hff 2 _ rfl
    have g3 : DataW.trod enc Tryd.prog W 0 (fun _ => true) true n 3 ((cs.drop 18).take (Tryd.prog.cellsOf 3)) = some y3 := hff 3 _ rfl
    have g4 : DataW.trod enc Tryd.prog W 0 (fun _ => true) true n 3 ((cs.drop 19).take (Tryd.prog.cellsOf 3)) = some y4 := hff 4 _ rfl
    have g5 : DataW.trod enc Tryd.prog W 0 (fun _ => true) true n 3 ((cs.drop 20).take (Tryd.prog.cellsOf 3)) = some y5 := hff 5 _ rfl
    rw [cellsPu16] at g0
    rw [cellsPu] at g1
    rw [cellsPi] at g2 g3 g4 g5
    obtain ⟨z1, e1, _, b1⟩ := DataW.trod_int Tryd.underlying23 g1
    obtain ⟨z2, e2, _, _⟩ := DataW.trod_int Tryd.underlying3 g2
    obtain ⟨z3, e3, _, _⟩ := DataW.trod_int Tryd.underlying3 g3
    obtain ⟨z4, e4, _, _⟩ := DataW.trod_int Tryd.underlying3 g4
    obtain ⟨z5, e5, _, _⟩ := DataW.trod_int Tryd.underlying3 g5
    obtain ⟨zs, m, _, _, _, hzl, hz⟩ := DataW.trod_array Tryd.underlying24 g0
    have c1 := take_one_get e1
    have c2 := take_one_get e2
    have c3 := take_one_get e3
    have c4 := take_one_get e4
    have c5 := take_one_get e5
    obtain ⟨f, hf⟩ := choose_lt (α := Nat) (n := 16) (p := fun i c => c < 4294967296 ∧ cs[i]? = some (u32v c)) (fun i hi => by
      have hzi := hz i hi
      rw [cellsPu, Nat.mul_one, List.getElem?_eq_getElem (by omega)] at hzi
      obtain ⟨z, e, _, b⟩ := DataW.trod_int Tryd.underlying23 hzi
      have e3 := take_one_get e
      have u := bounds_u32 b
      obtain ⟨c, rfl⟩ := Int.eq_ofNat_of_zero_le u.1
      refine ⟨c, by omega, ?_⟩
      rw [List.getElem?_take, if_pos hi, List.getElem?_drop, Nat.zero_add] at e3
      exact e3)
    have u1 := bounds_u32 b1
    obtain ⟨p1, rfl⟩ := Int.eq_ofNat_of_zero_le u1.1
    refine ⟨⟨l, (List.range 16).map f, p1, z2, z3, z4, z5⟩, rfl, ⟨ol, hl, by simp, fun r hr => ?_, by show p1 < _; omega⟩, ?_⟩
    · obtain ⟨i, hi, rfl⟩ := List.mem_map.1 hr
      exact (hf i (List.mem_range.1 hi)).1
    · refine List.ext_getElem? fun j => ?_
      show cs[j]? = (((List.range 16).map f).map u32v ++ [.int .u32 (p1 : Int), .int .i64 z2, .int .i64 z3, .int .i64 z4, .int .i64 z5])[j]?
      by_cases hj : j < 16
      · rw [(hf j hj).2, List.getElem?_append_left (by simpa using hj)]
        simp [hj]
      · rw [List.getElem?_append_right (by simp; omega)]
        simp only [List.length_map, List.length_range]
        rcases (by omega : j = 16 ∨ j = 17 ∨ j = 18 ∨ j = 19 ∨ j = 20 ∨ 21 ≤ j) with rfl | rfl | rfl | rfl | rfl | h
        · exact c1
        · exact c2
        · exact c3
        · exact c4
        · exact c5
        · rw [List.getElem?_eq_none (by omega), List.getElem?_eq_none (by simp; omega)]

end Go.Proofs.YtegkodgondlcmaaDoor
