/-
  What the listed package variables give: two errors, the table of the forms' ranges, the names, the registers, the operands.
-/
import Derived.Test.YthcmeboepedelaaDoorIaRead
import Derived.Test.YthcmeboepedelaaDoorIsDecode
import Derived.Test.YthcmeboepedelaaDoorFrameLite
import Derived.Deep.Slices
namespace Go.Proofs.YthcmeboepedelaaDoor
open Go.ChangeShapes Go.WideShapes Go.ChangeAt Go.RowKit Go.Deep FerryCrc
set_option linter.unusedVariables false

theorem cellsPi : Tryd.prog.cellsOf 3 = 1 := by kernel_rfl
theorem take_one_get {cs : List Value} {k : Nat} {v : Value} (h : (cs.drop k).take 1 = [v]) : cs[k]? = some v := by
  have h1 : ((cs.drop k).take 1)[0]? = some v := by rw [h]; rfl
  rw [List.getElem?_take, if_pos (by decide), List.getElem?_drop, Nat.add_zero] at h1
  exact h1
theorem rowE : ∀ u, Tryd.prog.typeName? 3 u = some "*errors.errorString" → u = 164 := fun u h =>
  typeName_ptr_named (nm := "errors.errorString") (by kernel_rfl) (by kernel_rfl) (by decide) u h
theorem cellsES : Tryd.prog.cellsOf 166 = 1 := by kernel_rfl
theorem cellsS : Tryd.prog.cellsOf 9 = 1 := by kernel_rfl
theorem cellsBd : Tryd.prog.cellsOf 60 = 5 := by kernel_rfl

theorem int_at {W : World} {sp : Nat → Bool} {held : Bool} {n : Nat} {cs : List Value} {k : Nat} {x : Int} {y : DataW Unit × List MemPlace}
    (g : DataW.trod (fun _ => ()) Tryd.prog W 0 sp held n 3 ((cs.drop k).take (Tryd.prog.cellsOf 3)) = some y) (hy : y.1 = .lit (.int .i64 x)) : cs[k]? = some (.int .i64 x) := by
  rw [cellsPi] at g
  obtain ⟨z, e, hz, _⟩ := DataW.trod_int Tryd.underlying3 g
  subst hz
  simp only [DataW.lit.injEq, Lit.int.injEq, true_and] at hy
  subst hy
  exact take_one_get e
theorem bounds_at {W : World} {sp : Nat → Bool} {held : Bool} {fuel : Nat} {cs : List Value} {x0 x1 x2 x3 x4 : Int} {p : List MemPlace}
    (h : DataW.trod (fun _ => ()) Tryd.prog W 0 sp held fuel 60 cs = some (.agg [.lit (.int .i64 x0), .lit (.int .i64 x1), .lit (.int .i64 x2), .lit (.int .i64 x3), .lit (.int .i64 x4)], p)) :
    cs[0]? = some (.int .i64 x0) ∧ cs[1]? = some (.int .i64 x1) ∧ cs[2]? = some (.int .i64 x2) ∧ cs[3]? = some (.int .i64 x3) ∧ cs[4]? = some (.int .i64 x4) := by
  obtain ⟨xs, n, _, hx, _, hxl, hff⟩ := DataW.trod_struct Tryd.underlying60 h
  match xs, hxl with
  | [y0, y1, y2, y3, y4], _ =>
    simp only [Prod.mk.injEq, DataW.agg.injEq, List.map_cons, List.map_nil, List.cons.injEq, and_true] at hx
    obtain ⟨⟨e0, e1, e2, e3, e4⟩, _⟩ := hx
    exact ⟨int_at (hff 0 _ rfl) e0.symm, int_at (hff 1 _ rfl) e1.symm, int_at (hff 2 _ rfl) e2.symm, int_at (hff 3 _ rfl) e3.symm, int_at (hff 4 _ rfl) e4.symm⟩
def rowD (f : Nat) : DataW Unit := .agg [.lit (.int .i64 (hiA f)), .lit (.int .i64 (hiB f)), .lit (.int .i64 (hiC f)), .lit (.int .i64 (loI f)), .lit (.int .i64 (hiI f))]
set_option maxRecDepth 100000 in
theorem table_at {W : World} {sp : Nat → Bool} {held : Bool} {fuel : Nat} {cs : List Value} {p : List MemPlace}
    (h : DataW.trod (fun _ => ()) Tryd.prog W 0 sp held fuel 61 cs = some (.agg [rowD 0, rowD 1, rowD 2, rowD 3, rowD 4, rowD 5, rowD 6, rowD 7], p)) (f : Nat) (hf : f < 8) :
    cs[f * 5]? = some (.int .i64 (hiA f)) ∧ cs[f * 5 + 1]? = some (.int .i64 (hiB f)) ∧ cs[f * 5 + 2]? = some (.int .i64 (hiC f)) ∧ cs[f * 5 + 3]? = some (.int .i64 (loI f)) ∧ cs[f * 5 + 4]? = some (.int .i64 (hiI f)) := by
  obtain ⟨xs, m, _, hx, _, hxl, hff⟩ := DataW.trod_array Tryd.underlying61 h
  simp only [Prod.mk.injEq, DataW.agg.injEq] at hx
  have hg := hff f hf
  rw [cellsBd] at hg
  obtain ⟨y, hy⟩ : ∃ y, xs[f]? = some y := ⟨_, List.getElem?_eq_getElem (by omega)⟩
  have hy1 : y.1 = rowD f := by
    have h1 : (xs.map (·.1))[f]? = some y.1 := by rw [List.getElem?_map, hy]; rfl
    rw [← hx.1] at h1
    rcases (by omega : f = 0 ∨ f = 1 ∨ f = 2 ∨ f = 3 ∨ f = 4 ∨ f = 5 ∨ f = 6 ∨ f = 7) with rfl | rfl | rfl | rfl | rfl | rfl | rfl | rfl
    all_goals exact (Option.some.inj h1).symm
  rw [hy] at hg
  obtain ⟨y1, y2⟩ := y
  simp only at hy1
  subst hy1
  have hb := bounds_at hg
  have e (j : Nat) (hj : j < 5) : ((cs.drop (f * 5)).take 5)[j]? = cs[f * 5 + j]? := by rw [List.getElem?_take, if_pos hj, List.getElem?_drop]
  rw [e 0 (by decide), e 1 (by decide), e 2 (by decide), e 3 (by decide), e 4 (by decide)] at hb
  exact hb

def strD (s : ByteArray) : DataW Unit := .lit (.string s.data.toList)
theorem strs_at {n : Nat} {t : TypeId} (ht : Tryd.prog.underlying t = some (.array n 9)) {W : World} {sp : Nat → Bool} {held : Bool} {fuel : Nat} {cs : List Value} {p : List MemPlace} {l : List ByteArray}
    (h : DataW.trod (fun _ => ()) Tryd.prog W 0 sp held fuel t cs = some (.agg (l.map strD), p)) (i : Nat) (hi : i < n) : cs[i]? = some (.string (l.getD i ⟨#[]⟩)) := by
  obtain ⟨xs, m, _, hx, _, hxl, hff⟩ := DataW.trod_array ht h
  simp only [Prod.mk.injEq, DataW.agg.injEq] at hx
  have hg := hff i hi
  rw [cellsS, Nat.mul_one] at hg
  obtain ⟨y, hy⟩ : ∃ y, xs[i]? = some y := ⟨_, List.getElem?_eq_getElem (by omega)⟩
  rw [hy] at hg
  obtain ⟨s, e, hz, _⟩ := DataW.trod_string Tryd.underlying9 hg
  subst hz
  have h1 : (xs.map (·.1))[i]? = some (DataW.lit (H := Unit) (Lit.string s.data.toList)) := by rw [List.getElem?_map, hy]; rfl
  rw [← hx.1, List.getElem?_map] at h1
  obtain ⟨z, hz, hz2⟩ := Option.map_eq_some_iff.1 h1
  unfold strD at hz2
  simp only [DataW.lit.injEq, Lit.string.injEq] at hz2
  have hs : z = s := ByteArray.ext (Array.ext' hz2)
  rw [List.getD_eq_getElem?_getD, hz]
  show _ = some (Value.string z)
  rw [hs]
  exact take_one_get e
set_option maxRecDepth 100000 in
theorem ia_of_laid {W : World} (h : laidMetH Tryd.prog Rows.isaNamesRow.laid W) : Isv W ∧ Iat W := by
  have h' : laidMet Tryd.prog Rows.isaNamesRow.laid W := h
  obtain ⟨ps, hv, hnd, hrows⟩ := h'
  obtain ⟨g1, t1, cs1, f1, p1, q1, hg1, ht1, hv1, hd1, hq1, rfl⟩ := hv
  obtain ⟨g2, t2, cs2, f2, p2, q2, hg2, ht2, hv2, hd2, hq2, rfl⟩ := hq1
  obtain ⟨g3, t3, cs3, f3, p3, q3, hg3, ht3, hv3, hd3, hq3, rfl⟩ := hq2
  obtain ⟨g4, t4, cs4, f4, p4, q4, hg4, ht4, hv4, hd4, hq4, rfl⟩ := hq3
  obtain ⟨g5, t5, cs5, f5, p5, q5, hg5, ht5, hv5, hd5, hq5, rfl⟩ := hq4
  obtain ⟨g6, t6, cs6, f6, p6, q6, hg6, ht6, hv6, hd6, hq6, rfl⟩ := hq5
  obtain ⟨g7, t7, cs7, f7, p7, q7, hg7, ht7, hv7, hd7, hq7, rfl⟩ := hq6
  obtain ⟨g8, t8, cs8, f8, p8, q8, hg8, ht8, hv8, hd8, hq8, rfl⟩ := hq7
  obtain ⟨g9, t9, cs9, f9, p9, q9, hg9, ht9, hv9, hd9, hq9, rfl⟩ := hq8
  obtain ⟨g10, t10, cs10, f10, p10, q10, hg10, ht10, hv10, hd10, hq10, rfl⟩ := hq9
  obtain rfl : 3 = g1 := Option.some.inj ((show Tryd.prog.globalNamed "ferry/api.ErrRange" = some 3 by kernel_rfl).symm.trans hg1)
  obtain rfl : 33 = t1 := Option.some.inj ((show (Tryd.prog.globals[3]?).map (·.type) = some 33 by kernel_rfl).symm.trans ht1)
  obtain rfl : 1 = g2 := Option.some.inj ((show Tryd.prog.globalNamed "ferry/api.ErrKind" = some 1 by kernel_rfl).symm.trans hg2)
  obtain rfl : 33 = t2 := Option.some.inj ((show (Tryd.prog.globals[1]?).map (·.type) = some 33 by kernel_rfl).symm.trans ht2)
  obtain rfl : 0 = g7 := Option.some.inj ((show Tryd.prog.globalNamed "ferry/isa.names" = some 0 by kernel_rfl).symm.trans hg7)
  obtain rfl : 57 = t7 := Option.some.inj ((show (Tryd.prog.globals[0]?).map (·.type) = some 57 by kernel_rfl).symm.trans ht7)
  obtain rfl : 2 = g8 := Option.some.inj ((show Tryd.prog.globalNamed "ferry/isa.formBounds" = some 2 by kernel_rfl).symm.trans hg8)
  obtain rfl : 61 = t8 := Option.some.inj ((show (Tryd.prog.globals[2]?).map (·.type) = some 61 by kernel_rfl).symm.trans ht8)
  obtain rfl : 4 = g9 := Option.some.inj ((show Tryd.prog.globalNamed "ferry/isa.formOperands" = some 4 by kernel_rfl).symm.trans hg9)
  obtain rfl : 67 = t9 := Option.some.inj ((show (Tryd.prog.globals[4]?).map (·.type) = some 67 by kernel_rfl).symm.trans ht9)
  obtain rfl : 7 = g10 := Option.some.inj ((show Tryd.prog.globalNamed "ferry/isa.registers" = some 7 by kernel_rfl).symm.trans hg10)
  obtain rfl : 94 = t10 := Option.some.inj ((show (Tryd.prog.globals[7]?).map (·.type) = some 94 by kernel_rfl).symm.trans ht10)
  obtain ⟨l1⟩ := cs1
  have ok1 : ∀ u v, l1 = [.iface u v] → Value.okWide Tryd.prog W .any 0 u v := fun u v e => by
    subst e
    exact (hrows 3 0 (by simp [MemPlace.row])).2 u v (by simpa using World.var?_cell hg1 hv1 0)
  obtain ⟨a1, s1, rfl, _, _, _, _⟩ := errorString_of_trod Tryd.underlying33 rowE Tryd.underlying164 Tryd.underlying166 rfl rfl Tryd.underlying9 cellsES cellsS hd1 ok1
  obtain ⟨l2⟩ := cs2
  have ok2 : ∀ u v, l2 = [.iface u v] → Value.okWide Tryd.prog W .any 0 u v := fun u v e => by
    subst e
    exact (hrows 1 0 (by simp [MemPlace.row])).2 u v (by simpa using World.var?_cell hg2 hv2 0)
  obtain ⟨a2, s2, rfl, _, _, _, _⟩ := errorString_of_trod Tryd.underlying33 rowE Tryd.underlying164 Tryd.underlying166 rfl rfl Tryd.underlying9 cellsES cellsS hd2 ok2
  refine ⟨⟨⟨a2, by simpa using World.var?_cell hg2 hv2 0⟩, ⟨a1, by simpa using World.var?_cell hg1 hv1 0⟩, fun f hf => ?_⟩, ⟨fun i hi => ?_, fun i hi => ?_, fun i hi => ?_⟩⟩
  · have ht := table_at (p := p8) hd8 f hf
    have c (i : Nat) : W.cell? ⟨2, i, none⟩ = cs8.toList[i]? := by rw [World.var?_cell hg8 hv8 i]; simp
    rw [← c, ← c, ← c, ← c, ← c] at ht
    exact ht
  · have ht := strs_at (l := nameL) Tryd.underlying57 (p := p7) hd7 i hi
    have c (i : Nat) : W.cell? ⟨0, i, none⟩ = cs7.toList[i]? := by rw [World.var?_cell hg7 hv7 i]; simp
    rw [c]
    exact ht
  · have ht := strs_at (l := regL) Tryd.underlying94 (p := p10) hd10 i hi
    have c (i : Nat) : W.cell? ⟨7, i, none⟩ = cs10.toList[i]? := by rw [World.var?_cell hg10 hv10 i]; simp
    rw [c]
    exact ht
  · have ht := strs_at (l := opsL) Tryd.underlying67 (p := p9) hd9 i hi
    have c (i : Nat) : W.cell? ⟨4, i, none⟩ = cs9.toList[i]? := by rw [World.var?_cell hg9 hv9 i]; simp
    rw [c]
    exact ht
end Go.Proofs.YthcmeboepedelaaDoor
