/-
  What every tied card's last text wants of the program: two closed facts.
  What the reading of a list of pages that came in gives: the pages, in memory.
  What the listed package variables give the machine: three errors, and the table of the forms' ranges.
  What the reading of a process and of a cut that came in gives.
  What the reading of the law's argument gives (plans, a process, two numbers), and what the seven listed variables give.
-/
import Derived.Test.YteopkgjkbhcicaaDoorRows
import Derived.Test.YteopkgjkbhcicaaDoorTie
import Derived.Test.YteopkgjkbhcicaaDoorCards
import Derived.ProofKit
import Derived.OpenShut
import Derived.ShutString
import Derived.ChangeOld
import Derived.Below
import Derived.SizedLaws
import Derived.LaidMore
import Derived.LaidLaws
import Derived.LaidHandle
import Derived.Stop.Joined
import Derived.ChangeVars
import Derived.JoinedOf
import Derived.SevenTiedAt
import Derived.Test.YteopkgjkbhcicaaDoorPgBase
import Derived.Deep.Slices
import Derived.Test.YteopkgjkbhcicaaDoorCmStep
import Derived.Test.YteopkgjkbhcicaaDoorFsMake
namespace Go.Proofs.YteopkgjkbhcicaaDoor
open Go.ChangeShapes Go.WideShapes Go.ChangeAt Go.RowKit

theorem own : ownKnob Tryd.prog.godebug = none := by kernel_rfl
theorem laidOut : laidOutB Tryd.prog = true := by kernel_rfl
end Go.Proofs.YteopkgjkbhcicaaDoor
namespace Go.Proofs.YteopkgjkbhcicaaDoor
open Go.ChangeShapes Go.WideShapes Go.ChangeAt Go.RowKit Go.Deep FerryCrc
set_option linter.unusedVariables false

theorem cellsPg : Tryd.prog.cellsOf 47 = 66 := by kernel_rfl
theorem cellsPi : Tryd.prog.cellsOf 3 = 1 := by kernel_rfl
theorem cellsPb : Tryd.prog.cellsOf 4 = 1 := by kernel_rfl
theorem cellsPc : Tryd.prog.cellsOf 5 = 1 := by kernel_rfl
theorem cellsPd : Tryd.prog.cellsOf 45 = 64 := by kernel_rfl
theorem bytesPg : Tryd.prog.bytesOf 47 = 80 := by kernel_rfl

theorem take_one_get {cs : List Value} {k : Nat} {v : Value} (h : (cs.drop k).take 1 = [v]) : cs[k]? = some v := by
  have := congrArg (fun l : List Value => l[0]?) h
  simpa [List.getElem?_take, List.getElem?_drop] using this

set_option maxRecDepth 100000 in
theorem page_open {H : Type} {enc : TypeId × Value → H} {W : World} {fuel : Nat} {cs : List Value} {x : DataW H × List MemPlace}
    (h2 : DataW.trod enc Tryd.prog W 0 (fun _ => true) true fuel 47 cs = some x) (hlen : cs.length = 66) : ∃ p : Pg, p.Ok ∧ cs = p.cells := by
  obtain ⟨xs, n, _, _, _, hxl, hff⟩ := DataW.trod_struct Tryd.underlying47 h2
  match xs, hxl with
  | [y0, y1, y2], _ =>
    have g0 : DataW.trod enc Tryd.prog W 0 (fun _ => true) true n 3 ((cs.drop 0).take (Tryd.prog.cellsOf 3)) = some y0 := hff 0 _ rfl
    have g1 : DataW.trod enc Tryd.prog W 0 (fun _ => true) true n 4 ((cs.drop 1).take (Tryd.prog.cellsOf 4)) = some y1 := hff 1 _ rfl
    have g2 : DataW.trod enc Tryd.prog W 0 (fun _ => true) true n 45 ((cs.drop 2).take (Tryd.prog.cellsOf 45)) = some y2 := hff 2 _ rfl
    rw [cellsPi] at g0
    rw [cellsPb] at g1
    rw [cellsPd] at g2
    obtain ⟨z0, e0, _, b0⟩ := DataW.trod_int Tryd.underlying3 g0
    obtain ⟨d, e1, _⟩ := DataW.trod_bool Tryd.underlying4 g1
    obtain ⟨zs, m, _, _, _, hzl, hz⟩ := DataW.trod_array Tryd.underlying45 g2
    have c0 := take_one_get e0
    have c1 := take_one_get e1
    obtain ⟨f, hf⟩ := choose_lt (α := Nat) (n := 64) (p := fun i c => c < 256 ∧ cs[2 + i]? = some (bv c)) (fun i hi => by
      have hzi := hz i hi
      rw [cellsPc, Nat.mul_one, List.getElem?_eq_getElem (by omega)] at hzi
      obtain ⟨z, e, _, b⟩ := DataW.trod_int Tryd.underlying5 hzi
      have e3 := take_one_get e
      have u := bounds_u8 b
      obtain ⟨c, rfl⟩ := Int.eq_ofNat_of_zero_le u.1
      refine ⟨c, by omega, ?_⟩
      rw [List.getElem?_take, if_pos hi, List.getElem?_drop] at e3
      exact e3)
    have i0 := bounds_i64 b0
    refine ⟨⟨z0, d, (List.range 64).map f⟩, ⟨i0.1, i0.2, by simp, fun c hc => ?_⟩, ?_⟩
    · obtain ⟨i, hi, rfl⟩ := List.mem_map.1 hc
      exact (hf i (List.mem_range.1 hi)).1
    · refine List.ext_getElem? fun j => ?_
      match j with
      | 0 => exact c0
      | 1 => exact c1
      | j + 2 =>
        show cs[j + 2]? = (((List.range 64).map f).map bv)[j]?
        by_cases hj : j < 64
        · rw [Nat.add_comm, (hf j hj).2]
          simp [hj]
        · rw [List.getElem?_eq_none (by omega), List.getElem?_eq_none (by simp; omega)]

set_option maxRecDepth 100000 in
theorem pages_open {H : Type} {enc : TypeId × Value → H} {W : World} {fuel : Nat} {a : Option Addr} {len cap : Nat} {x : DataW H × List MemPlace}
    (hf : DataW.trod enc Tryd.prog W 0 (fun _ => true) true fuel 22 [.slice a len cap] = some x) (hw : ∀ m ∈ x.1.weights Tryd.prog 22, m ≤ reachBytes) : ∃ l, Pgs W a len cap l := by
  rcases open_slice Tryd.underlying22 hf with ⟨hcs, _⟩ | ⟨ad, l, c, m, nf, D, Pl, hcs, _, hl, hm, hmm, hx0, hx⟩
  · simp only [List.cons.injEq, Value.slice.injEq, and_true] at hcs
    obtain ⟨rfl, rfl, rfl⟩ := hcs
    exact ⟨[], ⟨rfl, by decide, by decide, fun p hp => by simp at hp, fun _ => ⟨rfl, rfl⟩, fun k p hk => by simp at hk⟩⟩
  · simp only [List.cons.injEq, Value.slice.injEq, and_true] at hcs
    obtain ⟨rfl, rfl, rfl⟩ := hcs
    simp only [if_true] at hmm
    subst hmm
    have hreach : m * 80 ≤ reachBytes := by
      refine hw _ ?_
      rw [hx0]
      simp [DataW.weights, Tryd.underlying22, bytesPg]
      left
      rw [show len + (m - len) = m by omega]
    have hsp0 : 0 < len → ad.spot = none := fun h0 => by
      obtain ⟨cs, h1, _⟩ := hx 0 (by omega)
      rw [cellsPg] at h1
      obtain ⟨_, hlen, hcell⟩ := World.cells?_some h1
      have c0 := hcell 0 (by omega)
      rw [add_add, List.getElem?_eq_getElem (by omega)] at c0
      have := World.cell?_spot c0
      simpa [Addr.add] using this
    have each : ∀ k, k < len → ∃ p : Pg, p.Ok ∧ ∃ b off, some ad = some (⟨b, off, none⟩ : Addr) ∧ W.rangeAt b (off + k * 66) p.cells := by
      intro k hk
      obtain ⟨cs, h1, h2⟩ := hx k (by omega)
      rw [cellsPg] at h1
      obtain ⟨_, hlen, hcell⟩ := World.cells?_some h1
      obtain ⟨p, hp, rfl⟩ := page_open h2 hlen
      have hsp : ad.spot = none := hsp0 (by omega)
      obtain ⟨b, off, spot⟩ := ad
      simp only at hsp
      subst hsp
      refine ⟨p, hp, b, off, rfl, fun j v hv => ?_⟩
      have hj : j < 66 := by
        have := (List.getElem?_eq_some_iff.1 hv).1
        omega
      have c := hcell j hj
      rw [add_add, add_plain, hv] at c
      rw [Nat.add_assoc]
      exact c
    haveI : Inhabited Pg := ⟨⟨0, false, []⟩⟩
    obtain ⟨C, hC⟩ := choose_lt each
    refine ⟨(List.range len).map C, ⟨by simp, ?_, hl, fun p hp => ?_, fun e => by simp at e, fun k p hk => ?_⟩⟩
    · unfold reachBytes at hreach
      omega
    · obtain ⟨i, hi, rfl⟩ := List.mem_map.1 hp
      exact (hC i (List.mem_range.1 hi)).1
    · have hkl : k < len := by
        have := (List.getElem?_eq_some_iff.1 hk).1
        simpa using this
      simp [hkl] at hk
      subst hk
      exact (hC k hkl).2
end Go.Proofs.YteopkgjkbhcicaaDoor
namespace Go.Proofs.YteopkgjkbhcicaaDoor
open Go.ChangeShapes Go.WideShapes Go.ChangeAt Go.RowKit Go.Deep FerryCrc
set_option linter.unusedVariables false

theorem rowE : ∀ u, Tryd.prog.typeName? 3 u = some "*errors.errorString" → u = 108 := fun u h =>
  typeName_ptr_named (nm := "errors.errorString") (by kernel_rfl) (by kernel_rfl) (by decide) u h
theorem cellsES : Tryd.prog.cellsOf 125 = 1 := by kernel_rfl
theorem cellsS : Tryd.prog.cellsOf 9 = 1 := by kernel_rfl
theorem cellsBd : Tryd.prog.cellsOf 103 = 5 := by kernel_rfl

theorem int_at {W : World} {sp : Nat → Bool} {held : Bool} {n : Nat} {cs : List Value} {k : Nat} {x : Int} {y : DataW Unit × List MemPlace}
    (g : DataW.trod (fun _ => ()) Tryd.prog W 0 sp held n 3 ((cs.drop k).take (Tryd.prog.cellsOf 3)) = some y) (hy : y.1 = .lit (.int .i64 x)) : cs[k]? = some (.int .i64 x) := by
  rw [cellsPi] at g
  obtain ⟨z, e, hz, _⟩ := DataW.trod_int Tryd.underlying3 g
  subst hz
  simp only [DataW.lit.injEq, Lit.int.injEq, true_and] at hy
  subst hy
  exact take_one_get e
theorem bounds_at {W : World} {sp : Nat → Bool} {held : Bool} {fuel : Nat} {cs : List Value} {x0 x1 x2 x3 x4 : Int} {p : List MemPlace}
    (h : DataW.trod (fun _ => ()) Tryd.prog W 0 sp held fuel 103 cs = some (.agg [.lit (.int .i64 x0), .lit (.int .i64 x1), .lit (.int .i64 x2), .lit (.int .i64 x3), .lit (.int .i64 x4)], p)) :
    cs[0]? = some (.int .i64 x0) ∧ cs[1]? = some (.int .i64 x1) ∧ cs[2]? = some (.int .i64 x2) ∧ cs[3]? = some (.int .i64 x3) ∧ cs[4]? = some (.int .i64 x4) := by
  obtain ⟨xs, n, _, hx, _, hxl, hff⟩ := DataW.trod_struct Tryd.underlying103 h
  match xs, hxl with
  | [y0, y1, y2, y3, y4], _ =>
    simp only [Prod.mk.injEq, DataW.agg.injEq, List.map_cons, List.map_nil, List.cons.injEq, and_true] at hx
    obtain ⟨⟨e0, e1, e2, e3, e4⟩, _⟩ := hx
    exact ⟨int_at (hff 0 _ rfl) e0.symm, int_at (hff 1 _ rfl) e1.symm, int_at (hff 2 _ rfl) e2.symm, int_at (hff 3 _ rfl) e3.symm, int_at (hff 4 _ rfl) e4.symm⟩
def rowD (f : Nat) : DataW Unit := .agg [.lit (.int .i64 (hiA f)), .lit (.int .i64 (hiB f)), .lit (.int .i64 (hiC f)), .lit (.int .i64 (loI f)), .lit (.int .i64 (hiI f))]
set_option maxRecDepth 100000 in
theorem table_at {W : World} {sp : Nat → Bool} {held : Bool} {fuel : Nat} {cs : List Value} {p : List MemPlace}
    (h : DataW.trod (fun _ => ()) Tryd.prog W 0 sp held fuel 104 cs = some (.agg [rowD 0, rowD 1, rowD 2, rowD 3, rowD 4, rowD 5, rowD 6, rowD 7], p)) (f : Nat) (hf : f < 8) :
    cs[f * 5]? = some (.int .i64 (hiA f)) ∧ cs[f * 5 + 1]? = some (.int .i64 (hiB f)) ∧ cs[f * 5 + 2]? = some (.int .i64 (hiC f)) ∧ cs[f * 5 + 3]? = some (.int .i64 (loI f)) ∧ cs[f * 5 + 4]? = some (.int .i64 (hiI f)) := by
  obtain ⟨xs, m, _, hx, _, hxl, hff⟩ := DataW.trod_array Tryd.underlying104 h
  simp only [Prod.mk.injEq, DataW.agg.injEq] at hx
  have hg := hff f hf
  rw [cellsBd] at hg
  obtain ⟨y, hy⟩ : ∃ y, xs[f]? = some y := ⟨_, List.getElem?_eq_getElem (by omega)⟩
  have hy1 : y.1 = rowD f := by
    have h1 : (xs.map (·.1))[f]? = some y.1 := by rw [List.getElem?_map, hy]; rfl
    rw [← hx.1] at h1
    rcases (by omega : f = 0 ∨ f = 1 ∨ f = 2 ∨ f = 3 ∨ f = 4 ∨ f = 5 ∨ f = 6 ∨ f = 7) with rfl | rfl | rfl | rfl | rfl | rfl | rfl | rfl
    all_goals exact (Option.some.inj h1).symm
  rw [hy] at hg
  obtain ⟨y1, y2⟩ := y
  simp only at hy1
  subst hy1
  have hb := bounds_at hg
  have e (j : Nat) (hj : j < 5) : ((cs.drop (f * 5)).take 5)[j]? = cs[f * 5 + j]? := by rw [List.getElem?_take, if_pos hj, List.getElem?_drop]
  rw [e 0 (by decide), e 1 (by decide), e 2 (by decide), e 3 (by decide), e 4 (by decide)] at hb
  exact hb

set_option maxRecDepth 100000 in
theorem cov_of_laid {W : World} (h : laidMetH Tryd.prog Rows.coreSplitsRow.laid W) : ∃ A, Cov W A := by
  have h' : laidMet Tryd.prog Rows.coreSplitsRow.laid W := h
  obtain ⟨ps, hv, hnd, hrows⟩ := h'
  obtain ⟨g1, t1, cs1, f1, p1, q1, hg1, ht1, hv1, hd1, hq1, rfl⟩ := hv
  obtain ⟨g2, t2, cs2, f2, p2, q2, hg2, ht2, hv2, hd2, hq2, rfl⟩ := hq1
  obtain ⟨g3, t3, cs3, f3, p3, q3, hg3, ht3, hv3, hd3, hq3, rfl⟩ := hq2
  obtain ⟨g4, t4, cs4, f4, p4, q4, hg4, ht4, hv4, hd4, hq4, rfl⟩ := hq3
  obtain ⟨g5, t5, cs5, f5, p5, q5, hg5, ht5, hv5, hd5, hq5, rfl⟩ := hq4
  obtain rfl : 2 = g1 := Option.some.inj ((show Tryd.prog.globalNamed "ferry/api.ErrRange" = some 2 by kernel_rfl).symm.trans hg1)
  obtain rfl : 39 = t1 := Option.some.inj ((show (Tryd.prog.globals[2]?).map (·.type) = some 39 by kernel_rfl).symm.trans ht1)
  obtain rfl : 4 = g2 := Option.some.inj ((show Tryd.prog.globalNamed "ferry/api.ErrKind" = some 4 by kernel_rfl).symm.trans hg2)
  obtain rfl : 39 = t2 := Option.some.inj ((show (Tryd.prog.globals[4]?).map (·.type) = some 39 by kernel_rfl).symm.trans ht2)
  obtain rfl : 6 = g4 := Option.some.inj ((show Tryd.prog.globalNamed "ferry/api.ErrDivide" = some 6 by kernel_rfl).symm.trans hg4)
  obtain rfl : 39 = t4 := Option.some.inj ((show (Tryd.prog.globals[6]?).map (·.type) = some 39 by kernel_rfl).symm.trans ht4)
  obtain rfl : 5 = g5 := Option.some.inj ((show Tryd.prog.globalNamed "ferry/isa.formBounds" = some 5 by kernel_rfl).symm.trans hg5)
  obtain rfl : 104 = t5 := Option.some.inj ((show (Tryd.prog.globals[5]?).map (·.type) = some 104 by kernel_rfl).symm.trans ht5)
  obtain ⟨l1⟩ := cs1
  obtain ⟨l2⟩ := cs2
  obtain ⟨l4⟩ := cs4
  have ok1 : ∀ u v, l1 = [.iface u v] → Value.okWide Tryd.prog W .any 0 u v := fun u v e => by
    subst e
    exact (hrows 2 0 (by simp [MemPlace.row])).2 u v (by simpa using World.var?_cell hg1 hv1 0)
  have ok2 : ∀ u v, l2 = [.iface u v] → Value.okWide Tryd.prog W .any 0 u v := fun u v e => by
    subst e
    exact (hrows 4 0 (by simp [MemPlace.row])).2 u v (by simpa using World.var?_cell hg2 hv2 0)
  have ok4 : ∀ u v, l4 = [.iface u v] → Value.okWide Tryd.prog W .any 0 u v := fun u v e => by
    subst e
    exact (hrows 6 0 (by simp [MemPlace.row])).2 u v (by simpa using World.var?_cell hg4 hv4 0)
  obtain ⟨a1, s1, rfl, _, _, _, _⟩ := errorString_of_trod Tryd.underlying39 rowE Tryd.underlying108 Tryd.underlying125 rfl rfl Tryd.underlying9 cellsES cellsS hd1 ok1
  obtain ⟨a2, s2, rfl, _, _, _, _⟩ := errorString_of_trod Tryd.underlying39 rowE Tryd.underlying108 Tryd.underlying125 rfl rfl Tryd.underlying9 cellsES cellsS hd2 ok2
  obtain ⟨a4, s4, rfl, _, _, _, _⟩ := errorString_of_trod Tryd.underlying39 rowE Tryd.underlying108 Tryd.underlying125 rfl rfl Tryd.underlying9 cellsES cellsS hd4 ok4
  refine ⟨a4, ⟨⟨a2, by simpa using World.var?_cell hg2 hv2 0⟩, ⟨a1, by simpa using World.var?_cell hg1 hv1 0⟩, fun f hf => ?_⟩, by unfold Dvz; simpa using World.var?_cell hg4 hv4 0⟩
  have ht := table_at (p := p5) hd5 f hf
  have c (i : Nat) : W.cell? ⟨5, i, none⟩ = cs5.toList[i]? := by rw [World.var?_cell hg5 hv5 i]; simp
  rw [← c, ← c, ← c, ← c, ← c] at ht
  exact ht
end Go.Proofs.YteopkgjkbhcicaaDoor
namespace Go.Proofs.YteopkgjkbhcicaaDoor
open Go.ChangeShapes Go.WideShapes Go.ChangeAt Go.RowKit Go.Deep FerryCrc
set_option linter.unusedVariables false

theorem cellsPr : Tryd.prog.cellsOf 26 = 21 := by kernel_rfl
theorem cellsCt : Tryd.prog.cellsOf 28 = 2 := by kernel_rfl
theorem cellsPu : Tryd.prog.cellsOf 23 = 1 := by kernel_rfl
theorem cellsPu16 : Tryd.prog.cellsOf 24 = 16 := by kernel_rfl

set_option maxRecDepth 100000 in
theorem proc_open {H : Type} {enc : TypeId × Value → H} {W : World} {fuel : Nat} {cs : List Value} {x : DataW H × List MemPlace}
    (h2 : DataW.trod enc Tryd.prog W 0 (fun _ => true) true fuel 26 cs = some x) {l : List Pg} (ol : Oks l) (hl : l.length ≤ 1759218604391) : ∃ m : Mc, m.pages = l ∧ m.Ok ∧ cs = m.proc := by
  obtain ⟨xs, n, _, _, hcl, hxl, hff⟩ := DataW.trod_struct Tryd.underlying26 h2
  rw [cellsPr] at hcl
  match xs, hxl with
  | [y0, y1, y2, y3, y4, y5], _ =>
    have g0 : DataW.trod enc Tryd.prog W 0 (fun _ => true) true n 24 ((cs.drop 0).take (Tryd.prog.cellsOf 24)) = some y0 := hff 0 _ rfl
    have g1 : DataW.trod enc Tryd.prog W 0 (fun _ => true) true n 23 ((cs.drop 16).take (Tryd.prog.cellsOf 23)) = some y1 := hff 1 _ rfl
    have g2 : DataW.trod enc Tryd.prog W 0 (fun _ => true) true n 3 ((cs.drop 17).take (Tryd.prog.cellsOf 3)) = some y2 := hff 2 _ rfl
    have g3 : DataW.trod enc Tryd.prog W 0 (fun _ => true) true n 3 ((cs.drop 18).take (Tryd.prog.cellsOf 3)) = some y3 := hff 3 _ rfl
    have g4 : DataW.trod enc Tryd.prog W 0 (fun _ => true) true n 3 ((cs.drop 19).take (Tryd.prog.cellsOf 3)) = some y4 := hff 4 _ rfl
    have g5 : DataW.trod enc Tryd.prog W 0 (fun _ => true) true n 3 ((cs.drop 20).take (Tryd.prog.cellsOf 3)) = some y5 := hff 5 _ rfl
    rw [cellsPu16] at g0
    rw [cellsPu] at g1
    rw [cellsPi] at g2 g3 g4 g5
    obtain ⟨z1, e1, _, b1⟩ := DataW.trod_int Tryd.underlying23 g1
    obtain ⟨z2, e2, _, _⟩ := DataW.trod_int Tryd.underlying3 g2
    obtain ⟨z3, e3, _, _⟩ := DataW.trod_int Tryd.underlying3 g3
    obtain ⟨z4, e4, _, _⟩ := DataW.trod_int Tryd.underlying3 g4
    obtain ⟨z5, e5, _, _⟩ := DataW.trod_int Tryd.underlying3 g5
    obtain ⟨zs, m, _, _, _, hzl, hz⟩ := DataW.trod_array Tryd.underlying24 g0
    have c1 := take_one_get e1
    have c2 := take_one_get e2
    have c3 := take_one_get e3
    have c4 := take_one_get e4
    have c5 := take_one_get e5
    obtain ⟨f, hf⟩ := choose_lt (α := Nat) (n := 16) (p := fun i c => c < 4294967296 ∧ cs[i]? = some (u32v c)) (fun i hi => by
      have hzi := hz i hi
      rw [cellsPu, Nat.mul_one, List.getElem?_eq_getElem (by omega)] at hzi
      obtain ⟨z, e, _, b⟩ := DataW.trod_int Tryd.underlying23 hzi
      have e3 := take_one_get e
      have u := bounds_u32 b
      obtain ⟨c, rfl⟩ := Int.eq_ofNat_of_zero_le u.1
      refine ⟨c, by omega, ?_⟩
      rw [List.getElem?_take, if_pos hi, List.getElem?_drop, Nat.zero_add] at e3
      exact e3)
    have u1 := bounds_u32 b1
    obtain ⟨p1, rfl⟩ := Int.eq_ofNat_of_zero_le u1.1
    refine ⟨⟨l, (List.range 16).map f, p1, z2, z3, z4, z5⟩, rfl, ⟨ol, hl, by simp, fun r hr => ?_, by show p1 < _; omega⟩, ?_⟩
    · obtain ⟨i, hi, rfl⟩ := List.mem_map.1 hr
      exact (hf i (List.mem_range.1 hi)).1
    · refine List.ext_getElem? fun j => ?_
      show cs[j]? = (((List.range 16).map f).map u32v ++ [.int .u32 (p1 : Int), .int .i64 z2, .int .i64 z3, .int .i64 z4, .int .i64 z5])[j]?
      by_cases hj : j < 16
      · rw [(hf j hj).2, List.getElem?_append_left (by simpa using hj)]
        simp [hj]
      · rw [List.getElem?_append_right (by simp; omega)]
        simp only [List.length_map, List.length_range]
        rcases (by omega : j = 16 ∨ j = 17 ∨ j = 18 ∨ j = 19 ∨ j = 20 ∨ 21 ≤ j) with rfl | rfl | rfl | rfl | rfl | h
        · exact c1
        · exact c2
        · exact c3
        · exact c4
        · exact c5
        · rw [List.getElem?_eq_none (by omega), List.getElem?_eq_none (by simp; omega)]

set_option maxRecDepth 100000 in
theorem cut_open {H : Type} {enc : TypeId × Value → H} {W : World} {fuel : Nat} {cs : List Value} {x : DataW H × List MemPlace}
    (hf : DataW.trod enc Tryd.prog W 0 (fun _ => true) true fuel 28 cs = some x) : ∃ c1 c2 : Int, cs = [.int .i64 c1, .int .i64 c2] ∧ -9223372036854775808 ≤ c1 ∧ -9223372036854775808 ≤ c2 := by
  obtain ⟨xs, n, _, hx, hcl, hxl, hff⟩ := DataW.trod_struct Tryd.underlying28 hf
  rw [cellsCt] at hcl
  match xs, hxl, cs, hcl with
  | [y0, y1], _, [v0, v1], _ =>
    have g0 := hff 0 _ rfl
    have g1 := hff 1 _ rfl
    simp [cellsPi] at g0 g1
    obtain ⟨z0, e0, _, b0⟩ := DataW.trod_int Tryd.underlying3 g0
    obtain ⟨z1, e1, _, b1⟩ := DataW.trod_int Tryd.underlying3 g1
    simp only [List.cons.injEq, and_true] at e0 e1
    subst e0 e1
    exact ⟨z0, z1, rfl, (bounds_i64 b0).1, (bounds_i64 b1).1⟩
end Go.Proofs.YteopkgjkbhcicaaDoor
namespace Go.Proofs.YteopkgjkbhcicaaDoor
open Go.ChangeShapes Go.WideShapes Go.ChangeAt Go.RowKit Go.Deep FerryCrc
set_option linter.unusedVariables false

theorem cellsPn : Tryd.prog.cellsOf 55 = 2 := by kernel_rfl
theorem cellsPnI : Tryd.prog.cellsOf 3 = 1 := by kernel_rfl
theorem cellsPnS : Tryd.prog.cellsOf 9 = 1 := by kernel_rfl
theorem bytesPn : Tryd.prog.bytesOf 55 = 24 := by kernel_rfl
theorem cellsRn : Tryd.prog.cellsOf 50 = 24 := by kernel_rfl
theorem cellsPl : Tryd.prog.cellsOf 48 = 1 := by kernel_rfl
theorem cellsPr2 : Tryd.prog.cellsOf 26 = 21 := by kernel_rfl
set_option maxRecDepth 100000 in
theorem pn_open {H : Type} {enc : TypeId × Value → H} {W : World} {fuel : Nat} {cs : List Value} {x : DataW H × List MemPlace}
    (h2 : DataW.trod enc Tryd.prog W 0 (fun _ => true) true fuel 55 cs = some x) (hlen : cs.length = 2) : ∃ p : Pnv, p.Ok ∧ cs = p.cells := by
  obtain ⟨xs, n, _, _, _, hxl, hff⟩ := DataW.trod_struct Tryd.underlying55 h2
  match xs, hxl, cs, hlen with
  | [y0, y1], _, [v0, v1], _ =>
    have g0 : DataW.trod enc Tryd.prog W 0 (fun _ => true) true n 3 (([v0, v1].drop 0).take (Tryd.prog.cellsOf 3)) = some y0 := hff 0 _ rfl
    have g1 : DataW.trod enc Tryd.prog W 0 (fun _ => true) true n 9 (([v0, v1].drop 1).take (Tryd.prog.cellsOf 9)) = some y1 := hff 1 _ rfl
    rw [cellsPnI] at g0
    rw [cellsPnS] at g1
    obtain ⟨z0, e0, _, b0⟩ := DataW.trod_int Tryd.underlying3 g0
    obtain ⟨s, e1, _, b1⟩ := DataW.trod_string Tryd.underlying9 g1
    simp at e0 e1
    subst e0 e1
    have i0 := bounds_i64 b0
    exact ⟨⟨z0, bytesOf s⟩, ⟨i0.1, i0.2, bytesOf_lt s, by show (bytesOf s).length ≤ _; rw [bytesOf_len]; unfold maxLen at b1; exact Nat.le_trans b1 (by decide)⟩, by show _ = [Value.int .i64 z0, .string (str (bytesOf s))]; rw [str_bytesOf]⟩

set_option maxRecDepth 100000 in
theorem pns_open {H : Type} {enc : TypeId × Value → H} {W : World} {fuel : Nat} {a : Option Addr} {len cap : Nat} {x : DataW H × List MemPlace}
    (hf : DataW.trod enc Tryd.prog W 0 (fun _ => true) true fuel 48 [.slice a len cap] = some x) (hw : ∀ m ∈ x.1.weights Tryd.prog 48, m ≤ reachBytes) : ∃ l, Rcs Pnv.cells 2 W a len cap l ∧ (∀ p ∈ l, p.Ok) ∧ len ≤ 5864062014805 := by
  rcases open_slice Tryd.underlying48 hf with ⟨hcs, _⟩ | ⟨ad, l, c, m, nf, D, Pl, hcs, _, hl, hm, hmm, hx0, hx⟩
  · simp only [List.cons.injEq, Value.slice.injEq, and_true] at hcs
    obtain ⟨rfl, rfl, rfl⟩ := hcs
    exact ⟨[], ⟨rfl, rfl, by decide, fun _ => ⟨rfl, rfl⟩, fun j v hv => by simp at hv⟩, fun p hp => by simp at hp, by decide⟩
  · simp only [List.cons.injEq, Value.slice.injEq, and_true] at hcs
    obtain ⟨rfl, rfl, rfl⟩ := hcs
    simp only [if_true] at hmm
    subst hmm
    have hreach : m * 24 ≤ reachBytes := by
      refine hw _ ?_
      rw [hx0]
      simp [DataW.weights, Tryd.underlying48, bytesPn]
      left
      rw [show len + (m - len) = m by omega]
    have hsp0 : 0 < len → ad.spot = none := fun h0 => by
      obtain ⟨cs, h1, _⟩ := hx 0 (by omega)
      rw [cellsPn] at h1
      obtain ⟨_, hlen, hcell⟩ := World.cells?_some h1
      have c0 := hcell 0 (by omega)
      rw [add_add, List.getElem?_eq_getElem (by omega)] at c0
      have := World.cell?_spot c0
      simpa [Addr.add] using this
    have each : ∀ k, k < len → ∃ p : Pnv, ∃ b off, some ad = some (⟨b, off, none⟩ : Addr) ∧ p.Ok ∧ W.rangeAt b (off + k * 2) p.cells := by
      intro k hk
      obtain ⟨cs, h1, h2⟩ := hx k (by omega)
      rw [cellsPn] at h1
      obtain ⟨_, hlen, hcell⟩ := World.cells?_some h1
      obtain ⟨p, hp, rfl⟩ := pn_open h2 hlen
      have hsp : ad.spot = none := hsp0 (by omega)
      obtain ⟨b, off, spot⟩ := ad
      simp only at hsp
      subst hsp
      refine ⟨p, b, off, rfl, hp, fun j v hv => ?_⟩
      have hj : j < 2 := by
        have := (List.getElem?_eq_some_iff.1 hv).1
        omega
      have c := hcell j hj
      rw [add_add, add_plain, hv] at c
      rw [Nat.add_assoc]
      exact c
    haveI : Inhabited Pnv := ⟨⟨0, []⟩⟩
    obtain ⟨C, hC⟩ := choose_lt each
    refine ⟨(List.range len).map C, ⟨by simp, by rw [fl_len pnv2]; simp, hl, fun e => by simp at e, fun j v hv => ?_⟩, fun p hp => ?_, by unfold reachBytes at hreach; omega⟩
    · have hj := (List.getElem?_eq_some_iff.1 hv).1
      rw [fl_len pnv2] at hj
      simp only [List.length_map, List.length_range] at hj
      have hk : j / 2 < len := by omega
      have h1 := fl_get pnv2 (l := (List.range len).map C) (k := j / 2) (x := C (j / 2)) (j % 2) (by simp [hk]) (by omega)
      rw [show j / 2 * 2 + j % 2 = j by omega, hv] at h1
      obtain ⟨b, off, e, _, hr⟩ := hC (j / 2) hk
      refine ⟨b, off, e, ?_⟩
      have := hr (j % 2) v h1.symm
      rw [show off + j / 2 * 2 + j % 2 = off + j by omega] at this
      exact this
    · obtain ⟨i, hi, rfl⟩ := List.mem_map.1 hp
      obtain ⟨_, _, _, h, _⟩ := hC i (List.mem_range.1 hi)
      exact h
set_option maxRecDepth 100000 in
theorem frs_of_laid {W : World} (h : laidMetH Tryd.prog Rows.ferryRunsSplitRow.laid W) : ∃ A E, Cov W A ∧ Errs W E := by
  have h' : laidMet Tryd.prog Rows.ferryRunsSplitRow.laid W := h
  obtain ⟨ps, hv, hnd, hrows⟩ := h'
  obtain ⟨g1, t1, cs1, f1, p1, q1, hg1, ht1, hv1, hd1, hq1, rfl⟩ := hv
  obtain ⟨g2, t2, cs2, f2, p2, q2, hg2, ht2, hv2, hd2, hq2, rfl⟩ := hq1
  obtain ⟨g3, t3, cs3, f3, p3, q3, hg3, ht3, hv3, hd3, hq3, rfl⟩ := hq2
  obtain ⟨g4, t4, cs4, f4, p4, q4, hg4, ht4, hv4, hd4, hq4, rfl⟩ := hq3
  obtain ⟨g5, t5, cs5, f5, p5, q5, hg5, ht5, hv5, hd5, hq5, rfl⟩ := hq4
  obtain ⟨g6, t6, cs6, f6, p6, q6, hg6, ht6, hv6, hd6, hq6, rfl⟩ := hq5
  obtain ⟨g7, t7, cs7, f7, p7, q7, hg7, ht7, hv7, hd7, hq7, rfl⟩ := hq6
  obtain rfl : 2 = g1 := Option.some.inj ((show Tryd.prog.globalNamed "ferry/api.ErrRange" = some 2 by kernel_rfl).symm.trans hg1)
  obtain rfl : 39 = t1 := Option.some.inj ((show (Tryd.prog.globals[2]?).map (·.type) = some 39 by kernel_rfl).symm.trans ht1)
  obtain rfl : 3 = g2 := Option.some.inj ((show Tryd.prog.globalNamed "ferry/api.ErrLength" = some 3 by kernel_rfl).symm.trans hg2)
  obtain rfl : 39 = t2 := Option.some.inj ((show (Tryd.prog.globals[3]?).map (·.type) = some 39 by kernel_rfl).symm.trans ht2)
  obtain rfl : 4 = g3 := Option.some.inj ((show Tryd.prog.globalNamed "ferry/api.ErrKind" = some 4 by kernel_rfl).symm.trans hg3)
  obtain rfl : 39 = t3 := Option.some.inj ((show (Tryd.prog.globals[4]?).map (·.type) = some 39 by kernel_rfl).symm.trans ht3)
  obtain rfl : 1 = g4 := Option.some.inj ((show Tryd.prog.globalNamed "ferry/api.ErrSize" = some 1 by kernel_rfl).symm.trans hg4)
  obtain rfl : 39 = t4 := Option.some.inj ((show (Tryd.prog.globals[1]?).map (·.type) = some 39 by kernel_rfl).symm.trans ht4)
  obtain rfl : 6 = g6 := Option.some.inj ((show Tryd.prog.globalNamed "ferry/api.ErrDivide" = some 6 by kernel_rfl).symm.trans hg6)
  obtain rfl : 39 = t6 := Option.some.inj ((show (Tryd.prog.globals[6]?).map (·.type) = some 39 by kernel_rfl).symm.trans ht6)
  obtain rfl : 5 = g7 := Option.some.inj ((show Tryd.prog.globalNamed "ferry/isa.formBounds" = some 5 by kernel_rfl).symm.trans hg7)
  obtain rfl : 104 = t7 := Option.some.inj ((show (Tryd.prog.globals[5]?).map (·.type) = some 104 by kernel_rfl).symm.trans ht7)
  obtain ⟨l1⟩ := cs1
  have ok1 : ∀ u v, l1 = [.iface u v] → Value.okWide Tryd.prog W .any 0 u v := fun u v e => by
    subst e
    exact (hrows 2 0 (by simp [MemPlace.row])).2 u v (by simpa using World.var?_cell hg1 hv1 0)
  obtain ⟨a1, s1, rfl, _, _, _, _⟩ := errorString_of_trod Tryd.underlying39 rowE Tryd.underlying108 Tryd.underlying125 rfl rfl Tryd.underlying9 cellsES cellsS hd1 ok1
  obtain ⟨l2⟩ := cs2
  have ok2 : ∀ u v, l2 = [.iface u v] → Value.okWide Tryd.prog W .any 0 u v := fun u v e => by
    subst e
    exact (hrows 3 0 (by simp [MemPlace.row])).2 u v (by simpa using World.var?_cell hg2 hv2 0)
  obtain ⟨a2, s2, rfl, _, _, _, _⟩ := errorString_of_trod Tryd.underlying39 rowE Tryd.underlying108 Tryd.underlying125 rfl rfl Tryd.underlying9 cellsES cellsS hd2 ok2
  obtain ⟨l3⟩ := cs3
  have ok3 : ∀ u v, l3 = [.iface u v] → Value.okWide Tryd.prog W .any 0 u v := fun u v e => by
    subst e
    exact (hrows 4 0 (by simp [MemPlace.row])).2 u v (by simpa using World.var?_cell hg3 hv3 0)
  obtain ⟨a3, s3, rfl, _, _, _, _⟩ := errorString_of_trod Tryd.underlying39 rowE Tryd.underlying108 Tryd.underlying125 rfl rfl Tryd.underlying9 cellsES cellsS hd3 ok3
  obtain ⟨l4⟩ := cs4
  have ok4 : ∀ u v, l4 = [.iface u v] → Value.okWide Tryd.prog W .any 0 u v := fun u v e => by
    subst e
    exact (hrows 1 0 (by simp [MemPlace.row])).2 u v (by simpa using World.var?_cell hg4 hv4 0)
  obtain ⟨a4, s4, rfl, _, _, _, _⟩ := errorString_of_trod Tryd.underlying39 rowE Tryd.underlying108 Tryd.underlying125 rfl rfl Tryd.underlying9 cellsES cellsS hd4 ok4
  obtain ⟨l6⟩ := cs6
  have ok6 : ∀ u v, l6 = [.iface u v] → Value.okWide Tryd.prog W .any 0 u v := fun u v e => by
    subst e
    exact (hrows 6 0 (by simp [MemPlace.row])).2 u v (by simpa using World.var?_cell hg6 hv6 0)
  obtain ⟨a6, s6, rfl, _, _, _, _⟩ := errorString_of_trod Tryd.underlying39 rowE Tryd.underlying108 Tryd.underlying125 rfl rfl Tryd.underlying9 cellsES cellsS hd6 ok6
  refine ⟨a6, fun i => if i = 4 then a1 else if i = 5 then a2 else a4, ⟨⟨⟨a3, by simpa using World.var?_cell hg3 hv3 0⟩, ⟨a1, by simpa using World.var?_cell hg1 hv1 0⟩, fun f hf => ?_⟩, by unfold Dvz; simpa using World.var?_cell hg6 hv6 0⟩, ⟨by simpa [sent] using World.var?_cell hg1 hv1 0, by simpa [sent] using World.var?_cell hg2 hv2 0, by simpa [sent] using World.var?_cell hg4 hv4 0⟩⟩
  have ht := table_at (p := p7) hd7 f hf
  have c (i : Nat) : W.cell? ⟨5, i, none⟩ = cs7.toList[i]? := by rw [World.var?_cell hg7 hv7 i]; simp
  rw [← c, ← c, ← c, ← c, ← c] at ht
  exact ht
set_option maxRecDepth 100000 in
theorem runs_open {H : Type} {enc : TypeId × Value → H} {W : World} {fuel : Nat} {cs : List Value} {x : DataW H × List MemPlace}
    (hf : DataW.trod enc Tryd.prog W 0 (fun _ => true) true fuel 50 cs = some x) (hw : ∀ m ∈ x.1.weights Tryd.prog 50, m ≤ reachBytes) :
    ∃ (a : Option Addr) (len cap : Nat) (pl : List Pnv) (m : Mc) (n k : Int), cs = .slice a len cap :: (m.proc ++ [.int .i64 n, .int .i64 k]) ∧ Rcs Pnv.cells 2 W a len cap pl ∧ (∀ p ∈ pl, p.Ok) ∧ len ≤ 5864062014805 ∧ m.Ok := by
  obtain ⟨xs, n, _, hx, hcl, hxl, hff⟩ := DataW.trod_struct Tryd.underlying50 hf
  rw [cellsRn] at hcl
  match xs, hxl with
  | [y0, y1, y2, y3], _ =>
    have g0 : DataW.trod enc Tryd.prog W 0 (fun _ => true) true n 48 ((cs.drop 0).take (Tryd.prog.cellsOf 48)) = some y0 := hff 0 _ rfl
    have g1 : DataW.trod enc Tryd.prog W 0 (fun _ => true) true n 26 ((cs.drop 1).take (Tryd.prog.cellsOf 26)) = some y1 := hff 1 _ rfl
    have g2 : DataW.trod enc Tryd.prog W 0 (fun _ => true) true n 3 ((cs.drop 22).take (Tryd.prog.cellsOf 3)) = some y2 := hff 2 _ rfl
    have g3 : DataW.trod enc Tryd.prog W 0 (fun _ => true) true n 3 ((cs.drop 23).take (Tryd.prog.cellsOf 3)) = some y3 := hff 3 _ rfl
    rw [cellsPl] at g0
    rw [cellsPr2] at g1
    rw [cellsPnI] at g2 g3
    subst hx
    simp only [DataW.weights, Tryd.underlying50, List.map_cons, List.map_nil, DataW.weightsEach, List.mem_append] at hw
    obtain ⟨z2, e2, _, b2⟩ := DataW.trod_int Tryd.underlying3 g2
    obtain ⟨z3, e3, _, b3⟩ := DataW.trod_int Tryd.underlying3 g3
    obtain ⟨v0, e0⟩ : ∃ v, (cs.drop 0).take 1 = [v] := by
      match cs, hcl with
      | v :: l, _ => exact ⟨v, by simp⟩
    rw [e0] at g0
    obtain ⟨a, len, cap, rfl⟩ : ∃ a len cap, v0 = .slice a len cap := by
      rcases open_slice Tryd.underlying48 g0 with ⟨hcs, _⟩ | ⟨ad, l, c, m, nf, D, Pl, hcs, _⟩
      · exact ⟨none, 0, 0, by simpa using hcs⟩
      · exact ⟨some ad, l, c, by simpa using hcs⟩
    obtain ⟨pl, r0, r1, r2⟩ := pns_open g0 (fun m hm => hw m (Or.inl hm))
    obtain ⟨m, _, okm, em⟩ := proc_open g1 (l := []) (fun p hp => by simp at hp) (by decide)
    refine ⟨a, len, cap, pl, m, z2, z3, ?_, r0, r1, r2, okm⟩
    have h24 : cs = (cs.drop 0).take 1 ++ ((cs.drop 1).take 21 ++ ((cs.drop 22).take 1 ++ (cs.drop 23).take 1)) := by
      refine List.ext_getElem? fun j => ?_
      by_cases h1 : j < 1
      · rw [List.getElem?_append_left (by simp [hcl]; omega), List.getElem?_take, if_pos h1, List.drop_zero]
      rw [List.getElem?_append_right (by simp [hcl]; omega)]
      have l1 : ((cs.drop 0).take 1).length = 1 := by simp [hcl]
      have l2 : ((cs.drop 1).take 21).length = 21 := by simp [hcl]
      have l3 : ((cs.drop 22).take 1).length = 1 := by simp [hcl]
      rw [l1]
      by_cases h2 : j < 22
      · rw [List.getElem?_append_left (by rw [l2]; omega), List.getElem?_take, if_pos (by omega), List.getElem?_drop, show 1 + (j - 1) = j by omega]
      rw [List.getElem?_append_right (by rw [l2]; omega), l2]
      by_cases h3 : j < 23
      · rw [List.getElem?_append_left (by rw [l3]; omega), List.getElem?_take, if_pos (by omega), List.getElem?_drop, show 22 + (j - 1 - 21) = j by omega]
      rw [List.getElem?_append_right (by rw [l3]; omega), l3]
      by_cases h4 : j < 24
      · rw [List.getElem?_take, if_pos (by omega), List.getElem?_drop, show 23 + (j - 1 - 21 - 1) = j by omega]
      · rw [List.getElem?_eq_none (by omega), List.getElem?_eq_none (by simp [hcl]; omega)]
    rw [h24, e0, e2, e3, em]
    rfl
end Go.Proofs.YteopkgjkbhcicaaDoor
