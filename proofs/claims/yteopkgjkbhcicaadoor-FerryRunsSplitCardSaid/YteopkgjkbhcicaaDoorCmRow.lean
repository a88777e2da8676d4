/-
  A process as a whole: loaded, stored, built into a machine, compared.
-/
import Derived.Test.YteopkgjkbhcicaaDoorCmStep
import Derived.Deep.MidRow
namespace Go.Proofs.YteopkgjkbhcicaaDoor
open Go.RowKit FerryCrc FerryAlu
set_option linter.unusedVariables false
set_option linter.unusedSimpArgs false

theorem infoProc : (Tryd.prog.info? 26).map (·.size) = some 21 := by kernel_rfl
theorem step_load {P : Program} {w : World} {ops : Array Oper} {o : Oper} {act : Act} {K : Act → World → Prop} {Q : Exit → Act → World → Prop} {EE : Prop} (hgd : o.guard = none) (ty : TypeId) (x : Operand) (ho : o.op = .load ty x)
    (b off : Nat) (hx : act.eval x = .pointer (some ⟨b, off, none⟩)) (cs : List Value) (d : TypeDesc) (hc : w.rangeAt b off cs) (hu : P.underlying ty = some d) (hd : d.isRow = true) (hi : (P.info? ty).map (·.size) = some cs.length)
    (h : K (act.put o.dst (.agg cs.toArray)) w) : if Region.wanted o (yielded ops act.tmps) = true then Oper.wp P o act w K Q else EE := by
  have hw : Region.wanted o (yielded ops act.tmps) = true := by simp [Region.wanted, hgd]
  rw [if_pos hw]
  exact wp_load_mid ty x ho b off hx cs d hc hu hd hi h
theorem step_store {P : Program} {w : World} {ops : Array Oper} {o : Oper} {act : Act} {K : Act → World → Prop} {Q : Exit → Act → World → Prop} {EE : Prop} (hgd : o.guard = none) (ty : TypeId) (x y : Operand) (ho : o.op = .store ty x y)
    (b off : Nat) (cs : List Value) (hx : act.eval x = .pointer (some ⟨b, off, none⟩)) (hy : act.eval y = .agg cs.toArray) (ht : w.there b off cs.length) (hi : (P.info? ty).map (·.size) = some cs.length) (h1 : ∀ v ∈ cs, v.oneCell' = true)
    (h : K (act.put o.dst undef) (w.setCells b off cs)) : if Region.wanted o (yielded ops act.tmps) = true then Oper.wp P o act w K Q else EE := by
  have hw : Region.wanted o (yielded ops act.tmps) = true := by simp [Region.wanted, hgd]
  rw [if_pos hw]
  exact wp_store_mid ty x y ho b off cs.toArray hx hy (by simpa using ht) (by simpa using hi) (all_oneCell_toArray h1) h
theorem step_run {P : Program} {w : World} {ops : Array Oper} {o : Oper} {act : Act} {K : Act → World → Prop} {Q : Exit → Act → World → Prop} {EE : Prop} (hgd : o.guard = none) (v : Value) (hrun : (execOp act.eval o).run P w = .ok (.value v) w)
    (h : K (act.put o.dst v) w) : if Region.wanted o (yielded ops act.tmps) = true then Oper.wp P o act w K Q else EE := by
  have hw : Region.wanted o (yielded ops act.tmps) = true := by simp [Region.wanted, hgd]
  rw [if_pos hw]
  unfold Oper.wp
  rw [hrun]
  exact h
theorem list21 {l : List Value} (h : l.length = 21) : ∃ x0 x1 x2 x3 x4 x5 x6 x7 x8 x9 x10 x11 x12 x13 x14 x15 x16 x17 x18 x19 x20 : Value, l = [x0, x1, x2, x3, x4, x5, x6, x7, x8, x9, x10, x11, x12, x13, x14, x15, x16, x17, x18, x19, x20] := by
  match l, h with
  | [x0, x1, x2, x3, x4, x5, x6, x7, x8, x9, x10, x11, x12, x13, x14, x15, x16, x17, x18, x19, x20], _ => exact ⟨x0, x1, x2, x3, x4, x5, x6, x7, x8, x9, x10, x11, x12, x13, x14, x15, x16, x17, x18, x19, x20, rfl⟩
theorem build54x (a : Option Addr) (n c : Nat) (x0 x1 x2 x3 x4 x5 x6 x7 x8 x9 x10 x11 x12 x13 x14 x15 x16 x17 x18 x19 x20 : Value) (w : World) : (Instr.build 64 #[(0, .slice a n c), (1, .agg #[x0, x1, x2, x3, x4, x5, x6, x7, x8, x9, x10, x11, x12, x13, x14, x15, x16, x17, x18, x19, x20])]).run Tryd.prog w = .ok (.agg #[.slice a n c, x0, x1, x2, x3, x4, x5, x6, x7, x8, x9, x10, x11, x12, x13, x14, x15, x16, x17, x18, x19, x20]) w := by kernel_rfl
theorem build54 (a : Option Addr) (n c : Nat) (l : List Value) (h : l.length = 21) (ev : Operand → Value) (x y : Operand) (hx : ev x = .slice a n c) (hy : ev y = .agg l.toArray) (o : Oper) (ho : o.op = .build 64 #[(0, x), (1, y)]) (w : World) :
    (execOp ev o).run Tryd.prog w = .ok (.value (.agg (.slice a n c :: l).toArray)) w := by
  obtain ⟨x0, x1, x2, x3, x4, x5, x6, x7, x8, x9, x10, x11, x12, x13, x14, x15, x16, x17, x18, x19, x20, rfl⟩ := list21 h
  unfold execOp
  simp only [ho, List.map_toArray, List.map_cons, List.map_nil, hx, hy, Sem.run_bind, build54x, Result.andThen_ok, Sem.run_pure]
theorem bl_setCells {w : World} {g : Nat} {cs vs : List Value} (h : Bl w g cs) (hl : cs.length = vs.length) : Bl (w.setCells g 0 vs) g vs := by
  refine ⟨fun j v hv => ?_, fun j => by rw [World.frozen?_setCells]; exact h.free j⟩
  have hj := (List.getElem?_eq_some_iff.1 hv).1
  have h1 := World.cell?_setCells_in g vs 0 w (fun i hi => by
    obtain ⟨u, hu⟩ : ∃ u, cs[i]? = some u := ⟨_, List.getElem?_eq_getElem (by omega)⟩
    rw [Nat.zero_add, h.cell i u hu]
    rfl) j hj
  rw [Nat.zero_add] at h1
  rw [h1, ← hv, List.getElem?_eq_getElem hj]
theorem bl_there {w : World} {g : Nat} {cs : List Value} (h : Bl w g cs) : w.there g 0 cs.length := fun j hj => by
  rw [Nat.zero_add]
  exact ⟨by rw [h.cell j _ (List.getElem?_eq_getElem hj)]; rfl, h.free j⟩
theorem bl_range {w : World} {g : Nat} {cs : List Value} (h : Bl w g cs) : w.rangeAt g 0 cs := fun j v hv => by
  rw [Nat.zero_add]
  exact h.cell j v hv
theorem bl_tail {w : World} {g : Nat} {v : Value} {cs : List Value} (h : Bl w g (v :: cs)) : w.rangeAt g 1 cs := fun j u hv => by
  rw [Nat.add_comm]
  exact h.cell (j + 1) u (by simpa using hv)
theorem Bl.farCells {w : World} {g g' o : Nat} {cs vs : List Value} (h : Bl w g cs) (hne : g' ≠ g) : Bl (w.setCells g' o vs) g cs :=
  ⟨fun j v hv => by rw [World.cell?_setCells_out g' vs o w ⟨g, j, none⟩ (fun e => absurd e.symm hne)]; exact h.cell j v hv, fun j => by rw [World.frozen?_setCells]; exact h.free j⟩
theorem setCells_size (g : Nat) : ∀ (vs : List Value) (o : Nat) (w : World), (w.setCells g o vs).heap.size = w.heap.size
  | [], _, _ => rfl
  | v :: vs, o, w => by
    show ((w.setCell ⟨g, o, none⟩ v).setCells g (o + 1) vs).heap.size = _
    rw [setCells_size g vs (o + 1)]
    simp [World.setCell]
theorem below_setCells {B g : Nat} {a : World} (hg : B ≤ g) : ∀ (vs : List Value) (o : Nat) (w : World), Below B a w → Below B a (w.setCells g o vs)
  | [], _, _, h => h
  | v :: vs, o, w, h => by
    show Below B a ((w.setCell ⟨g, o, none⟩ v).setCells g (o + 1) vs)
    exact below_setCells hg vs (o + 1) _ (h.setCell hg v)
theorem proc_one (m : Mc) : ∀ u ∈ m.proc, u.oneCell' = true := by
  intro u hu
  unfold Mc.proc at hu
  rcases List.mem_append.1 hu with h | h
  · obtain ⟨n, _, rfl⟩ := List.mem_map.1 h
    rfl
  · simp only [List.mem_cons, List.not_mem_nil, or_false] at h
    rcases h with rfl | rfl | rfl | rfl | rfl <;> rfl
end Go.Proofs.YteopkgjkbhcicaaDoor
