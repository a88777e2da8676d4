/-
  A process as a whole: loaded, stored, built into a machine, compared.
  The machine's beginning.
-/
import Derived.Test.YtegkodgondlcmaaDoorCmStep
import Derived.Deep.MidRow
namespace Go.Proofs.YtegkodgondlcmaaDoor
open Go.RowKit FerryCrc FerryAlu
set_option linter.unusedVariables false
set_option linter.unusedSimpArgs false

theorem infoProc : (Tryd.prog.info? 26).map (·.size) = some 21 := by kernel_rfl
theorem step_load {P : Program} {w : World} {ops : Array Oper} {o : Oper} {act : Act} {K : Act → World → Prop} {Q : Exit → Act → World → Prop} {EE : Prop} (hgd : o.guard = none) (ty : TypeId) (x : Operand) (ho : o.op = .load ty x)
    (b off : Nat) (hx : act.eval x = .pointer (some ⟨b, off, none⟩)) (cs : List Value) (d : TypeDesc) (hc : w.rangeAt b off cs) (hu : P.underlying ty = some d) (hd : d.isRow = true) (hi : (P.info? ty).map (·.size) = some cs.length)
    (h : K (act.put o.dst (.agg cs.toArray)) w) : if Region.wanted o (yielded ops act.tmps) = true then Oper.wp P o act w K Q else EE := by
  have hw : Region.wanted o (yielded ops act.tmps) = true := by simp [Region.wanted, hgd]
  rw [if_pos hw]
  exact wp_load_mid ty x ho b off hx cs d hc hu hd hi h
theorem step_store {P : Program} {w : World} {ops : Array Oper} {o : Oper} {act : Act} {K : Act → World → Prop} {Q : Exit → Act → World → Prop} {EE : Prop} (hgd : o.guard = none) (ty : TypeId) (x y : Operand) (ho : o.op = .store ty x y)
    (b off : Nat) (cs : List Value) (hx : act.eval x = .pointer (some ⟨b, off, none⟩)) (hy : act.eval y = .agg cs.toArray) (ht : w.there b off cs.length) (hi : (P.info? ty).map (·.size) = some cs.length) (h1 : ∀ v ∈ cs, v.oneCell' = true)
    (h : K (act.put o.dst undef) (w.setCells b off cs)) : if Region.wanted o (yielded ops act.tmps) = true then Oper.wp P o act w K Q else EE := by
  have hw : Region.wanted o (yielded ops act.tmps) = true := by simp [Region.wanted, hgd]
  rw [if_pos hw]
  exact wp_store_mid ty x y ho b off cs.toArray hx hy (by simpa using ht) (by simpa using hi) (all_oneCell_toArray h1) h
theorem step_run {P : Program} {w : World} {ops : Array Oper} {o : Oper} {act : Act} {K : Act → World → Prop} {Q : Exit → Act → World → Prop} {EE : Prop} (hgd : o.guard = none) (v : Value) (hrun : (execOp act.eval o).run P w = .ok (.value v) w)
    (h : K (act.put o.dst v) w) : if Region.wanted o (yielded ops act.tmps) = true then Oper.wp P o act w K Q else EE := by
  have hw : Region.wanted o (yielded ops act.tmps) = true := by simp [Region.wanted, hgd]
  rw [if_pos hw]
  unfold Oper.wp
  rw [hrun]
  exact h
theorem list21 {l : List Value} (h : l.length = 21) : ∃ x0 x1 x2 x3 x4 x5 x6 x7 x8 x9 x10 x11 x12 x13 x14 x15 x16 x17 x18 x19 x20 : Value, l = [x0, x1, x2, x3, x4, x5, x6, x7, x8, x9, x10, x11, x12, x13, x14, x15, x16, x17, x18, x19, x20] := by
  match l, h with
  | [x0, x1, x2, x3, x4, x5, x6, x7, x8, x9, x10, x11, x12, x13, x14, x15, x16, x17, x18, x19, x20], _ => exact ⟨x0, x1, x2, x3, x4, x5, x6, x7, x8, x9, x10, x11, x12, x13, x14, x15, x16, x17, x18, x19, x20, rfl⟩
theorem build54x (a : Option Addr) (n c : Nat) (x0 x1 x2 x3 x4 x5 x6 x7 x8 x9 x10 x11 x12 x13 x14 x15 x16 x17 x18 x19 x20 : Value) (w : World) : (Instr.build 64 #[(0, .slice a n c), (1, .agg #[x0, x1, x2, x3, x4, x5, x6, x7, x8, x9, x10, x11, x12, x13, x14, x15, x16, x17, x18, x19, x20])]).run Tryd.prog w = .ok (.agg #[.slice a n c, x0, x1, x2, x3, x4, x5, x6, x7, x8, x9, x10, x11, x12, x13, x14, x15, x16, x17, x18, x19, x20]) w := by kernel_rfl
theorem build54 (a : Option Addr) (n c : Nat) (l : List Value) (h : l.length = 21) (ev : Operand → Value) (x y : Operand) (hx : ev x = .slice a n c) (hy : ev y = .agg l.toArray) (o : Oper) (ho : o.op = .build 64 #[(0, x), (1, y)]) (w : World) :
    (execOp ev o).run Tryd.prog w = .ok (.value (.agg (.slice a n c :: l).toArray)) w := by
  obtain ⟨x0, x1, x2, x3, x4, x5, x6, x7, x8, x9, x10, x11, x12, x13, x14, x15, x16, x17, x18, x19, x20, rfl⟩ := list21 h
  unfold execOp
  simp only [ho, List.map_toArray, List.map_cons, List.map_nil, hx, hy, Sem.run_bind, build54x, Result.andThen_ok, Sem.run_pure]
theorem bl_setCells {w : World} {g : Nat} {cs vs : List Value} (h : Bl w g cs) (hl : cs.length = vs.length) : Bl (w.setCells g 0 vs) g vs := by
  refine ⟨fun j v hv => ?_, fun j => by rw [World.frozen?_setCells]; exact h.free j⟩
  have hj := (List.getElem?_eq_some_iff.1 hv).1
  have h1 := World.cell?_setCells_in g vs 0 w (fun i hi => by
    obtain ⟨u, hu⟩ : ∃ u, cs[i]? = some u := ⟨_, List.getElem?_eq_getElem (by omega)⟩
    rw [Nat.zero_add, h.cell i u hu]
    rfl) j hj
  rw [Nat.zero_add] at h1
  rw [h1, ← hv, List.getElem?_eq_getElem hj]
theorem bl_there {w : World} {g : Nat} {cs : List Value} (h : Bl w g cs) : w.there g 0 cs.length := fun j hj => by
  rw [Nat.zero_add]
  exact ⟨by rw [h.cell j _ (List.getElem?_eq_getElem hj)]; rfl, h.free j⟩
theorem bl_range {w : World} {g : Nat} {cs : List Value} (h : Bl w g cs) : w.rangeAt g 0 cs := fun j v hv => by
  rw [Nat.zero_add]
  exact h.cell j v hv
theorem bl_tail {w : World} {g : Nat} {v : Value} {cs : List Value} (h : Bl w g (v :: cs)) : w.rangeAt g 1 cs := fun j u hv => by
  rw [Nat.add_comm]
  exact h.cell (j + 1) u (by simpa using hv)
theorem Bl.farCells {w : World} {g g' o : Nat} {cs vs : List Value} (h : Bl w g cs) (hne : g' ≠ g) : Bl (w.setCells g' o vs) g cs :=
  ⟨fun j v hv => by rw [World.cell?_setCells_out g' vs o w ⟨g, j, none⟩ (fun e => absurd e.symm hne)]; exact h.cell j v hv, fun j => by rw [World.frozen?_setCells]; exact h.free j⟩
theorem setCells_size (g : Nat) : ∀ (vs : List Value) (o : Nat) (w : World), (w.setCells g o vs).heap.size = w.heap.size
  | [], _, _ => rfl
  | v :: vs, o, w => by
    show ((w.setCell ⟨g, o, none⟩ v).setCells g (o + 1) vs).heap.size = _
    rw [setCells_size g vs (o + 1)]
    simp [World.setCell]
theorem below_setCells {B g : Nat} {a : World} (hg : B ≤ g) : ∀ (vs : List Value) (o : Nat) (w : World), Below B a w → Below B a (w.setCells g o vs)
  | [], _, _, h => h
  | v :: vs, o, w, h => by
    show Below B a ((w.setCell ⟨g, o, none⟩ v).setCells g (o + 1) vs)
    exact below_setCells hg vs (o + 1) _ (h.setCell hg v)
theorem proc_one (m : Mc) : ∀ u ∈ m.proc, u.oneCell' = true := by
  intro u hu
  unfold Mc.proc at hu
  rcases List.mem_append.1 hu with h | h
  · obtain ⟨n, _, rfl⟩ := List.mem_map.1 h
    rfl
  · simp only [List.mem_cons, List.not_mem_nil, or_false] at h
    rcases h with rfl | rfl | rfl | rfl | rfl <;> rfl
end Go.Proofs.YtegkodgondlcmaaDoor
namespace Go.Proofs.YtegkodgondlcmaaDoor
open Go.RowKit FerryCrc FerryAlu
set_option linter.unusedVariables false
set_option linter.unusedSimpArgs false

theorem from0_ok {m : Mc} (h : m.Ok) : m.from0.Ok := ⟨h.ok, h.most, by simp [Mc.from0, h.size], fun r hr => by
  rcases List.mem_or_eq_of_mem_set hr with hr | rfl
  · exact h.small r hr
  · decide, h.pc⟩
theorem from0_proc {m : Mc} (h : m.Ok) : m.from0.proc = m.proc.set 0 (.int .u32 0) := proc_set h (k := 0) (v := 0) (by decide)

set_option maxRecDepth 100000 in
set_option maxHeartbeats 8000000 in
theorem begin_any (a : Option Addr) (len cap : Nat) (m : Mc) (w : World) (hs : Pgs w a len cap m.pages) (ok : m.Ok) :
    Calls Tryd.prog 19 #[.slice a len cap, .agg m.proc.toArray] w fun e w' => ∃ mb v, e = .returned (.pointer (some ⟨mb, 0, none⟩)) ∧ MAt w' mb w.heap.size v m.from0 ∧ Below w.heap.size w w' := by
  have OK0 := hide (from0_ok ok)
  have HS := hide hs
  have HLEN : Hid (m.pages.length = len) := hs.size
  have hbl := bl_alloc w (m.proc.toArray.setIfInBounds 0 (.int .u32 0)) 26
  have hb1 : Bl (w.alloc (.cells (m.proc.toArray.setIfInBounds 0 (.int .u32 0)) 26)) w.heap.size m.from0.proc := by
    rw [from0_proc ok]
    simpa using hbl
  have c0 : (w.alloc (.cells m.proc.toArray 26)).cell? ⟨w.heap.size, 0, none⟩ = some (m.proc[0]'(by rw [proc_len ok]; decide)) := (bl_alloc w m.proc.toArray 26).cell 0 _ (List.getElem?_eq_getElem _)
  have f0 := (bl_alloc w m.proc.toArray 26).free 0
  have hB1 : Below w.heap.size w (w.alloc (.cells (m.proc.toArray.setIfInBounds 0 (.int .u32 0)) 26)) := (Below.refl _ _).alloc (Nat.le_refl _) _
  have hsz : w.heap.size < (w.alloc (.cells (m.proc.toArray.setIfInBounds 0 (.int .u32 0)) 26)).heap.size := by simp
  have HZ := hide hb1
  have HB := hide hB1
  have HSZ := hide hsz
  have HPL : Hid (m.from0.proc.length = 21) := proc_len OK0.out
  have HF : Hid (m.from0.pages = m.pages) := rfl
  clear hbl hb1 hB1 hsz hs
  generalize m.proc.toArray = P at *
  generalize m.proc[0]'(by rw [proc_len ok]; decide) = u0 at *
  generalize m.from0 = M at *
  go_enter Tryd.func19, Tryd.ntmps19
  go_upto_region 2 with fail
  generalize w.alloc (.cells (P.setIfInBounds 0 (.int .u32 0)) 26) = W1 at *
  have HRG : Hid (∀ wz, Below W1.heap.size W1 wz → wz.rangeAt w.heap.size 0 M.proc) := fun wz hb => bl_range (HZ.out.below HSZ.out hb)
  have hu26 := Tryd.underlying26
  have hi26 : (Tryd.prog.info? 26).map (·.size) = some M.proc.length := by rw [HPL.out]; exact infoProc
  have HW : Hid (Below W1.heap.size W1 W1.drew) := (Below.refl W1.heap.size W1).drew
  refine wp_region_held_drew (S := fun wz => wz.rangeAt w.heap.size 0 M.proc) (by kernel_rfl) (HRG.out _ HW.out) (fun hHeld => ?_)
  refine wpAnyH_take (i := 0) (oi := { dst := some 7, op := Go.Op.move (Go.Operand.tmp 0), type := 22, pos := "core.go:21", after := #[], guard := none }) (v := ?_) rfl (by kernel_rfl) (by kernel_rfl) (by kernel_rfl) (fun _ _ _ h => h) (Or.inl ⟨by rfl, ?_⟩) (by assumption) ?_
  rotate_left
  · intro w hSw
    try dsimp only at hSw
    go_simp
    try with_reducible rfl
  simp only [Act.put, List.setIfInBounds_toArray, List.set_cons_zero, List.set_cons_succ]
  refine wpAnyH_take (i := 2) (oi := { dst := some 9, op := Go.Op.load 26 (Go.Operand.tmp 3), type := 26, pos := "core.go:21", after := #[], guard := none }) rfl (by kernel_rfl) (by kernel_rfl) (by kernel_rfl) (fun _ _ _ h => h) (yieldsIf_load_mid (by rfl) _ _ rfl _ _ rfl _ _ (fun _ h => h) hu26 rfl hi26) (by assumption) ?_
  simp only [Act.put, List.setIfInBounds_toArray, List.set_cons_zero, List.set_cons_succ]
  refine wpAnyH_ready (rs := [1]) (by kernel_rfl) (by simp) ?_
  refine AllReadyH.cons (o := { dst := some 8, op := Go.Op.call { callee := Go.Callee.value (Go.Operand.func 24), args := #[Go.Operand.tmp 7], argTypes := #[22] }, type := 22, pos := "core.go:21", after := #[{ on := 0, ground := Go.Ground.data }], guard := none }) rfl (fun K hK => ?_) AllReadyH.nil
  go_simp
  go_at_call 24
  refine (copy_any a len cap m.pages _ (HS.out.below (chain HB.out HW.out))).mono ?_
  rintro e wx ⟨g, rfl, hg, ho, bx⟩
  have HG := hide hg
  have HO := hide ho
  have HW2 := hide (chain HW.out bx)
  clear hg ho bx
  try go_wp2_with fail
  refine hK.out _ _ (HRG.out _ HW2.out) (fun hHeld2 => ?_)
  clear hK K hHeld
  try simp only [Act.put, List.setIfInBounds_toArray, List.set_cons_zero, List.set_cons_succ]
  refine wpAnyH_take (i := 3) (oi := { dst := some 10, op := Go.Op.build 64 #[(0, Go.Operand.tmp 8), (1, Go.Operand.tmp 9)], type := 64, pos := "core.go:21", after := #[{ on := 1, ground := Go.Ground.data }, { on := 2, ground := Go.Ground.data }], guard := none }) (v := .agg (.slice (some ⟨g, 0, none⟩) len len :: M.proc).toArray) rfl (by kernel_rfl) (by kernel_rfl) (by kernel_rfl) (fun _ _ _ h => h) (Or.inl ⟨by rfl, ?_⟩) (by assumption) ?_
  · intro wq hSw
    exact build54 (some ⟨g, 0, none⟩) len len M.proc HPL.out _ (.tmp 8) (.tmp 9) rfl rfl _ rfl wq
  simp only [Act.put, List.setIfInBounds_toArray, List.set_cons_zero, List.set_cons_succ]
  refine wpAnyH_ready (rs := [4]) (by kernel_rfl) (by simp) ?_
  refine AllReadyH.cons (o := { dst := some 11, op := Go.Op.box 64 (Go.Operand.tmp 10), type := 59, pos := "core.go:21", after := #[{ on := 3, ground := Go.Ground.data }], guard := none }) rfl (fun K hK => ?_) AllReadyH.nil
  go_simp
  have HA3 : Hid (Below wx.heap.size wx (wx.alloc (.cells (.slice (some ⟨g, 0, none⟩) len len :: M.proc).toArray 64))) := (Below.refl _ _).alloc (Nat.le_refl _) _
  have HW3 := hide (chain HW2.out HA3.out)
  have HBL : Hid (Bl (wx.alloc (.cells (.slice (some ⟨g, 0, none⟩) len len :: M.proc).toArray 64)) wx.heap.size (.slice (some ⟨g, 0, none⟩) len len :: M.proc)) := (show Bl _ _ _ from bl_alloc wx (Value.slice (some ⟨g, 0, none⟩) len len :: M.proc).toArray 64)
  have HL3 : Hid (wx.heap.size < (wx.alloc (.cells (.slice (some ⟨g, 0, none⟩) len len :: M.proc).toArray 64)).heap.size) := by unfold Hid; simp
  refine hK.out _ _ (HRG.out _ HW3.out) (fun hHeld3 => ?_)
  clear hK K hHeld2
  try simp only [Act.put, List.setIfInBounds_toArray, List.set_cons_zero, List.set_cons_succ]
  refine wpAnyH_take (i := 5) (oi := { dst := some 4, op := Go.Op.assign (Go.Operand.tmp 11), type := 59, pos := "core.go:21", after := #[{ on := 4, ground := Go.Ground.data }, { on := 1, ground := Go.Ground.chain }, { on := 0, ground := Go.Ground.phase }, { on := 1, ground := Go.Ground.phase }, { on := 2, ground := Go.Ground.phase }, { on := 3, ground := Go.Ground.phase }, { on := 4, ground := Go.Ground.phase }], guard := none }) (v := ?_) rfl (by kernel_rfl) (by kernel_rfl) (by kernel_rfl) (fun _ _ _ h => h) (Or.inl ⟨by rfl, ?_⟩) (by assumption) ?_
  rotate_left
  · intro w hSw
    try dsimp only at hSw
    go_simp
    try with_reducible rfl
  simp only [Act.put, List.setIfInBounds_toArray, List.set_cons_zero, List.set_cons_succ]
  refine wpAnyH_done (by kernel_rfl) ?_ _
  have HWS : Hid (w.heap.size ≤ wx.heap.size) := (chain HB.out HW2.out).size
  have HOL := hide (World.ownsRow.lt HO.out)
  have HO3 := hide (HO.out.below HA3.out)
  have HE3 := hide (chain HB.out HW3.out)
  generalize wx.alloc (.cells (.slice (some ⟨g, 0, none⟩) len len :: M.proc).toArray 64) = W9 at *
  go_wp2
  go_ret
  refine ⟨wx.heap.size, .slice (some ⟨g, 0, none⟩) len len, rfl, ⟨HBL.out, ?_, fun e => ?_, OK0.out, HWS.out, HL3.out, Nat.le_trans HWS.out (Nat.le_of_lt HL3.out)⟩, HE3.out⟩
  · rw [HF.out]
    exact HO3.out.weaken HB.out.size
  · have := (HOL.out _ e).2
    omega
end Go.Proofs.YtegkodgondlcmaaDoor
