/-
  FerryRunsSplit: the law walked.
-/
import Derived.Test.YteopkgjkbhcicaaDoorFsReg
import Derived.Deep.Cut
import Derived.Deep.CutRange
import Derived.BigQuiet
import Derived.Deep.QuietTactic
namespace Go.Proofs.YteopkgjkbhcicaaDoor.ferryRunsSplit
open Go.RowKit FerryCrc FerryAlu
set_option linter.unusedVariables false
set_option linter.unusedSimpArgs false

theorem str_app (x y : List Nat) : str x ++ str y = str (x ++ y) := by
  apply ByteArray.ext
  simp [str, ByteArray.data_append]
theorem pn0_ok : pn0.Ok := ⟨by decide, by decide, by decide, by decide⟩
theorem mcf_pg : Oks mcf.pages := fun p hp => by
  have h : p = pn0.page := by simpa [mcf] using hp
  subst h
  exact Pnv.page_ok pn0_ok (by decide)
theorem mcf_ok : mcf.Ok := ⟨mcf_pg, by decide, rfl, by decide, by decide⟩
theorem size_setC (b : Nat) : ∀ (vs : List Value) (o : Nat) (w : World), (w.setCells b o vs).heap.size = w.heap.size
  | [], _, _ => rfl
  | v :: vs, o, w => by rw [World.setCells, size_setC b vs]; simp [World.setCell]
theorem mcf_proc : mcf.proc.toArray = #[.int .u32 0, .int .u32 0, .int .u32 0, .int .u32 0, .int .u32 0, .int .u32 0, .int .u32 0, .int .u32 0, .int .u32 0, .int .u32 0, .int .u32 0, .int .u32 0, .int .u32 0, .int .u32 0, .int .u32 0, .int .u32 0, .int .u32 0, .int .i64 0, .int .i64 0, .int .i64 0, .int .i64 0] := rfl
theorem mk0 : mkE [pn0] = (0, -1) ∧ mkL [pn0] = [pn0.page] := by
  have h : mkE [pn0] = (0, -1) := by decide
  refine ⟨h, ?_⟩
  unfold mkL
  rw [if_pos (by rw [h])]
  rfl
theorem infoPlan : ∃ i z, Tryd.prog.info? 55 = some i ∧ i.zero = some z ∧ i.size = 2 ∧ i.bytes = 24 ∧ z.cells.size = 2 := by
  have h : (Tryd.prog.info? 55).map (fun i => (i.size, i.bytes, i.zero.map (·.cells.size))) = some (2, 24, some 2) := by kernel_rfl
  cases hi : Tryd.prog.info? 55 with
  | none => simp [hi] at h
  | some i =>
    simp only [hi, Option.map_some, Option.some.injEq, Prod.mk.injEq] at h
    obtain ⟨h1, h2, h3⟩ := h
    cases hz : i.zero with
    | none => simp [hz] at h3
    | some z => exact ⟨i, z, rfl, hz, h1, h2, by simpa [hz] using h3⟩
theorem pn_one (l : List Pnv) : ∀ u ∈ l.flatMap Pnv.cells, u.oneCell' = true := by
  intro u hu
  obtain ⟨p, _, hp⟩ := List.mem_flatMap.1 hu
  simp only [Pnv.cells, List.mem_cons, List.not_mem_nil, or_false] at hp
  rcases hp with rfl | rfl <;> rfl
theorem pn0_all : ∀ p ∈ [pn0], p.Ok := fun p hp => by
  have h : p = pn0 := by simpa using hp
  subst h
  exact pn0_ok
theorem below_of (w : World) (o : Obj) {w' : World} (h : Below w.heap.size (w.alloc o) w') : Below w.heap.size w w' := (new_blw w o).trans h
theorem proc_at0 {m : Mc} (ok : m.Ok) {v : Value} (hv : m.proc[0]? = some v) : ∃ r, v = .int .u32 r := by
  have h := ok.size
  unfold Mc.proc at hv
  match hr : m.regs, h with
  | r :: l, _ =>
    rw [hr] at hv
    exact ⟨_, (Option.some.inj hv).symm⟩
theorem bl_heap {w : World} {g : Nat} {c : Array Value} {t : TypeId} (h : w.heap[g]? = some (.cells c t)) : Bl w g c.toList :=
  ⟨fun j v hv => by rw [cell_of_row w g j c _ _ h]; simpa using hv, fun j => by simp [World.frozen?, h]⟩
theorem boxes_off {w : World} {g g' : Nat} {c c' : Array Value} {t t' : TypeId} (h : w.heap[g]? = some (.cells c t)) (h' : w.heap[g']? = some (.cells c' t')) (hne : t ≠ t') : g ≠ g' := fun e => by
  subst e
  rw [h] at h'
  simp only [Option.some.injEq, Obj.cells.injEq] at h'
  exact hne h'.2.1
theorem rlk_base {w : World} {base : Nat} {e : TypeId} {sz : Nat} {a : Option Addr} {n c : Nat} {cs : List Value} (h : RLk w base e sz (.slice a n c) n cs) : ∀ b off, a = some ⟨b, off, none⟩ → 0 < n → base ≤ b := fun b off e1 hn => by
  rcases h with h | h
  · rcases h.2 with ⟨e2, h0⟩ | ⟨g, cap, cur, e2, hg, _⟩
    · omega
    · simp only [Value.slice.injEq] at e2
      rw [e1] at e2
      simp only [Option.some.injEq, Addr.mk.injEq, and_true] at e2
      omega
  · have := h.2.1
    omega
theorem pgs_lt {w : World} {a : Option Addr} {len cap : Nat} {l : List Pg} (h : Pgs w a len cap l) {b off : Nat} (e : a = some ⟨b, off, none⟩) (hn : 0 < len) : b < w.heap.size := by
  obtain ⟨p, hp⟩ : ∃ p, l[0]? = some p := ⟨_, List.getElem?_eq_getElem (by rw [h.size]; exact hn)⟩
  obtain ⟨b', off', e', hr⟩ := h.cell 0 p hp
  rw [e] at e'
  simp only [Option.some.injEq, Addr.mk.injEq, and_true] at e'
  obtain ⟨rfl, rfl⟩ := e'
  exact block_lt_of_cell (hr 0 _ rfl)
theorem pgs_cells {w : World} {a : Option Addr} {len cap : Nat} {l : List Pg} (h : Pgs w a len cap l) {g : Nat} (hne : ∀ b off, a = some ⟨b, off, none⟩ → 0 < len → b ≠ g) (o : Nat) (vs : List Value) : Pgs (w.setCells g o vs) a len cap l :=
  ⟨h.size, h.most, h.fit, h.ok, h.null, fun k p hp => by
    obtain ⟨b, off, e, hr⟩ := h.cell k p hp
    exact ⟨b, off, e, World.rangeAt_setCells_apart hr g o vs (.inl (hne b off e (by have := (List.getElem?_eq_some_iff.1 hp).1; rw [h.size] at this; omega)))⟩⟩
theorem bl_blw {w w' : World} {g : Nat} {cs : List Value} (h : Bl w g cs) (h0 : 0 < cs.length) (hb : Below w.heap.size w w') : Bl w' g cs := by
  obtain ⟨v, hv⟩ : ∃ v, cs[0]? = some v := ⟨_, List.getElem?_eq_getElem h0⟩
  exact h.below (block_lt_of_cell (h.cell 0 v hv)) hb
theorem proc_hi (m : Mc) (ok : m.Ok) : m.proc[17]? = some (.int .i64 m.st) ∧ m.proc[18]? = some (.int .i64 m.prio) ∧ m.proc[19]? = some (.int .i64 m.wait) ∧ m.proc[20]? = some (.int .i64 m.obj) := by
  have h : (m.regs.map u32v).length = 16 := by rw [List.length_map]; exact ok.size
  unfold Mc.proc
  refine ⟨?_, ?_, ?_, ?_⟩
  all_goals
    rw [List.getElem?_append_right (by omega), h]
    rfl
theorem proc_lo (m : Mc) (h : m.zero) : m.proc[0]? = some (.int .u32 0) := by
  unfold Mc.zero at h
  have hl := (List.getElem?_eq_some_iff.1 h).1
  unfold Mc.proc
  rw [List.getElem?_append_left (by rw [List.length_map]; exact hl), List.getElem?_map, h]
  rfl
theorem and2 (r : Int) : (bits .and .i64 r 2 == 0) = !(rbit r 1) := by
  have h := right_bit (k := 1) (r := 2) (x := r) (by unfold Right; omega)
  rw [← h]
  cases hb : (bits .and .i64 r 2 == 0) <;> simp [bne, hb]
theorem range_row2 {w : World} {b o : Nat} {p : Pg} (h : w.rangeAt b o p.cells) : w.rangeAt b (o + 2) p.row := fun j v hv => by
  have := h (j + 2) v (by rw [show p.cells = .int .i64 p.rights :: .bool p.dirty :: p.row from rfl, List.getElem?_cons_succ, List.getElem?_cons_succ]; exact hv)
  rw [show o + 2 + j = o + (j + 2) by omega]
  exact this
theorem row_pgs {w : World} {a : Option Addr} {len cap : Nat} {l : List Pg} (h : Row w a len cap 66 (flat l)) (ok : Oks l) (hl : l.length = len) (hm : len ≤ 1759218604391) : Pgs w a len cap l := by
  refine ⟨hl, hm, h.fit, ok, h.null, fun k p hp => ?_⟩
  have hk := (List.getElem?_eq_some_iff.1 hp).1
  have hc := (ok p (List.mem_of_getElem? hp)).cells
  obtain ⟨v0, hv0⟩ : ∃ v, p.cells[0]? = some v := ⟨_, rfl⟩
  have f0 := flat_get ok 0 hp (by decide)
  rw [Nat.add_zero] at f0
  obtain ⟨b, off, e, _⟩ := h.cell (k * 66) v0 (f0.trans hv0)
  refine ⟨b, off, e, fun j v hv => ?_⟩
  have hj : j < 66 := by
    have := (List.getElem?_eq_some_iff.1 hv).1
    rw [hc] at this
    exact this
  obtain ⟨b', off', e', h1⟩ := h.cell (k * 66 + j) v ((flat_get ok j hp hj).trans hv)
  rw [e] at e'
  simp only [Option.some.injEq, Addr.mk.injEq, and_true] at e'
  obtain ⟨rfl, rfl⟩ := e'
  rw [Nat.add_assoc]
  exact h1
theorem one_plan (w : World) : Rcs Pnv.cells 2 (w.alloc (.cells #[.int .i64 7, .string (str [16, 16, 0, 5, 64, 0, 0, 9])] 55)) (some ⟨w.heap.size, 0, none⟩) 1 1 [pn0] := by
  refine ⟨rfl, rfl, Nat.le_refl _, fun e => by simp at e, fun j v hv => ⟨w.heap.size, 0, rfl, ?_⟩⟩
  rw [World.cell?_alloc_at _ _ _ _ rfl, Nat.zero_add]
  have hj : j < 2 := (List.getElem?_eq_some_iff.1 hv).1
  rcases (by omega : j = 0 ∨ j = 1) with rfl | rfl
  · obtain rfl := Option.some.inj hv
    rfl
  · obtain rfl := Option.some.inj hv
    rfl
theorem bl_set {w : World} {g : Nat} {cs vs : List Value} (h : Bl w g cs) (hl : cs.length = vs.length) : Bl (w.setCells g 0 vs) g vs := bl_setCells h hl
theorem proc_at1 {M : Mc} (ok : M.Ok) {x : Nat} (h : M.regs[1]? = some x) : M.proc[1]? = some (.int .u32 (x : Int)) := by
  have hl : 1 < (M.regs.map u32v).length := by rw [List.length_map, ok.size]; decide
  unfold Mc.proc
  rw [List.getElem?_append_left hl, List.getElem?_map, h]
  rfl
theorem box24 {a : Option Addr} {len cap : Nat} {m : Mc} (ok : m.Ok) (n k : Int) {X : List Value} (hX : .slice a len cap :: (m.proc ++ [.int .i64 n, .int .i64 k]) = X) (w : World) (g : Nat) (h : Bl w g X) :
    w.cell? ⟨g, 0, none⟩ = some (.slice a len cap) ∧ w.rangeAt g 1 m.proc ∧ w.cell? ⟨g, 22, none⟩ = some (.int .i64 n) ∧ w.cell? ⟨g, 23, none⟩ = some (.int .i64 k) := by
  have hp := proc_len ok
  subst hX
  refine ⟨h.cell 0 _ rfl, fun j v hv => ?_, h.cell 22 _ ?_, h.cell 23 _ ?_⟩
  · rw [Nat.add_comm]
    refine h.cell (j + 1) _ ?_
    rw [List.getElem?_cons_succ, List.getElem?_append_left (List.getElem?_eq_some_iff.1 hv).1]
    exact hv
  · rw [List.getElem?_cons_succ, List.getElem?_append_right (by omega), hp]
    rfl
  · rw [List.getElem?_cons_succ, List.getElem?_append_right (by omega), hp]
    rfl

set_option maxRecDepth 100000 in
set_option maxHeartbeats 8000000 in
theorem law (a : Option Addr) (len cap : Nat) (pl : List Pnv) (m : Mc) (n k : Int) (w : World) (E : Nat → Addr) (A : Addr) (he : Errs w E) (hv : Cov w A) (hs : Rcs Pnv.cells 2 w a len cap pl) (okp : ∀ p ∈ pl, p.Ok) (hl : len ≤ 5864062014805) (ok : m.Ok) :
    Calls Tryd.prog 7 #[.agg (.slice a len cap :: (m.proc ++ [.int .i64 n, .int .i64 k])).toArray] w fun e w' => e = .returned (.bool true) ∧ Below w.heap.size w w' := by
  have HS := hide hs
  have HV := hide hv
  have HE := hide he
  have OK := hide ok
  have HOKP := hide okp
  have HPL : Hid (m.proc.length = 21) := proc_len ok
  obtain ⟨X, hX⟩ : ∃ X : List Value, .slice a len cap :: (m.proc ++ [.int .i64 n, .int .i64 k]) = X := ⟨_, rfl⟩
  rw [hX]
  have HXB := hide (@box24 a len cap m ok n k X hX)
  obtain ⟨z4, hb0, hsz⟩ := one_alloc w X.toArray 50
  have Z4 : Hid (Bl (w.alloc (.cells X.toArray 50)) w.heap.size X) := z4
  have HB0 := hide hb0
  have HSZ := hide hsz
  have hu26 := Tryd.underlying26
  have hi26 : (Tryd.prog.info? 26).map (·.size) = some m.proc.length := by rw [HPL.out]; exact infoProc
  have HU := hide hu26
  have HI := hide hi26
  clear hs hv he ok okp z4 hb0 hsz hu26 hi26 hX
  go_enter Tryd.func7, Tryd.ntmps7
  go_upto_region 1 with fail
  generalize w.alloc (.cells X.toArray 50) = W0 at *
  have HTL : Hid (∀ wz, Bl wz w.heap.size X → (fun wz => wz.cell? ⟨w.heap.size, 0, none⟩ = some (.slice a len cap) ∧ wz.rangeAt w.heap.size 1 m.proc ∧ wz.cell? ⟨w.heap.size, 22, none⟩ = some (.int .i64 n) ∧ wz.cell? ⟨w.heap.size, 23, none⟩ = some (.int .i64 k)) wz) := fun wz hz => HXB.out wz w.heap.size hz
  have HBX : Hid (Bl W0.drew w.heap.size X) := Z4.out.drew
  have HLT : Hid (w.heap.size < W0.drew.heap.size) := by have := HSZ.out; show w.heap.size < W0.heap.size; omega
  have HG4 : Hid (Bl (W0.drew.alloc (.cells zP 26)) W0.drew.heap.size zP.toList) := bl_alloc W0.drew zP 26
  have HTH : Hid ((W0.drew.alloc (.cells zP 26)).there W0.drew.heap.size 0 m.proc.length) := by unfold Hid; rw [HPL.out]; exact bl_there HG4.out
  have HBS : Hid (Bl ((W0.drew.alloc (.cells zP 26)).setCells W0.drew.heap.size 0 m.proc) w.heap.size X) := (HBX.out.below HLT.out (new_blw _ _)).farCells (by have := HLT.out; omega)
  have HB4 : Hid (Bl ((W0.drew.alloc (.cells zP 26)).setCells W0.drew.heap.size 0 m.proc) W0.drew.heap.size m.proc) := bl_set HG4.out (by rw [HPL.out]; rfl)
  have D1 : Hid (Below w.heap.size w ((W0.drew.alloc (.cells zP 26)).setCells W0.drew.heap.size 0 m.proc)) := below_setCells (by have := HLT.out; omega) m.proc 0 _ (chain HB0.out.drew (new_blw _ _))
  have HZ1 : Hid (((W0.drew.alloc (.cells zP 26)).setCells W0.drew.heap.size 0 m.proc).heap.size = W0.drew.heap.size + 1) := by unfold Hid; rw [size_setC]; simp
  refine wp_region_held_drew (S := fun wz => wz.cell? ⟨w.heap.size, 0, none⟩ = some (.slice a len cap) ∧ wz.rangeAt w.heap.size 1 m.proc ∧ wz.cell? ⟨w.heap.size, 22, none⟩ = some (.int .i64 n) ∧ wz.cell? ⟨w.heap.size, 23, none⟩ = some (.int .i64 k)) (by kernel_rfl) (HTL.out _ HBX.out) (fun hHeld => ?_)
  refine wpAnyH_take (i := 0) (oi := { dst := some 23, op := Go.Op.fieldAddr 50 (Go.Operand.tmp 1) 0, type := 0, pos := "top03.go:18", after := #[], guard := none }) (v := ?_) rfl (by kernel_rfl) (by kernel_rfl) (by kernel_rfl) (fun _ _ _ h => h) (Or.inl ⟨by rfl, ?_⟩) (by assumption) ?_
  rotate_left
  · intro w hSw
    try dsimp only at hSw
    go_simp
    try with_reducible rfl
  simp only [Act.put, List.setIfInBounds_toArray, List.set_cons_zero, List.set_cons_succ]
  refine wpAnyH_take (i := 1) (oi := { dst := some 24, op := Go.Op.load 48 (Go.Operand.tmp 23), type := 48, pos := "top03.go:18", after := #[{ on := 0, ground := Go.Ground.data }], guard := none }) (v := ?_) rfl (by kernel_rfl) (by kernel_rfl) (by kernel_rfl) (fun _ _ _ h => h) (Or.inl ⟨by rfl, ?_⟩) (by assumption) ?_
  rotate_left
  · intro w hSw
    try dsimp only at hSw
    go_simp
    try with_reducible rfl
  simp only [Act.put, List.setIfInBounds_toArray, List.set_cons_zero, List.set_cons_succ]
  refine wpAnyH_take (i := 2) (oi := { dst := some 25, op := Go.Op.fieldAddr 50 (Go.Operand.tmp 1) 1, type := 0, pos := "top03.go:18", after := #[{ on := 9, ground := Go.Ground.gcOnly Go.Departure.lateStores }], guard := none }) (v := ?_) rfl (by kernel_rfl) (by kernel_rfl) (by kernel_rfl) (fun _ _ _ h => h) (Or.inl ⟨by rfl, ?_⟩) (by assumption) ?_
  rotate_left
  · intro w hSw
    try dsimp only at hSw
    go_simp
    try with_reducible rfl
  simp only [Act.put, List.setIfInBounds_toArray, List.set_cons_zero, List.set_cons_succ]
  refine wpAnyH_take (i := 3) (oi := { dst := some 26, op := Go.Op.load 26 (Go.Operand.tmp 25), type := 26, pos := "top03.go:18", after := #[{ on := 2, ground := Go.Ground.data }, { on := 9, ground := Go.Ground.gcOnly Go.Departure.lateStores }], guard := none }) rfl (by kernel_rfl) (by kernel_rfl) (by kernel_rfl) (fun _ _ _ h => h) (yieldsIf_load_mid (by rfl) _ _ rfl _ _ rfl _ _ (fun wz hz => hz.2.1) HU.out rfl HI.out) (by assumption) ?_
  simp only [Act.put, List.setIfInBounds_toArray, List.set_cons_zero, List.set_cons_succ]
  refine wpAnyH_take (i := 4) (oi := { dst := some 27, op := Go.Op.fieldAddr 50 (Go.Operand.tmp 1) 2, type := 0, pos := "top03.go:18", after := #[{ on := 10, ground := Go.Ground.gcOnly Go.Departure.lateStores }], guard := none }) (v := ?_) rfl (by kernel_rfl) (by kernel_rfl) (by kernel_rfl) (fun _ _ _ h => h) (Or.inl ⟨by rfl, ?_⟩) (by assumption) ?_
  rotate_left
  · intro w hSw
    try dsimp only at hSw
    go_simp
    try with_reducible rfl
  simp only [Act.put, List.setIfInBounds_toArray, List.set_cons_zero, List.set_cons_succ]
  refine wpAnyH_take (i := 5) (oi := { dst := some 28, op := Go.Op.load 3 (Go.Operand.tmp 27), type := 3, pos := "top03.go:18", after := #[{ on := 4, ground := Go.Ground.data }, { on := 10, ground := Go.Ground.gcOnly Go.Departure.lateStores }], guard := none }) (v := ?_) rfl (by kernel_rfl) (by kernel_rfl) (by kernel_rfl) (fun _ _ _ h => h) (Or.inl ⟨by rfl, ?_⟩) (by assumption) ?_
  rotate_left
  · intro w hSw
    try dsimp only at hSw
    go_simp
    try with_reducible rfl
  simp only [Act.put, List.setIfInBounds_toArray, List.set_cons_zero, List.set_cons_succ]
  refine wpAnyH_take (i := 6) (oi := { dst := some 29, op := Go.Op.fieldAddr 50 (Go.Operand.tmp 1) 3, type := 0, pos := "top03.go:18", after := #[{ on := 11, ground := Go.Ground.gcOnly Go.Departure.lateStores }], guard := none }) (v := ?_) rfl (by kernel_rfl) (by kernel_rfl) (by kernel_rfl) (fun _ _ _ h => h) (Or.inl ⟨by rfl, ?_⟩) (by assumption) ?_
  rotate_left
  · intro w hSw
    try dsimp only at hSw
    go_simp
    try with_reducible rfl
  simp only [Act.put, List.setIfInBounds_toArray, List.set_cons_zero, List.set_cons_succ]
  refine wpAnyH_take (i := 7) (oi := { dst := some 30, op := Go.Op.load 3 (Go.Operand.tmp 29), type := 3, pos := "top03.go:18", after := #[{ on := 6, ground := Go.Ground.data }, { on := 11, ground := Go.Ground.gcOnly Go.Departure.lateStores }], guard := none }) (v := ?_) rfl (by kernel_rfl) (by kernel_rfl) (by kernel_rfl) (fun _ _ _ h => h) (Or.inl ⟨by rfl, ?_⟩) (by assumption) ?_
  rotate_left
  · intro w hSw
    try dsimp only at hSw
    go_simp
    try with_reducible rfl
  simp only [Act.put, List.setIfInBounds_toArray, List.set_cons_zero, List.set_cons_succ]
  refine wpAnyH_ready (rs := [8]) (by kernel_rfl) (by simp) ?_
  refine AllReadyH.cons (o := { dst := some 4, op := Go.Op.alloc 26, type := 0, pos := "top03.go:18", after := #[], guard := none }) rfl (fun K hK => ?_) AllReadyH.nil
  refine want_none rfl ?_
  refine wp_allocP rfl ?_
  refine hK.out _ _ (HTL.out _ (HBX.out.below HLT.out (new_blw _ _))) (fun hHeld2 => ?_)
  clear hK K hHeld
  simp only [Act.put, List.setIfInBounds_toArray, List.set_cons_zero, List.set_cons_succ]
  refine wpAnyH_take (i := 9) (oi := { dst := some 3, op := Go.Op.assign (Go.Operand.tmp 24), type := 48, pos := "top03.go:18", after := #[{ on := 1, ground := Go.Ground.data }, { on := 0, ground := Go.Ground.phase }, { on := 1, ground := Go.Ground.phase }, { on := 2, ground := Go.Ground.textOnly Go.Departure.lateStores }, { on := 3, ground := Go.Ground.textOnly Go.Departure.lateStores }, { on := 4, ground := Go.Ground.textOnly Go.Departure.lateStores }, { on := 5, ground := Go.Ground.textOnly Go.Departure.lateStores }, { on := 6, ground := Go.Ground.textOnly Go.Departure.lateStores }, { on := 7, ground := Go.Ground.textOnly Go.Departure.lateStores }, { on := 8, ground := Go.Ground.phase }], guard := none }) (v := ?_) rfl (by kernel_rfl) (by kernel_rfl) (by kernel_rfl) (fun _ _ _ h => h) (Or.inl ⟨by rfl, ?_⟩) (by assumption) ?_
  rotate_left
  · intro w hSw
    try dsimp only at hSw
    go_simp
    try with_reducible rfl
  simp only [Act.put, List.setIfInBounds_toArray, List.set_cons_zero, List.set_cons_succ]
  refine wpAnyH_ready (rs := [10]) (by kernel_rfl) (by simp) ?_
  refine AllReadyH.cons (o := { dst := none, op := Go.Op.store 26 (Go.Operand.tmp 4) (Go.Operand.tmp 26), type := 0, pos := "top03.go:18", after := #[{ on := 8, ground := Go.Ground.data }, { on := 3, ground := Go.Ground.data }, { on := 9, ground := Go.Ground.chain }, { on := 0, ground := Go.Ground.phase }, { on := 1, ground := Go.Ground.phase }, { on := 2, ground := Go.Ground.phase }, { on := 3, ground := Go.Ground.phase }, { on := 4, ground := Go.Ground.textOnly Go.Departure.lateStores }, { on := 5, ground := Go.Ground.textOnly Go.Departure.lateStores }, { on := 6, ground := Go.Ground.textOnly Go.Departure.lateStores }, { on := 7, ground := Go.Ground.textOnly Go.Departure.lateStores }, { on := 8, ground := Go.Ground.phase }, { on := 9, ground := Go.Ground.phase }], guard := none }) rfl (fun K hK => ?_) AllReadyH.nil
  refine step_store rfl 26 (.tmp 4) (.tmp 26) rfl W0.drew.heap.size 0 m.proc rfl rfl HTH.out HI.out (proc_one m) ?_
  refine hK.out _ _ (HTL.out _ HBS.out) (fun hHeld3 => ?_)
  clear hK K hHeld2
  simp only [Act.put, List.setIfInBounds_toArray, List.set_cons_zero, List.set_cons_succ]
  refine wpAnyH_take (i := 11) (oi := { dst := some 5, op := Go.Op.assign (Go.Operand.tmp 28), type := 3, pos := "top03.go:18", after := #[{ on := 5, ground := Go.Ground.data }, { on := 10, ground := Go.Ground.chain }, { on := 0, ground := Go.Ground.phase }, { on := 1, ground := Go.Ground.phase }, { on := 2, ground := Go.Ground.phase }, { on := 3, ground := Go.Ground.phase }, { on := 4, ground := Go.Ground.phase }, { on := 5, ground := Go.Ground.phase }, { on := 6, ground := Go.Ground.textOnly Go.Departure.lateStores }, { on := 7, ground := Go.Ground.textOnly Go.Departure.lateStores }, { on := 8, ground := Go.Ground.phase }, { on := 9, ground := Go.Ground.phase }, { on := 10, ground := Go.Ground.phase }], guard := none }) (v := ?_) rfl (by kernel_rfl) (by kernel_rfl) (by kernel_rfl) (fun _ _ _ h => h) (Or.inl ⟨by rfl, ?_⟩) (by assumption) ?_
  rotate_left
  · intro w hSw
    try dsimp only at hSw
    go_simp
    try with_reducible rfl
  simp only [Act.put, List.setIfInBounds_toArray, List.set_cons_zero, List.set_cons_succ]
  refine wpAnyH_take (i := 12) (oi := { dst := some 6, op := Go.Op.assign (Go.Operand.tmp 30), type := 3, pos := "top03.go:18", after := #[{ on := 7, ground := Go.Ground.data }, { on := 11, ground := Go.Ground.chain }, { on := 0, ground := Go.Ground.phase }, { on := 1, ground := Go.Ground.phase }, { on := 2, ground := Go.Ground.phase }, { on := 3, ground := Go.Ground.phase }, { on := 4, ground := Go.Ground.phase }, { on := 5, ground := Go.Ground.phase }, { on := 6, ground := Go.Ground.phase }, { on := 7, ground := Go.Ground.phase }, { on := 8, ground := Go.Ground.phase }, { on := 9, ground := Go.Ground.phase }, { on := 10, ground := Go.Ground.phase }, { on := 11, ground := Go.Ground.phase }], guard := none }) (v := ?_) rfl (by kernel_rfl) (by kernel_rfl) (by kernel_rfl) (fun _ _ _ h => h) (Or.inl ⟨by rfl, ?_⟩) (by assumption) ?_
  rotate_left
  · intro w hSw
    try dsimp only at hSw
    go_simp
    try with_reducible rfl
  simp only [Act.put, List.setIfInBounds_toArray, List.set_cons_zero, List.set_cons_succ]
  refine wpAnyH_done (by kernel_rfl) ?_ _
  generalize (W0.drew.alloc (.cells zP 26)).setCells W0.drew.heap.size 0 m.proc = y1 at *
  generalize W0.drew.heap.size = g4 at *
  clear HTH HBS HG4 HBX HTL HXB Z4 HB0 HSZ hHeld3
  (try simp only [Exit.inBlock, Exit.then])
  go_wp2_with fail
  refine Calls.mono (word_one y1) ?_
  rintro e y2 ⟨rfl, b2⟩
  go_wp2_with fail
  refine Calls.mono (word_two y2) ?_
  rintro e y3 ⟨rfl, b3⟩
  have HSA : Hid (str [16, 16, 0, 5] ++ str [64, 0, 0, 9] = str [16, 16, 0, 5, 64, 0, 0, 9]) := str_app _ _
  have hs1 : (str [16, 16, 0, 5]).size = 4 := rfl
  have hs2 : (str [64, 0, 0, 9]).size = 4 := rfl
  have D3 := hide (chain (chain D1.out b2) b3)
  have HP3 := hide (HB4.out.below (by have := HZ1.out; omega) (chain b2 b3))
  have L3 : Hid (g4 < y3.heap.size ∧ w.heap.size < g4) := by have h1 := HZ1.out; have h2 := (chain b2 b3).size; have h3 := HLT.out; unfold Hid; omega
  have HMK := hide (make_any (HE.out.below (chain D3.out (new_blw y3 (.cells #[.int .i64 7, .string (str [16, 16, 0, 5, 64, 0, 0, 9])] 55)))) (some ⟨y3.heap.size, 0, none⟩) 1 1 [pn0] (one_plan y3) pn0_all (by decide))
  rw [mk0.1, mk0.2] at HMK
  generalize str [16, 16, 0, 5, 64, 0, 0, 9] = S8 at *
  generalize str [16, 16, 0, 5] = SA at *
  generalize str [64, 0, 0, 9] = SB at *
  clear b2 b3 D1 HB4 HZ1 HLT
  go_wp2_with fail
  rw [HSA.out]
  refine Calls.mono HMK.out ?_
  rintro e y4 ⟨x7, v8, rfl, her, ho7, b4⟩
  have hv8 : v8 = .nilIface := by
    rcases her with ⟨rfl, _⟩ | ⟨h1, _⟩ | ⟨h1, _⟩
    · rfl
    · omega
    · omega
  subst hv8
  obtain ⟨p7, c7, hv7, pg7, _⟩ := ho7.pgs mcf_pg (by decide)
  subst hv7
  have D4 := hide (chain D3.out (chain (new_blw _ _) b4))
  have HP4 := hide (HP3.out.below L3.out.1 (chain (new_blw _ _) b4))
  have L4 : Hid (g4 < y4.heap.size ∧ w.heap.size < g4) := by have h1 := L3.out; have h2 := (chain (new_blw y3 (.cells #[.int .i64 7, .string S8] 55)) b4).size; unfold Hid; omega
  have HR0 : Hid (Calls Tryd.prog 10 #[.slice p7 1 c7, .agg #[.int .u32 0, .int .u32 0, .int .u32 0, .int .u32 0, .int .u32 0, .int .u32 0, .int .u32 0, .int .u32 0, .int .u32 0, .int .u32 0, .int .u32 0, .int .u32 0, .int .u32 0, .int .u32 0, .int .u32 0, .int .u32 0, .int .u32 0, .int .i64 0, .int .i64 0, .int .i64 0, .int .i64 0], .int .i64 10] y4 fun e w' => ∃ v, e = .returned (.tuple #[v, .agg (mcf.run 10).m.proc.toArray, .agg (stopL (mcf.run 10)).toArray]) ∧ POwn w' y4.heap.size v (mcf.run 10).m.pages ∧ (mcf.run 10).m.Ok ∧ Below y4.heap.size y4 w') := by
    have h := run_any p7 1 c7 mcf 10 y4 pg7 mcf_ok A (HV.out.below D4.out) (by decide) (by decide)
    rw [mcf_proc, show (10 : Int).toNat = 10 from rfl] at h
    exact h
  have HSS0 : Hid (stl (stopL (mcf.run 10))) := stl_stop _
  have HS0 : Hid (stopL (mcf.run 10) = [.int .i64 1, .int .i64 2, .int .i64 9]) := by
    obtain ⟨h1, h2, h3, _⟩ := mcf_run
    unfold stopL Hid
    rw [h1, h2, h3]
    rfl
  have HG1 : Hid ((mcf.run 10).m.regs[1]? = some 5) := mcf_run.2.2.2
  generalize mcf.run 10 = R0 at *
  generalize hS0 : stopL R0 = S0 at *
  clear hS0 her ho7 pg7 b4 D3 HP3 L3 HSA hs1 hs2 HMK
  go_upto_region 3 with fail
  go_wp2_with fail
  refine Calls.mono HR0.out ?_
  rintro e w5 ⟨v9, rfl, hoA, okA, bA⟩
  have OK0 := hide okA
  have SA5 := hide bA.size
  clear okA HR0
  obtain ⟨t1A, t2A, ⟨j1A, j2A, j3A, j4A⟩, k1A, k2A, k3A, k4A⟩ := keepR w5 R0.m S0 OK0.out HSS0.out
  have T1A := hide t1A
  have T2A := hide t2A
  have J1A := hide j1A
  have J2A := hide j2A
  have J3A := hide j3A
  have J4A := hide j4A
  have K1A := hide k1A
  have K2A := hide k2A
  have K3A := hide k3A
  have K4A := hide k4A
  have HOA := hide (hoA.below k3A)
  have EA := hide (chain bA k3A)
  clear t1A t2A j1A j2A j3A j4A k1A k2A k3A k4A hoA bA
  go_upto_region 4 with (first | (with_reducible show wpList _ _ _ ({ dst := none, op := Go.Op.store 26 (Go.Operand.tmp 10) (Go.Operand.tmp 45), type := 0, pos := "top03.go:20", after := #[{ on := 7, ground := Go.Ground.data }, { on := 5, ground := Go.Ground.data }, { on := 9, ground := Go.Ground.chain }, { on := 0, ground := Go.Ground.phase }, { on := 1, ground := Go.Ground.phase }, { on := 2, ground := Go.Ground.phase }, { on := 3, ground := Go.Ground.phase }, { on := 4, ground := Go.Ground.phase }, { on := 5, ground := Go.Ground.phase }, { on := 6, ground := Go.Ground.textOnly Go.Departure.lateStores }, { on := 7, ground := Go.Ground.phase }, { on := 8, ground := Go.Ground.phase }, { on := 9, ground := Go.Ground.phase }], guard := none } :: _) _ _; refine wpList_store_mid (op := { dst := none, op := Go.Op.store 26 (Go.Operand.tmp 10) (Go.Operand.tmp 45), type := 0, pos := "top03.go:20", after := #[{ on := 7, ground := Go.Ground.data }, { on := 5, ground := Go.Ground.data }, { on := 9, ground := Go.Ground.chain }, { on := 0, ground := Go.Ground.phase }, { on := 1, ground := Go.Ground.phase }, { on := 2, ground := Go.Ground.phase }, { on := 3, ground := Go.Ground.phase }, { on := 4, ground := Go.Ground.phase }, { on := 5, ground := Go.Ground.phase }, { on := 6, ground := Go.Ground.textOnly Go.Departure.lateStores }, { on := 7, ground := Go.Ground.phase }, { on := 8, ground := Go.Ground.phase }, { on := 9, ground := Go.Ground.phase }], guard := none }) rfl 26 (.tmp 10) (.tmp 45) rfl w5.heap.size 0 R0.m.proc.toArray rfl rfl T1A.out J1A.out J3A.out ?_) | (with_reducible show wpList _ _ _ ({ dst := none, op := Go.Op.store 32 (Go.Operand.tmp 11) (Go.Operand.tmp 46), type := 0, pos := "top03.go:20", after := #[{ on := 8, ground := Go.Ground.data }, { on := 6, ground := Go.Ground.data }, { on := 10, ground := Go.Ground.chain }, { on := 0, ground := Go.Ground.phase }, { on := 1, ground := Go.Ground.phase }, { on := 2, ground := Go.Ground.phase }, { on := 3, ground := Go.Ground.phase }, { on := 4, ground := Go.Ground.phase }, { on := 5, ground := Go.Ground.phase }, { on := 6, ground := Go.Ground.phase }, { on := 7, ground := Go.Ground.phase }, { on := 8, ground := Go.Ground.phase }, { on := 9, ground := Go.Ground.phase }, { on := 10, ground := Go.Ground.phase }], guard := none } :: _) _ _; refine wpList_store_mid (op := { dst := none, op := Go.Op.store 32 (Go.Operand.tmp 11) (Go.Operand.tmp 46), type := 0, pos := "top03.go:20", after := #[{ on := 8, ground := Go.Ground.data }, { on := 6, ground := Go.Ground.data }, { on := 10, ground := Go.Ground.chain }, { on := 0, ground := Go.Ground.phase }, { on := 1, ground := Go.Ground.phase }, { on := 2, ground := Go.Ground.phase }, { on := 3, ground := Go.Ground.phase }, { on := 4, ground := Go.Ground.phase }, { on := 5, ground := Go.Ground.phase }, { on := 6, ground := Go.Ground.phase }, { on := 7, ground := Go.Ground.phase }, { on := 8, ground := Go.Ground.phase }, { on := 9, ground := Go.Ground.phase }, { on := 10, ground := Go.Ground.phase }], guard := none }) rfl 32 (.tmp 11) (.tmp 46) rfl (w5.heap.size + 1) 0 S0.toArray rfl rfl T2A.out J2A.out J4A.out ?_) | fail)
  simp only [Act.put]
  generalize (((w5.alloc (.cells #[.int .u32 0, .int .u32 0, .int .u32 0, .int .u32 0, .int .u32 0, .int .u32 0, .int .u32 0, .int .u32 0, .int .u32 0, .int .u32 0, .int .u32 0, .int .u32 0, .int .u32 0, .int .u32 0, .int .u32 0, .int .u32 0, .int .u32 0, .int .i64 0, .int .i64 0, .int .i64 0, .int .i64 0] 26)).alloc (.cells #[.int .i64 0, .int .i64 0, .int .i64 0] 32)).setCells w5.heap.size 0 R0.m.proc).setCells (w5.heap.size + 1) 0 S0 = y5 at *
  clear T1A T2A J1A J2A J3A J4A K3A
  have D5 := hide (chain D4.out EA.out)
  have HP5 := hide (HP4.out.below L4.out.1 EA.out)
  have L5 : Hid (g4 < w5.heap.size ∧ w5.heap.size + 2 = y5.heap.size ∧ w.heap.size < g4) := by have h1 := L4.out; have h2 := K4A.out; have h3 := SA5.out; unfold Hid; omega
  have c1 : y5.cell? ⟨w5.heap.size, 1, none⟩ = some (.int .u32 5) := K1A.out.cell 1 _ (proc_at1 OK0.out HG1.out)
  have rS : y5.rangeAt (w5.heap.size + 1) 0 S0 := bl_range K2A.out
  have HU32 := hide Tryd.underlying32
  have HI32 : Hid ((Tryd.prog.info? 32).map (·.size) = some S0.length) := by unfold Hid; rw [HSS0.out.1]; exact infoStop
  refine wp_region_list ?_
  refine wpList_tail (pre := [{ dst := some 47, op := Go.Op.move (Go.Operand.tmp 8), type := 39, pos := "top03.go:21", after := #[], guard := none }, { dst := some 48, op := Go.Op.binOp Go.BinOp.neq 39 (Go.Operand.tmp 47) (Go.Operand.const Go.Value.nilIface) 39, type := 4, pos := "top03.go:21", after := #[{ on := 0, ground := Go.Ground.data }], guard := none }, { dst := some 49, op := Go.Op.move (Go.Operand.tmp 48), type := 4, pos := "top03.go:21", after := #[{ on := 1, ground := Go.Ground.data }], guard := none }, { dst := some 50, op := Go.Op.fieldAddr 26 (Go.Operand.tmp 10) 0, type := 0, pos := "top03.go:21", after := #[{ on := 2, ground := Go.Ground.guard }], guard := some (2, false) }, { dst := some 51, op := Go.Op.indexAddr 24 (Go.Operand.tmp 50) (Go.Operand.const (Go.Value.int Go.IntKind.i64 1)), type := 0, pos := "top03.go:21", after := #[{ on := 3, ground := Go.Ground.data }, { on := 2, ground := Go.Ground.guard }], guard := some (2, false) }, { dst := some 52, op := Go.Op.load 23 (Go.Operand.tmp 51), type := 23, pos := "top03.go:21", after := #[{ on := 4, ground := Go.Ground.data }, { on := 2, ground := Go.Ground.guard }], guard := some (2, false) }, { dst := some 53, op := Go.Op.binOp Go.BinOp.neq 23 (Go.Operand.tmp 52) (Go.Operand.const (Go.Value.int Go.IntKind.u32 5)) 23, type := 4, pos := "top03.go:21", after := #[{ on := 5, ground := Go.Ground.data }, { on := 2, ground := Go.Ground.guard }], guard := some (2, false) }, { dst := some 54, op := Go.Op.pick (Go.Operand.tmp 49) (Go.Operand.const (Go.Value.bool true)) (Go.Operand.tmp 53), type := 4, pos := "top03.go:21", after := #[{ on := 2, ground := Go.Ground.data }, { on := 6, ground := Go.Ground.data }], guard := none }, { dst := some 55, op := Go.Op.move (Go.Operand.tmp 54), type := 4, pos := "top03.go:21", after := #[{ on := 7, ground := Go.Ground.data }, { on := 2, ground := Go.Ground.chain }], guard := none }]) _ ?_
  intro tl htl
  have HTL := hide htl
  clear htl
  simp only [List.cons_append, List.nil_append]
  go_wp2_with fail
  have htl := HTL.out
  clear HTL
  subst htl
  refine wpList_load_g (op := { dst := some 56, op := Go.Op.load 32 (Go.Operand.tmp 11), type := 32, pos := "top03.go:21", after := #[{ on := 8, ground := Go.Ground.guard }], guard := some (8, false) }) (by rfl) 32 (.tmp 11) rfl (w5.heap.size + 1) (0) rfl S0 _ rS HU32.out rfl HI32.out ?_
  simp only [Act.put, List.setIfInBounds_toArray, List.set_cons_zero, List.set_cons_succ]
  refine wpList_tail (pre := [{ dst := some 57, op := Go.Op.build 32 #[(0, Go.Operand.const (Go.Value.int Go.IntKind.i64 1)), (1, Go.Operand.const (Go.Value.int Go.IntKind.i64 2)), (2, Go.Operand.const (Go.Value.int Go.IntKind.i64 9))], type := 32, pos := "top03.go:21", after := #[{ on := 8, ground := Go.Ground.guard }], guard := some (8, false) }]) _ ?_
  intro tl htl
  have HTL := hide htl
  clear htl
  simp only [List.cons_append, List.nil_append]
  go_wp2_with fail
  have htl := HTL.out
  clear HTL
  subst htl
  refine wpList_run_g (op := { dst := some 58, op := Go.Op.binOp Go.BinOp.neq 32 (Go.Operand.tmp 56) (Go.Operand.tmp 57) 32, type := 4, pos := "top03.go:21", after := #[{ on := 9, ground := Go.Ground.data }, { on := 10, ground := Go.Ground.data }, { on := 8, ground := Go.Ground.guard }], guard := some (8, false) }) (by rfl) (.bool false) (neq_stop HS0.out _ (.tmp 56) (.tmp 57) rfl (by rw [HS0.out]; rfl) _ _ rfl _) ?_
  simp only [Act.put, List.setIfInBounds_toArray, List.set_cons_zero, List.set_cons_succ]
  go_upto_region 6 with fail
  clear c1 rS HI32 HG1 HS0 HSS0 K2A HOA EA D4 HP4 L4 SA5
  refine wp_region_list ?_
  refine wpList_tail (pre := [{ dst := some 61, op := Go.Op.buildSlice 48 0 #[], type := 48, pos := "top03.go:24", after := #[], guard := none }, { dst := some 62, op := Go.Op.move (Go.Operand.tmp 3), type := 48, pos := "top03.go:24", after := #[], guard := none }]) _ ?_
  intro tl htl
  have HTL := hide htl
  clear htl
  simp only [List.cons_append, List.nil_append]
  go_wp2_with fail
  have htl := HTL.out
  clear HTL
  subst htl
  obtain ⟨i, z, hi, hz, hsz, hby, hzs⟩ := infoPlan
  refine append_rows (o := { dst := some 63, op := Go.Op.call { callee := Go.Callee.builtin Go.Builtin.append, args := #[Go.Operand.tmp 61, Go.Operand.tmp 62], argTypes := #[48, 48] }, type := 48, pos := "top03.go:24", after := #[{ on := 0, ground := Go.Ground.data }, { on := 1, ground := Go.Ground.data }], guard := none }) rfl (.tmp 61) (.tmp 62) 48 rfl 55 i z 2 24 Tryd.underlying48 hi hz hsz hby hzs (by decide) y5.heap.size _ 0 [] rfl (.inl (World.ownsRow_lit y5 #[] 0 (Nat.le_refl _) (by decide) rfl)) a len cap (pl.flatMap Pnv.cells) rfl ((HS.out.below (chain D5.out (new_blw _ _))).row) (pn_one pl) (by unfold maxLen; omega) (by omega) (by simp) ?_
  clear hi hz hsz hby hzs
  intro v6 y6 hr6 b6
  simp only [Act.put, List.setIfInBounds_toArray, List.set_cons_zero, List.set_cons_succ]
  simp only [Nat.zero_add, List.nil_append] at hr6
  obtain ⟨pa, pc, hv6, hrow6⟩ := hr6.row
  subst hv6
  have D6 := hide (chain D5.out (below_of y5 _ b6))
  have HP6 := hide (HP5.out.below (by have := L5.out; omega) (below_of y5 _ b6))
  have K6 := hide (K1A.out.below (by have := L5.out; omega) (below_of y5 _ b6))
  have L6 : Hid (g4 < y6.heap.size ∧ w5.heap.size < y6.heap.size) := by have h1 := L5.out; have h2 := (below_of y5 _ b6).size; unfold Hid; omega
  have HMK := hide (make_any (HE.out.below D6.out) pa len pc pl ⟨HS.out.size, hrow6⟩ HOKP.out (by omega))
  clear hr6 hrow6 b6 D5 HP5
  go_wp2_with fail
  refine Calls.mono HMK.out ?_
  rintro e y7 ⟨xv, ev, rfl, her, hoL, b7⟩
  have D7 := hide (chain D6.out b7)
  have HP7 := hide (HP6.out.below L6.out.1 b7)
  have K7 := hide (K6.out.below L6.out.2 b7)
  have L7 : Hid (g4 < y7.heap.size ∧ w5.heap.size < y7.heap.size ∧ g4 < w5.heap.size ∧ y6.heap.size ≤ y7.heap.size ∧ w.heap.size < g4 ∧ w5.heap.size < y6.heap.size) := by have h1 := L6.out; have h2 := b7.size; have h3 := L5.out; unfold Hid; omega
  clear b7 D6 HP6 K6 HMK
  rcases her with ⟨rfl, h0, _⟩ | ⟨_, _, rfl, _⟩ | ⟨_, _, eb, eo, rfl, _, _⟩
  rotate_left
  · unfold sent
    go_wp2
    go_ret
    exact ⟨rfl, D7.out⟩
  · go_wp2
    go_ret
    exact ⟨rfl, D7.out⟩
  have okL := mkL_ok HOKP.out
  have hnL := mkL_len pl
  generalize mkL pl = L at *
  obtain ⟨xa, xc, hxv, pgL, _⟩ := hoL.pgs okL (by omega)
  obtain ⟨nL, hnL2⟩ : ∃ q, L.length = q := ⟨_, rfl⟩
  rw [hnL2] at hxv pgL hnL
  subst hxv
  have HNL := hide hnL2
  have HOKL := hide okL
  have HPG := hide pgL
  have HOL := hide hoL
  clear okL hnL2 pgL hoL h0
  go_upto_region 9 with fail
  go_wp2_with fail
  refine Calls.mono (clamp_any n _) ?_
  rintro e w' ⟨⟨nn, rfl, hn⟩, hw'⟩
  rw [hw']
  clear hw' w'
  go_wp2_with fail
  refine Calls.mono (clamp_any k _) ?_
  rintro e w' ⟨⟨mm, rfl, hmm⟩, hw'⟩
  rw [hw']
  clear hw' w'
  obtain ⟨M, hM1, hM2, hM3, hM4, hM5⟩ : ∃ M : Mc, M.pages = L ∧ M.proc = m.proc.set 0 (.int .u32 0) ∧ M.Ok ∧ M.zero ∧ (M.st = m.st ∧ M.prio = m.prio ∧ M.wait = m.wait ∧ M.obj = m.obj) := by
    have ok' : ({ m with pages := L } : Mc).Ok := ⟨HOKL.out, by show L.length ≤ _; rw [HNL.out]; omega, OK.out.size, OK.out.small, OK.out.pc⟩
    exact ⟨({ m with pages := L } : Mc).from0, rfl, from0_proc ok', from0_ok ok', from0_zero ok', rfl, rfl, rfl, rfl⟩
  obtain ⟨x0, hx0⟩ : ∃ v, m.proc[0]? = some v := ⟨_, List.getElem?_eq_getElem (by rw [HPL.out]; decide)⟩
  have q0 := HP7.out.cell 0 _ hx0
  have f0 := HP7.out.free 0
  have HP8 : Hid (Bl (y7.setCell ⟨g4, 0, none⟩ (.int .u32 0)) g4 M.proc) := by
    unfold Hid
    rw [hM2]
    exact HP7.out.set (k := 0) (by rw [HPL.out]; decide) (.int .u32 0)
  have HX0 : Hid (∃ r, x0 = .int .u32 r) := proc_at0 OK.out hx0
  obtain ⟨r0, rfl⟩ := HX0.out
  have B8 : Hid (Below g4 y7 (y7.setCell ⟨g4, 0, none⟩ (.int .u32 0))) := (Below.refl g4 y7).setCell (p := ⟨g4, 0, none⟩) (Nat.le_refl _) _
  have K8 : Hid (Bl (y7.setCell ⟨g4, 0, none⟩ (.int .u32 0)) w5.heap.size R0.m.proc) := K7.out.far (by have := L7.out; omega)
  have HOL8 : Hid (POwn (y7.setCell ⟨g4, 0, none⟩ (.int .u32 0)) y6.heap.size (.slice xa nL xc) L) := own_far HOL.out (fun e => by have h1 := (World.ownsRow.lt HOL.out _ e).1; have h2 := L7.out; omega)
  have HPG8 : Hid (Pgs (y7.setCell ⟨g4, 0, none⟩ (.int .u32 0)) xa nL xc L) := by
    obtain ⟨a', c', e', hp', _⟩ := HOL8.out.pgs HOKL.out (by rw [HNL.out]; omega)
    rw [HNL.out] at e' hp'
    simp only [Value.slice.injEq] at e'
    obtain ⟨rfl, _, rfl⟩ := e'
    exact hp'
  have D8 : Hid (Below w.heap.size w (y7.setCell ⟨g4, 0, none⟩ (.int .u32 0))) := D7.out.setCell (p := ⟨g4, 0, none⟩) (by have := L7.out; show w.heap.size ≤ g4; omega) _
  have HZ8 : Hid ((y7.setCell ⟨g4, 0, none⟩ (.int .u32 0)).heap.size = y7.heap.size) := by unfold Hid; simp [World.setCell]
  go_upto_region 12 with fail
  clear q0 f0 hx0 HX0 HP7 K7 D7 HPG
  generalize y7.setCell ⟨g4, 0, none⟩ (.int .u32 0) = y8 at *
  refine wp_region_list ?_
  refine wpList_tail (pre := [{ dst := some 75, op := Go.Op.buildSlice 22 0 #[], type := 22, pos := "top03.go:31", after := #[], guard := none }, { dst := some 76, op := Go.Op.move (Go.Operand.tmp 12), type := 22, pos := "top03.go:31", after := #[], guard := none }]) _ ?_
  intro tl htl
  have HTL := hide htl
  clear htl
  simp only [List.cons_append, List.nil_append]
  go_wp2_with fail
  have htl := HTL.out
  clear HTL
  subst htl
  obtain ⟨i, z, hi, hz, hsz, hby, hzs⟩ := infoPage
  refine append_rows (o := { dst := some 77, op := Go.Op.call { callee := Go.Callee.builtin Go.Builtin.append, args := #[Go.Operand.tmp 75, Go.Operand.tmp 76], argTypes := #[22, 22] }, type := 22, pos := "top03.go:31", after := #[{ on := 0, ground := Go.Ground.data }, { on := 1, ground := Go.Ground.data }], guard := none }) rfl (.tmp 75) (.tmp 76) 22 rfl 47 i z 66 80 Tryd.underlying22 hi hz hsz hby hzs (by decide) y8.heap.size _ 0 [] rfl (.inl (World.ownsRow_lit y8 #[] 0 (Nat.le_refl _) (by decide) rfl)) xa nL xc (flat L) rfl ((pgs_row (HPG8.out.below (new_blw _ _)))) (flat_one L) (by unfold maxLen; omega) (by omega) (by simp) ?_
  clear hi hz hsz hby hzs
  intro v13 y9 hr9 b9
  simp only [Act.put, List.setIfInBounds_toArray, List.set_cons_zero, List.set_cons_succ]
  simp only [Nat.zero_add, List.nil_append] at hr9
  obtain ⟨wa, wq, hv13, hrow9⟩ := hr9.row
  subst hv13
  have X9 := hide (below_of y8 _ b9)
  have HWAS := hide (row_pgs hrow9 HOKL.out HNL.out (by omega))
  have HWB0 := hide (rlk_base hr9)
  have hZ8 := HZ8.out
  have HP9 := hide (HP8.out.below (by have := L7.out; omega) X9.out)
  have K9 := hide (K8.out.below (by have := L7.out; omega) X9.out)
  have HPG9 := hide (HPG8.out.below X9.out)
  have D9 := hide (chain D8.out X9.out)
  have HWB : Hid (∀ b off, wa = some ⟨b, off, none⟩ → 0 < nL → w5.heap.size < b ∧ g4 < b ∧ b < y9.heap.size) := fun b off e h => by
    have h1 := HWB0.out b off e h
    have h2 := L7.out
    have h3 := pgs_lt HWAS.out e h
    have h4 := HZ8.out
    omega
  have L9 : Hid (g4 < y9.heap.size ∧ w5.heap.size < y9.heap.size ∧ g4 < w5.heap.size ∧ w.heap.size < g4) := by have h1 := L7.out; have h2 := X9.out.size; unfold Hid; omega
  have HM := hide (And.intro hM1 (And.intro hM2 (And.intro hM3 (And.intro hM4 hM5))))
  clear hr9 hrow9 b9 X9 HZ8 hZ8 HP8 K8 HPG8 D8 L7 HOL8 HOL B8 hM1 hM2 hM3 hM4 hM5 L6 L5
  have HIM : Hid ((Tryd.prog.info? 26).map (·.size) = some M.proc.length) := by unfold Hid; rw [proc_len HM.out.2.2.1]; exact infoProc
  have HC1 : Hid (∀ w' v, Below y9.drew.heap.size y9.drew w' → POwn w' y9.drew.heap.size v L → Calls Tryd.prog 10 #[v, .agg M.proc.toArray, .int .i64 ((nn : Int) + (mm : Int))] w' fun e w'' => ∃ u, e = .returned (.tuple #[u, .agg (M.run (nn + mm)).m.proc.toArray, .agg (stopL (M.run (nn + mm))).toArray]) ∧ POwn w'' w'.heap.size u (M.run (nn + mm)).m.pages ∧ (M.run (nn + mm)).m.Ok ∧ Below w'.heap.size w' w'') := fun w' v hb ho => by
    obtain ⟨va, vc, hv, hp, _⟩ := ho.pgs HOKL.out (by rw [HNL.out]; omega)
    subst hv
    have hp' : Pgs w' va L.length vc M.pages := by rw [HM.out.1]; exact hp
    have h := run_any va L.length vc M ((nn : Int) + (mm : Int)) w' hp' HM.out.2.2.1 A (HV.out.below (chain D9.out.drew hb)) (by omega) (by omega)
    rw [show ((nn : Int) + (mm : Int)).toNat = nn + mm by omega] at h
    exact h.mono (fun e w'' ⟨u, he, ho, ok, hb⟩ => ⟨u, he, ho, ok, hb⟩)
  have HELD : Hid (Held M (M.run (nn + mm)).m) := run_held HM.out.2.2.1 _
  have HZR : Hid ((M.run (nn + mm)).m.zero) := run_zero HM.out.2.2.1 _
  have HLE : Hid ((M.run (nn + mm)).steps ≤ nn + mm) := by have h2 := Rn.go_le (nn + mm) ⟨M.from0, 0, 0, 0⟩; unfold Hid; show (Rn.go (nn + mm) ⟨M.from0, 0, 0, 0⟩).steps ≤ _; simpa using h2
  have HRE : Hid ((M.run nn).kind ≠ 0 → M.run (nn + mm) = M.run nn) := fun h => run_ended mm h
  have HRS : Hid ((M.run nn).kind = 0 → (M.run nn).steps = nn ∧ M.run (nn + mm) = ⟨((M.run nn).m.run mm).m, ((M.run nn).m.run mm).kind, ((M.run nn).m.run mm).code, ((M.run nn).m.run mm).steps + nn⟩) := fun h => run_split HM.out.2.2.1 mm h
  generalize M.run (nn + mm) = R1 at *
  have HSS1 : Hid (stl (stopL R1)) := stl_stop _
  have hw13 : IntKind.i64.wrap ((nn : Int) + (mm : Int)) = (nn : Int) + (mm : Int) := by rw [IntKind.wrap_i64]; omega
  have HSH : Hid (∀ w', Below y9.drew.heap.size y9.drew w' → w'.rangeAt g4 0 M.proc) := fun w' hb => range_below (bl_range HP9.out.drew) hb
  go_upto_region 13 with fail
  refine wp_region_held_drew (S := fun wz => wz.rangeAt g4 0 M.proc) (by kernel_rfl) (HSH.out _ (Below.refl _ _)) (fun hHeld => ?_)
  refine wpAnyH_take (i := 1) (oi := { dst := some 80, op := Go.Op.move (Go.Operand.tmp 12), type := 22, pos := "top03.go:32", after := #[], guard := none }) (v := ?_) rfl (by kernel_rfl) (by kernel_rfl) (by kernel_rfl) (fun _ _ _ h => h) (Or.inl ⟨by rfl, ?_⟩) (by assumption) ?_
  rotate_left
  · intro w hSw
    try dsimp only at hSw
    go_simp
    try with_reducible rfl
  simp only [Act.put, List.setIfInBounds_toArray, List.set_cons_zero, List.set_cons_succ]
  refine wpAnyH_take (i := 3) (oi := { dst := some 82, op := Go.Op.load 26 (Go.Operand.tmp 4), type := 26, pos := "top03.go:32", after := #[], guard := none }) rfl (by kernel_rfl) (by kernel_rfl) (by kernel_rfl) (fun _ _ _ h => h) (yieldsIf_load_mid (by rfl) _ _ rfl _ _ rfl _ _ (fun wz hz => hz) HU.out rfl HIM.out) (by assumption) ?_
  simp only [Act.put, List.setIfInBounds_toArray, List.set_cons_zero, List.set_cons_succ]
  refine wpAnyH_take (i := 4) (oi := { dst := some 83, op := Go.Op.move (Go.Operand.tmp 5), type := 3, pos := "top03.go:32", after := #[], guard := none }) (v := ?_) rfl (by kernel_rfl) (by kernel_rfl) (by kernel_rfl) (fun _ _ _ h => h) (Or.inl ⟨by rfl, ?_⟩) (by assumption) ?_
  rotate_left
  · intro w hSw
    try dsimp only at hSw
    go_simp
    try with_reducible rfl
  simp only [Act.put, List.setIfInBounds_toArray, List.set_cons_zero, List.set_cons_succ]
  refine wpAnyH_take (i := 5) (oi := { dst := some 84, op := Go.Op.move (Go.Operand.tmp 6), type := 3, pos := "top03.go:32", after := #[], guard := none }) (v := ?_) rfl (by kernel_rfl) (by kernel_rfl) (by kernel_rfl) (fun _ _ _ h => h) (Or.inl ⟨by rfl, ?_⟩) (by assumption) ?_
  rotate_left
  · intro w hSw
    try dsimp only at hSw
    go_simp
    try with_reducible rfl
  simp only [Act.put, List.setIfInBounds_toArray, List.set_cons_zero, List.set_cons_succ]
  refine wpAnyH_take (i := 6) (oi := { dst := some 85, op := Go.Op.binOp Go.BinOp.add 3 (Go.Operand.tmp 83) (Go.Operand.tmp 84) 3, type := 3, pos := "top03.go:32", after := #[{ on := 4, ground := Go.Ground.data }, { on := 5, ground := Go.Ground.data }], guard := none }) (v := ?_) rfl (by kernel_rfl) (by kernel_rfl) (by kernel_rfl) (fun _ _ _ h => h) (Or.inl ⟨by rfl, ?_⟩) (by assumption) ?_
  rotate_left
  · intro w hSw
    try dsimp only at hSw
    go_simp
    try with_reducible rfl
  simp only [Act.put, List.setIfInBounds_toArray, List.set_cons_zero, List.set_cons_succ]
  refine rga (W := y9.drew) xa nL xc L (HPG9.out.below (Below.refl _ _).drew) R1 M.proc.toArray ((nn : Int) + (mm : Int)) (by simp) rfl rfl rfl HC1.out HSH.out (fun _ _ _ _ _ h => h) ?_
  clear hHeld
  intro u79 u81 u86 u78 uw gy gz w10 hoW okW ⟨hgy, hyh⟩ ⟨hgz, hzh⟩ b10 hSw
  simp only [Act.put, List.setIfInBounds_toArray, List.set_cons_zero, List.set_cons_succ]
  have OKW := hide okW
  have hgy' : y9.heap.size ≤ gy := hgy
  have hgz' : y9.heap.size ≤ gz := hgz
  have HYZ : Hid (gy ≠ gz ∧ y9.heap.size ≤ gy ∧ y9.heap.size ≤ gz ∧ uw.ownBlock ≠ some gy ∧ uw.ownBlock ≠ some gz) := ⟨boxes_off hyh hzh (by decide), hgy', hgz', fun e => box_off hoW hyh (by decide) e.symm, fun e => box_off hoW hzh (by decide) e.symm⟩
  have BY := hide (bl_heap hyh)
  have BZ := hide (bl_heap hzh)
  have HP21 : Hid (R1.m.proc.length = 21) := proc_len okW
  have HIR : Hid ((Tryd.prog.info? 26).map (·.size) = some R1.m.proc.length) := by unfold Hid; rw [HP21.out]; exact infoProc
  have HIS : Hid ((Tryd.prog.info? 32).map (·.size) = some (stopL R1).length) := infoStop
  have HTY : Hid (w10.there gy 0 R1.m.proc.length) := by unfold Hid; rw [HP21.out]; exact bl_there BY.out
  have HTZ : Hid ((w10.setCells gy 0 R1.m.proc).there gz 0 (stopL R1).length) := (show (w10.setCells gy 0 R1.m.proc).there gz 0 zS.toList.length from bl_there (BZ.out.farCells (o := 0) (vs := R1.m.proc) HYZ.out.1))
  have HP10 : Hid (Bl w10 g4 M.proc) := HP9.out.drew.below (by have := L9.out; exact this.1) b10
  have HPa := hide (HP10.out.farCells (o := 0) (vs := R1.m.proc) (g' := gy) (by have h1 := HYZ.out; have h2 := L9.out; omega))
  have HPb := hide (HPa.out.farCells (o := 0) (vs := stopL R1) (g' := gz) (by have h1 := HYZ.out; have h2 := L9.out; omega))
  have K10 : Hid (Bl w10 w5.heap.size R0.m.proc) := K9.out.drew.below (by have := L9.out; exact this.2.1) b10
  have Ka := hide (K10.out.farCells (o := 0) (vs := R1.m.proc) (g' := gy) (by have h1 := HYZ.out; have h2 := L9.out; omega))
  have Kb := hide (Ka.out.farCells (o := 0) (vs := stopL R1) (g' := gz) (by have h1 := HYZ.out; have h2 := L9.out; omega))
  have BYa := hide (bl_set (vs := R1.m.proc) BY.out (by rw [HP21.out]; rfl))
  have BYb := hide (BYa.out.farCells (o := 0) (vs := stopL R1) (g' := gz) (by have h1 := HYZ.out; omega))
  have BZb : Hid (Bl ((w10.setCells gy 0 R1.m.proc).setCells gz 0 (stopL R1)) gz (stopL R1)) := bl_set (vs := stopL R1) (BZ.out.farCells (o := 0) (vs := R1.m.proc) HYZ.out.1) rfl
  have OWb := hide (own_farCells HYZ.out.2.2.2.2 (stopL R1) 0 _ (own_farCells HYZ.out.2.2.2.1 R1.m.proc 0 w10 hoW))
  have BLb : Hid (Below y9.heap.size y9 ((w10.setCells gy 0 R1.m.proc).setCells gz 0 (stopL R1))) := below_setCells HYZ.out.2.2.1 (stopL R1) 0 _ (below_setCells HYZ.out.2.1 R1.m.proc 0 w10 (chain (Below.refl _ _).drew b10))
  have LTb : Hid (gy < ((w10.setCells gy 0 R1.m.proc).setCells gz 0 (stopL R1)).heap.size ∧ gz < ((w10.setCells gy 0 R1.m.proc).setCells gz 0 (stopL R1)).heap.size) := by unfold Hid; rw [size_setC, size_setC]; exact ⟨(Array.getElem?_eq_some_iff.1 hyh).1, (Array.getElem?_eq_some_iff.1 hzh).1⟩
  clear hyh hzh hgy hgz hgy' hgz' hoW okW b10 HP10 K10 BY BZ BYa Ka
  refine wpAnyH_take (i := 14) (oi := { dst := some 14, op := Go.Op.assign (Go.Operand.tmp 87), type := 22, pos := "top03.go:32", after := #[{ on := 9, ground := Go.Ground.data }, { on := 7, ground := Go.Ground.chain }, { on := 0, ground := Go.Ground.phase }, { on := 1, ground := Go.Ground.phase }, { on := 2, ground := Go.Ground.phase }, { on := 3, ground := Go.Ground.phase }, { on := 4, ground := Go.Ground.phase }, { on := 5, ground := Go.Ground.phase }, { on := 6, ground := Go.Ground.phase }, { on := 7, ground := Go.Ground.phase }, { on := 8, ground := Go.Ground.phase }, { on := 9, ground := Go.Ground.phase }, { on := 10, ground := Go.Ground.textOnly Go.Departure.lateStores }, { on := 11, ground := Go.Ground.textOnly Go.Departure.lateStores }, { on := 12, ground := Go.Ground.phase }, { on := 13, ground := Go.Ground.phase }], guard := none }) (v := ?_) rfl (by kernel_rfl) (by kernel_rfl) (by kernel_rfl) (fun _ _ _ h => h) (Or.inl ⟨by rfl, ?_⟩) (by assumption) ?_
  rotate_left
  · intro w hSw
    try dsimp only at hSw
    go_simp
    try with_reducible rfl
  simp only [Act.put, List.setIfInBounds_toArray, List.set_cons_zero, List.set_cons_succ]
  refine wpAnyH_ready (rs := [15]) (by kernel_rfl) (by simp) ?_
  refine AllReadyH.cons (o := { dst := none, op := Go.Op.store 26 (Go.Operand.tmp 15) (Go.Operand.tmp 88), type := 0, pos := "top03.go:32", after := #[{ on := 12, ground := Go.Ground.data }, { on := 10, ground := Go.Ground.data }, { on := 14, ground := Go.Ground.chain }, { on := 0, ground := Go.Ground.phase }, { on := 1, ground := Go.Ground.phase }, { on := 2, ground := Go.Ground.phase }, { on := 3, ground := Go.Ground.phase }, { on := 4, ground := Go.Ground.phase }, { on := 5, ground := Go.Ground.phase }, { on := 6, ground := Go.Ground.phase }, { on := 7, ground := Go.Ground.phase }, { on := 8, ground := Go.Ground.phase }, { on := 9, ground := Go.Ground.phase }, { on := 10, ground := Go.Ground.phase }, { on := 11, ground := Go.Ground.textOnly Go.Departure.lateStores }, { on := 12, ground := Go.Ground.phase }, { on := 13, ground := Go.Ground.phase }, { on := 14, ground := Go.Ground.phase }], guard := none }) rfl (fun K hK => ?_) AllReadyH.nil
  refine step_store rfl 26 (.tmp 15) (.tmp 88) rfl gy 0 R1.m.proc rfl rfl HTY.out HIR.out (proc_one R1.m) ?_
  refine hK.out _ _ (bl_range HPa.out) (fun hHeld2 => ?_)
  clear hK K
  simp only [Act.put, List.setIfInBounds_toArray, List.set_cons_zero, List.set_cons_succ]
  refine wpAnyH_ready (rs := [16]) (by kernel_rfl) (by simp) ?_
  refine AllReadyH.cons (o := { dst := none, op := Go.Op.store 32 (Go.Operand.tmp 16) (Go.Operand.tmp 89), type := 0, pos := "top03.go:32", after := #[{ on := 13, ground := Go.Ground.data }, { on := 11, ground := Go.Ground.data }, { on := 15, ground := Go.Ground.chain }, { on := 0, ground := Go.Ground.phase }, { on := 1, ground := Go.Ground.phase }, { on := 2, ground := Go.Ground.phase }, { on := 3, ground := Go.Ground.phase }, { on := 4, ground := Go.Ground.phase }, { on := 5, ground := Go.Ground.phase }, { on := 6, ground := Go.Ground.phase }, { on := 7, ground := Go.Ground.phase }, { on := 8, ground := Go.Ground.phase }, { on := 9, ground := Go.Ground.phase }, { on := 10, ground := Go.Ground.phase }, { on := 11, ground := Go.Ground.phase }, { on := 12, ground := Go.Ground.phase }, { on := 13, ground := Go.Ground.phase }, { on := 14, ground := Go.Ground.phase }, { on := 15, ground := Go.Ground.phase }], guard := none }) rfl (fun K hK => ?_) AllReadyH.nil
  refine step_store rfl 32 (.tmp 16) (.tmp 89) rfl gz 0 (stopL R1) rfl rfl HTZ.out HIS.out (stl_stop R1).2 ?_
  refine hK.out _ _ (bl_range HPb.out) (fun hHeld3 => ?_)
  clear hK K hHeld2
  simp only [Act.put, List.setIfInBounds_toArray, List.set_cons_zero, List.set_cons_succ]
  refine wpAnyH_done (by kernel_rfl) ?_ _
  generalize (w10.setCells gy 0 R1.m.proc).setCells gz 0 (stopL R1) = y10 at *
  clear hHeld3 hSw HTY HTZ HPa HC1 HSH HP9 K9
  (try simp only [Exit.inBlock, Exit.then])
  have L10 : Hid (y9.heap.size ≤ y10.heap.size) := BLb.out.size
  have HPG10 := hide (HPG9.out.below BLb.out)
  have HWAS10 := hide (HWAS.out.below BLb.out)
  have D10 := hide (chain D9.out BLb.out)
  have HC2 : Hid (∀ w' v, Below y10.drew.heap.size y10.drew w' → POwn w' y10.drew.heap.size v L → Calls Tryd.prog 10 #[v, .agg M.proc.toArray, .int .i64 ((nn : Int))] w' fun e w'' => ∃ u, e = .returned (.tuple #[u, .agg (M.run nn).m.proc.toArray, .agg (stopL (M.run nn)).toArray]) ∧ POwn w'' w'.heap.size u (M.run nn).m.pages ∧ (M.run nn).m.Ok ∧ Below w'.heap.size w' w'') := fun w' v hb ho => by
    obtain ⟨va, vc, hv, hp, _⟩ := ho.pgs HOKL.out (by rw [HNL.out]; omega)
    subst hv
    have hp' : Pgs w' va L.length vc M.pages := by rw [HM.out.1]; exact hp
    have h := run_any va L.length vc M ((nn : Int)) w' hp' HM.out.2.2.1 A (HV.out.below (chain D10.out.drew hb)) (by omega) (by omega)
    rw [show ((nn : Int)).toNat = nn by omega] at h
    exact h.mono (fun e w'' ⟨u, he, ho, ok, hb⟩ => ⟨u, he, ho, ok, hb⟩)
  generalize M.run nn = R2 at *
  have HSH2 : Hid (∀ w', Below y10.drew.heap.size y10.drew w' → w'.rangeAt g4 0 M.proc) := fun w' hb => range_below (bl_range HPb.out.drew) hb
  clear HPG9 HWAS D9 hw13
  go_upto_region 14 with fail
  refine wp_region_held_drew (S := fun wz => wz.rangeAt g4 0 M.proc) (by kernel_rfl) (HSH2.out _ (Below.refl _ _)) (fun hHeld => ?_)
  refine wpAnyH_take (i := 1) (oi := { dst := some 92, op := Go.Op.move (Go.Operand.tmp 12), type := 22, pos := "top03.go:33", after := #[], guard := none }) (v := ?_) rfl (by kernel_rfl) (by kernel_rfl) (by kernel_rfl) (fun _ _ _ h => h) (Or.inl ⟨by rfl, ?_⟩) (by assumption) ?_
  rotate_left
  · intro w hSw
    try dsimp only at hSw
    go_simp
    try with_reducible rfl
  simp only [Act.put, List.setIfInBounds_toArray, List.set_cons_zero, List.set_cons_succ]
  refine wpAnyH_take (i := 3) (oi := { dst := some 94, op := Go.Op.load 26 (Go.Operand.tmp 4), type := 26, pos := "top03.go:33", after := #[], guard := none }) rfl (by kernel_rfl) (by kernel_rfl) (by kernel_rfl) (fun _ _ _ h => h) (yieldsIf_load_mid (by rfl) _ _ rfl _ _ rfl _ _ (fun wz hz => hz) HU.out rfl HIM.out) (by assumption) ?_
  simp only [Act.put, List.setIfInBounds_toArray, List.set_cons_zero, List.set_cons_succ]
  refine wpAnyH_take (i := 4) (oi := { dst := some 95, op := Go.Op.move (Go.Operand.tmp 5), type := 3, pos := "top03.go:33", after := #[], guard := none }) (v := ?_) rfl (by kernel_rfl) (by kernel_rfl) (by kernel_rfl) (fun _ _ _ h => h) (Or.inl ⟨by rfl, ?_⟩) (by assumption) ?_
  rotate_left
  · intro w hSw
    try dsimp only at hSw
    go_simp
    try with_reducible rfl
  simp only [Act.put, List.setIfInBounds_toArray, List.set_cons_zero, List.set_cons_succ]
  refine rgb (W := y10.drew) xa nL xc L (HPG10.out.below (Below.refl _ _).drew) R2 M.proc.toArray (nn : Int) (by simp) rfl rfl rfl HC2.out HSH2.out (fun _ _ _ _ _ h => h) ?_
  clear hHeld
  intro u91 u93 u96 u90 uh gt w11 hoH okH ⟨hgt, hth⟩ b11 hSw
  simp only [Act.put, List.setIfInBounds_toArray, List.set_cons_zero, List.set_cons_succ]
  have OKH := hide okH
  have hgt' : y10.heap.size ≤ gt := hgt
  have b11' : Below y10.heap.size y10 w11 := chain (Below.refl _ _).drew b11
  have HGT : Hid (y10.heap.size ≤ gt ∧ uh.ownBlock ≠ some gt ∧ gt < w11.heap.size) := ⟨hgt', fun e => box_off hoH hth (by decide) e.symm, (Array.getElem?_eq_some_iff.1 hth).1⟩
  have WUH := hide (World.ownsRow.lt hoH)
  have WUW := hide (World.ownsRow.lt OWb.out)
  have BT := hide (bl_heap hth)
  have HP22 : Hid (R2.m.proc.length = 21) := proc_len okH
  have HP00 : Hid (R0.m.proc.length = 21) := proc_len OK0.out
  have HIR2 : Hid ((Tryd.prog.info? 26).map (·.size) = some R2.m.proc.length) := by unfold Hid; rw [HP22.out]; exact infoProc
  have HIS2 : Hid ((Tryd.prog.info? 32).map (·.size) = some (stopL R2).length) := infoStop
  have hL9 := L9.out
  have hL10 := L10.out
  have hYZ := HYZ.out
  have hLT := LTb.out
  have K11 : Hid (Bl w11 w5.heap.size R0.m.proc) := Kb.out.below (by omega) b11'
  have HTK : Hid (w11.there w5.heap.size 0 R2.m.proc.length) := by unfold Hid; rw [HP22.out, ← HP00.out]; exact bl_there K11.out
  have HTT : Hid ((w11.setCells w5.heap.size 0 R2.m.proc).there gt 0 (stopL R2).length) := (show (w11.setCells w5.heap.size 0 R2.m.proc).there gt 0 zS.toList.length from bl_there (BT.out.farCells (o := 0) (vs := R2.m.proc) (by omega)))
  have HP11a : Hid (Bl (w11.setCells w5.heap.size 0 R2.m.proc) g4 M.proc) := (HPb.out.below (by omega) b11').farCells (by omega)
  have HPc := hide (HP11a.out.farCells (o := 0) (vs := stopL R2) (g' := gt) (by omega))
  have Kc : Hid (Bl ((w11.setCells w5.heap.size 0 R2.m.proc).setCells gt 0 (stopL R2)) w5.heap.size R2.m.proc) := (bl_set (vs := R2.m.proc) K11.out (by rw [HP00.out, HP22.out])).farCells (by omega)
  have BYc : Hid (Bl ((w11.setCells w5.heap.size 0 R2.m.proc).setCells gt 0 (stopL R2)) gy R1.m.proc) := ((BYb.out.below (by omega) b11').farCells (by omega)).farCells (by omega)
  have BZc : Hid (Bl ((w11.setCells w5.heap.size 0 R2.m.proc).setCells gt 0 (stopL R2)) gz (stopL R1)) := ((BZb.out.below (by omega) b11').farCells (by omega)).farCells (by omega)
  have BTc : Hid (Bl ((w11.setCells w5.heap.size 0 R2.m.proc).setCells gt 0 (stopL R2)) gt (stopL R2)) := bl_set (vs := stopL R2) (BT.out.farCells (o := 0) (vs := R2.m.proc) (by omega)) rfl
  have OWc : Hid (POwn ((w11.setCells w5.heap.size 0 R2.m.proc).setCells gt 0 (stopL R2)) y9.drew.heap.size uw R1.m.pages) := own_farCells (fun e => by have := (WUW.out _ e).2; omega) _ 0 _ (own_farCells (fun e => by have h1 := (WUW.out _ e).1; have h2 : y9.heap.size ≤ w5.heap.size := h1; omega) _ 0 _ (OWb.out.below b11'))
  have OHc : Hid (POwn ((w11.setCells w5.heap.size 0 R2.m.proc).setCells gt 0 (stopL R2)) y10.drew.heap.size uh R2.m.pages) := own_farCells HGT.out.2.1 _ 0 _ (own_farCells (fun e => by have h1 := (WUH.out _ e).1; have h2 : y10.heap.size ≤ w5.heap.size := h1; omega) _ 0 _ hoH)
  have WSc : Hid (Pgs ((w11.setCells w5.heap.size 0 R2.m.proc).setCells gt 0 (stopL R2)) wa nL wq L) := pgs_cells (pgs_cells (HWAS10.out.below b11') (fun b off e h => by have := HWB.out b off e h; omega) 0 _) (fun b off e h => by have := HWB.out b off e h; omega) 0 _
  have Dc : Hid (Below w.heap.size w ((w11.setCells w5.heap.size 0 R2.m.proc).setCells gt 0 (stopL R2))) := below_setCells (by have := D10.out.size; omega) _ 0 _ (below_setCells (by omega) _ 0 _ (chain D10.out b11'))
  have LTc : Hid (gt < ((w11.setCells w5.heap.size 0 R2.m.proc).setCells gt 0 (stopL R2)).heap.size ∧ y10.heap.size ≤ gt ∧ ((w11.setCells w5.heap.size 0 R2.m.proc).setCells gt 0 (stopL R2)).heap.size = w11.heap.size) := by unfold Hid; rw [size_setC, size_setC]; exact ⟨HGT.out.2.2, hgt', rfl⟩
  have HS1 : Hid (w11.rangeAt g4 0 M.proc) := hSw
  clear hth hgt hgt' hoH okH b11 b11' K11 BT Kb HPb BYb BZb OWb hL9 hL10 hYZ hLT HWAS10 HPG10
  refine wpAnyH_take (i := 11) (oi := { dst := some 17, op := Go.Op.assign (Go.Operand.tmp 97), type := 22, pos := "top03.go:33", after := #[{ on := 7, ground := Go.Ground.data }, { on := 5, ground := Go.Ground.chain }, { on := 0, ground := Go.Ground.phase }, { on := 1, ground := Go.Ground.phase }, { on := 2, ground := Go.Ground.phase }, { on := 3, ground := Go.Ground.phase }, { on := 4, ground := Go.Ground.phase }, { on := 5, ground := Go.Ground.phase }, { on := 6, ground := Go.Ground.phase }, { on := 7, ground := Go.Ground.phase }, { on := 8, ground := Go.Ground.textOnly Go.Departure.lateStores }, { on := 9, ground := Go.Ground.textOnly Go.Departure.lateStores }, { on := 10, ground := Go.Ground.phase }], guard := none }) (v := ?_) rfl (by kernel_rfl) (by kernel_rfl) (by kernel_rfl) (fun _ _ _ h => h) (Or.inl ⟨by rfl, ?_⟩) (by assumption) ?_
  rotate_left
  · intro w hSw
    try dsimp only at hSw
    go_simp
    try with_reducible rfl
  simp only [Act.put, List.setIfInBounds_toArray, List.set_cons_zero, List.set_cons_succ]
  refine wpAnyH_ready (rs := [12]) (by kernel_rfl) (by simp) ?_
  refine AllReadyH.cons (o := { dst := none, op := Go.Op.store 26 (Go.Operand.tmp 10) (Go.Operand.tmp 98), type := 0, pos := "top03.go:33", after := #[{ on := 8, ground := Go.Ground.data }, { on := 11, ground := Go.Ground.chain }, { on := 0, ground := Go.Ground.phase }, { on := 1, ground := Go.Ground.phase }, { on := 2, ground := Go.Ground.phase }, { on := 3, ground := Go.Ground.phase }, { on := 4, ground := Go.Ground.phase }, { on := 5, ground := Go.Ground.phase }, { on := 6, ground := Go.Ground.phase }, { on := 7, ground := Go.Ground.phase }, { on := 8, ground := Go.Ground.phase }, { on := 9, ground := Go.Ground.textOnly Go.Departure.lateStores }, { on := 10, ground := Go.Ground.phase }, { on := 11, ground := Go.Ground.phase }], guard := none }) rfl (fun K hK => ?_) AllReadyH.nil
  refine step_store rfl 26 (.tmp 10) (.tmp 98) rfl w5.heap.size 0 R2.m.proc rfl rfl HTK.out HIR2.out (proc_one R2.m) ?_
  refine hK.out _ _ (bl_range HP11a.out) (fun hHeld2 => ?_)
  clear hK K
  simp only [Act.put, List.setIfInBounds_toArray, List.set_cons_zero, List.set_cons_succ]
  refine wpAnyH_ready (rs := [13]) (by kernel_rfl) (by simp) ?_
  refine AllReadyH.cons (o := { dst := none, op := Go.Op.store 32 (Go.Operand.tmp 18) (Go.Operand.tmp 99), type := 0, pos := "top03.go:33", after := #[{ on := 10, ground := Go.Ground.data }, { on := 9, ground := Go.Ground.data }, { on := 12, ground := Go.Ground.chain }, { on := 0, ground := Go.Ground.phase }, { on := 1, ground := Go.Ground.phase }, { on := 2, ground := Go.Ground.phase }, { on := 3, ground := Go.Ground.phase }, { on := 4, ground := Go.Ground.phase }, { on := 5, ground := Go.Ground.phase }, { on := 6, ground := Go.Ground.phase }, { on := 7, ground := Go.Ground.phase }, { on := 8, ground := Go.Ground.phase }, { on := 9, ground := Go.Ground.phase }, { on := 10, ground := Go.Ground.phase }, { on := 11, ground := Go.Ground.phase }, { on := 12, ground := Go.Ground.phase }], guard := none }) rfl (fun K hK => ?_) AllReadyH.nil
  refine step_store rfl 32 (.tmp 18) (.tmp 99) rfl gt 0 (stopL R2) rfl rfl HTT.out HIS2.out (stl_stop R2).2 ?_
  refine hK.out _ _ (bl_range HPc.out) (fun hHeld3 => ?_)
  clear hK K hHeld2
  simp only [Act.put, List.setIfInBounds_toArray, List.set_cons_zero, List.set_cons_succ]
  refine wpAnyH_done (by kernel_rfl) ?_ _
  generalize (w11.setCells w5.heap.size 0 R2.m.proc).setCells gt 0 (stopL R2) = y11 at *
  clear hHeld3 hSw HTK HTT HP11a HC2 HSH2 HS1
  (try simp only [Exit.inBlock, Exit.then])
  have k0 : y11.cell? ⟨gt, 0, none⟩ = some (.int .i64 (R2.kind : Int)) := BTc.out.cell 0 _ rfl
  go_upto_if 102 with fail
  clear k0
  go_cut [17, 19, 20, 21] from 102 to 125 (fun v17 v19 v20 v21 wx => (POwn wx y10.drew.heap.size v17 R1.m.pages ∧ Bl wx w5.heap.size R1.m.proc ∧ Bl wx gt (stopL R1)) ∧ (Bl wx g4 M.proc ∧ Bl wx gy R1.m.proc ∧ Bl wx gz (stopL R1) ∧ POwn wx y9.drew.heap.size uw R1.m.pages ∧ Pgs wx wa nL wq L ∧ Below w.heap.size w wx))
  case first =>
    by_cases hk : R2.kind = 0
    · --
      as_aux_lemma =>
        obtain ⟨hst, hR1⟩ := HRS.out hk
        have hkd : ((R2.kind : Int) == 0) = true := by rw [hk]; rfl
        have k1 : y11.cell? ⟨gt, 1, none⟩ = some (.int .i64 (nn : Int)) := by
          have := BTc.out.cell 1 _ rfl
          rw [hst] at this
          exact this
        obtain ⟨ha, hq, hv, hpH, _⟩ := OHc.out.pgs OKH.out.ok OKH.out.most
        subst hv
        have HRUN : Hid (Calls Tryd.prog 10 #[.slice ha R2.m.pages.length hq, .agg R2.m.proc.toArray, .int .i64 (mm : Int)] y11 fun e w' => ∃ v, e = .returned (.tuple #[v, .agg (R2.m.run mm).m.proc.toArray, .agg (stopL (R2.m.run mm)).toArray]) ∧ POwn w' y11.heap.size v (R2.m.run mm).m.pages ∧ (R2.m.run mm).m.Ok ∧ Below y11.heap.size y11 w') := by
          have h := run_any ha _ hq R2.m (mm : Int) y11 hpH OKH.out A (HV.out.below Dc.out) (by omega) (by omega)
          rw [Int.toNat_natCast] at h
          exact h
        have HSS3 : Hid (stl (stopL (R2.m.run mm))) := stl_stop _
        have HS3 : Hid (stopL (R2.m.run mm) = [.int .i64 ((R2.m.run mm).kind : Int), .int .i64 ((R2.m.run mm).steps : Int), .int .i64 (R2.m.run mm).code]) := rfl
        have hsl : (R2.m.run mm).steps ≤ mm := by have h2 := Rn.go_le mm ⟨R2.m.from0, 0, 0, 0⟩; show (Rn.go mm ⟨R2.m.from0, 0, 0, 0⟩).steps ≤ _; simpa using h2
        have HR1 := hide hR1
        generalize (R2.m.run mm) = R3 at *
        generalize hS3 : stopL R3 = S3 at *
        have r4 : y11.rangeAt w5.heap.size 0 R2.m.proc := bl_range Kc.out
        have HI2 : Hid ((Tryd.prog.info? 26).map (·.size) = some R2.m.proc.length) := by unfold Hid; rw [HP22.out]; exact infoProc
        clear hS3 hst hR1 hpH hk
        go_upto_region 18 with fail
        clear k1
        go_wp2_with (first | (with_reducible show wpList _ _ _ ({ dst := some 109, op := Go.Op.load 26 (Go.Operand.tmp 10), type := 26, pos := "top03.go:38", after := #[], guard := none } :: _) _ _; refine wpList_load_mid (op := { dst := some 109, op := Go.Op.load 26 (Go.Operand.tmp 10), type := 26, pos := "top03.go:38", after := #[], guard := none }) rfl 26 (.tmp 10) rfl w5.heap.size 0 rfl R2.m.proc _ r4 HU.out rfl HI2.out ?_) | fail)
        refine Calls.mono HRUN.out ?_
        rintro e w12 ⟨v19, rfl, hoR, okR, bR⟩
        have OKR := hide okR
        have SR := hide bR.size
        clear okR HRUN r4
        obtain ⟨t1R, t2R, ⟨j1R, j2R, j3R, j4R⟩, k1R, k2R, k3R, k4R⟩ := keepR w12 R3.m S3 OKR.out HSS3.out
        have T1R := hide t1R
        have T2R := hide t2R
        have J1R := hide j1R
        have J2R := hide j2R
        have J3R := hide j3R
        have J4R := hide j4R
        have K1R := hide k1R
        have K2R := hide k2R
        have K3R := hide k3R
        have K4R := hide k4R
        have HOR := hide (hoR.below k3R)
        have ER := hide (chain bR k3R)
        clear t1R t2R j1R j2R j3R j4R k1R k2R k3R k4R hoR bR
        go_upto_region 19 with (first | (with_reducible show wpList _ _ _ ({ dst := none, op := Go.Op.store 26 (Go.Operand.tmp 20) (Go.Operand.tmp 113), type := 0, pos := "top03.go:38", after := #[{ on := 8, ground := Go.Ground.data }, { on := 6, ground := Go.Ground.data }, { on := 10, ground := Go.Ground.chain }, { on := 0, ground := Go.Ground.phase }, { on := 1, ground := Go.Ground.phase }, { on := 2, ground := Go.Ground.phase }, { on := 3, ground := Go.Ground.phase }, { on := 4, ground := Go.Ground.phase }, { on := 5, ground := Go.Ground.phase }, { on := 6, ground := Go.Ground.phase }, { on := 7, ground := Go.Ground.textOnly Go.Departure.lateStores }, { on := 8, ground := Go.Ground.phase }, { on := 9, ground := Go.Ground.phase }, { on := 10, ground := Go.Ground.phase }], guard := none } :: _) _ _; refine wpList_store_mid (op := { dst := none, op := Go.Op.store 26 (Go.Operand.tmp 20) (Go.Operand.tmp 113), type := 0, pos := "top03.go:38", after := #[{ on := 8, ground := Go.Ground.data }, { on := 6, ground := Go.Ground.data }, { on := 10, ground := Go.Ground.chain }, { on := 0, ground := Go.Ground.phase }, { on := 1, ground := Go.Ground.phase }, { on := 2, ground := Go.Ground.phase }, { on := 3, ground := Go.Ground.phase }, { on := 4, ground := Go.Ground.phase }, { on := 5, ground := Go.Ground.phase }, { on := 6, ground := Go.Ground.phase }, { on := 7, ground := Go.Ground.textOnly Go.Departure.lateStores }, { on := 8, ground := Go.Ground.phase }, { on := 9, ground := Go.Ground.phase }, { on := 10, ground := Go.Ground.phase }], guard := none }) rfl 26 (.tmp 20) (.tmp 113) rfl w12.heap.size 0 R3.m.proc.toArray rfl rfl T1R.out J1R.out J3R.out ?_) | (with_reducible show wpList _ _ _ ({ dst := none, op := Go.Op.store 32 (Go.Operand.tmp 21) (Go.Operand.tmp 114), type := 0, pos := "top03.go:38", after := #[{ on := 9, ground := Go.Ground.data }, { on := 7, ground := Go.Ground.data }, { on := 11, ground := Go.Ground.chain }, { on := 0, ground := Go.Ground.phase }, { on := 1, ground := Go.Ground.phase }, { on := 2, ground := Go.Ground.phase }, { on := 3, ground := Go.Ground.phase }, { on := 4, ground := Go.Ground.phase }, { on := 5, ground := Go.Ground.phase }, { on := 6, ground := Go.Ground.phase }, { on := 7, ground := Go.Ground.phase }, { on := 8, ground := Go.Ground.phase }, { on := 9, ground := Go.Ground.phase }, { on := 10, ground := Go.Ground.phase }, { on := 11, ground := Go.Ground.phase }], guard := none } :: _) _ _; refine wpList_store_mid (op := { dst := none, op := Go.Op.store 32 (Go.Operand.tmp 21) (Go.Operand.tmp 114), type := 0, pos := "top03.go:38", after := #[{ on := 9, ground := Go.Ground.data }, { on := 7, ground := Go.Ground.data }, { on := 11, ground := Go.Ground.chain }, { on := 0, ground := Go.Ground.phase }, { on := 1, ground := Go.Ground.phase }, { on := 2, ground := Go.Ground.phase }, { on := 3, ground := Go.Ground.phase }, { on := 4, ground := Go.Ground.phase }, { on := 5, ground := Go.Ground.phase }, { on := 6, ground := Go.Ground.phase }, { on := 7, ground := Go.Ground.phase }, { on := 8, ground := Go.Ground.phase }, { on := 9, ground := Go.Ground.phase }, { on := 10, ground := Go.Ground.phase }, { on := 11, ground := Go.Ground.phase }], guard := none }) rfl 32 (.tmp 21) (.tmp 114) rfl (w12.heap.size + 1) 0 S3.toArray rfl rfl T2R.out J2R.out J4R.out ?_) | fail)
        simp only [Act.put]
        generalize (((w12.alloc (.cells #[.int .u32 0, .int .u32 0, .int .u32 0, .int .u32 0, .int .u32 0, .int .u32 0, .int .u32 0, .int .u32 0, .int .u32 0, .int .u32 0, .int .u32 0, .int .u32 0, .int .u32 0, .int .u32 0, .int .u32 0, .int .u32 0, .int .u32 0, .int .i64 0, .int .i64 0, .int .i64 0, .int .i64 0] 26)).alloc (.cells #[.int .i64 0, .int .i64 0, .int .i64 0] 32)).setCells w12.heap.size 0 R3.m.proc).setCells (w12.heap.size + 1) 0 S3 = y12 at *
        clear T1R T2R J1R J2R J3R J4R K3R
        go_upto_region 20 with fail
        have hlt := LTc.out
        have hl9 := L9.out
        have hl10 := L10.out
        have hyz := HYZ.out
        have hltb := LTb.out
        have hk4 := K4R.out
        have hsr := SR.out
        have rR : y12.rangeAt w12.heap.size 0 R3.m.proc := bl_range K1R.out
        have HP33 : Hid (R3.m.proc.length = 21) := proc_len OKR.out
        have HIR3 : Hid ((Tryd.prog.info? 26).map (·.size) = some R3.m.proc.length) := by unfold Hid; rw [HP33.out]; exact infoProc
        have HIR3a : Hid ((Tryd.prog.info? 26).map (·.size) = some R3.m.proc.toArray.size) := by unfold Hid; rw [List.size_toArray]; exact HIR3.out
        have HOR3 : Hid (R3.m.proc.toArray.all (·.oneCell') = true) := all_oneCell_toArray (proc_one R3.m)
        have K12 : Hid (Bl y12 w5.heap.size R2.m.proc) := Kc.out.below (by omega) ER.out
        have h33 : R3.m.proc.toArray.size = 21 := by rw [List.size_toArray]; exact HP33.out
        have HTK2 : Hid (y12.there w5.heap.size 0 R3.m.proc.toArray.size) := by unfold Hid; rw [h33, ← HP22.out]; exact bl_there K12.out
        have HO3 : Hid ((#[.int .i64 (R3.kind : Int), .int .i64 ((nn : Int) + (R3.steps : Int)), .int .i64 R3.code] : Array Value).all (·.oneCell') = true) := all_oneCell_toArray (cs := [.int .i64 (R3.kind : Int), .int .i64 ((nn : Int) + (R3.steps : Int)), .int .i64 R3.code]) (fun u hu => by
          simp only [List.mem_cons, List.not_mem_nil, or_false] at hu
          rcases hu with rfl | rfl | rfl <;> rfl)
        clear h33
        have T12 : Hid (Bl y12 gt (stopL R2)) := BTc.out.below (by omega) ER.out
        have HTS2 : Hid ((y12.setCells w5.heap.size 0 R3.m.proc).there gt 0 3) := bl_there (cs := stopL R2) (T12.out.farCells (by omega))
        have S12 : Hid (Bl (y12.setCells w5.heap.size 0 R3.m.proc) (w12.heap.size + 1) S3) := K2R.out.farCells (by omega)
        refine wp_region_list ?_
        refine wpList_load_g (op := { dst := some 116, op := Go.Op.load 26 (Go.Operand.tmp 20), type := 26, pos := "top03.go:40", after := #[], guard := none }) (by rfl) 26 (.tmp 20) rfl w12.heap.size (0) rfl R3.m.proc _ rR HU.out rfl HIR3.out ?_
        simp only [Act.put, List.setIfInBounds_toArray, List.set_cons_zero, List.set_cons_succ]
        refine wpList_store_mid (op := { dst := none, op := Go.Op.store 26 (Go.Operand.tmp 10) (Go.Operand.tmp 116), type := 0, pos := "top03.go:40", after := #[{ on := 0, ground := Go.Ground.data }, { on := 0, ground := Go.Ground.phase }], guard := none }) rfl 26 (.tmp 10) (.tmp 116) rfl w5.heap.size 0 R3.m.proc.toArray rfl rfl HTK2.out HIR3a.out HOR3.out ?_
        simp only [Act.put, List.setIfInBounds_toArray, List.set_cons_zero, List.set_cons_succ]
        go_upto_region 21 with fail
        have s0 : (y12.setCells w5.heap.size 0 R3.m.proc).cell? ⟨w12.heap.size + 1, 0, none⟩ = some (.int .i64 (R3.kind : Int)) := S12.out.cell 0 _ (by rw [HS3.out]; rfl)
        have s1 : (y12.setCells w5.heap.size 0 R3.m.proc).cell? ⟨w12.heap.size + 1, 1, none⟩ = some (.int .i64 (R3.steps : Int)) := S12.out.cell 1 _ (by rw [HS3.out]; rfl)
        have s2 : (y12.setCells w5.heap.size 0 R3.m.proc).cell? ⟨w12.heap.size + 1, 2, none⟩ = some (.int .i64 R3.code) := S12.out.cell 2 _ (by rw [HS3.out]; rfl)
        have hw21 : IntKind.i64.wrap ((nn : Int) + (R3.steps : Int)) = (nn : Int) + (R3.steps : Int) := by rw [IntKind.wrap_i64]; omega
        have EQ1 : Hid ([.int .i64 (R3.kind : Int), .int .i64 ((nn : Int) + (R3.steps : Int)), .int .i64 R3.code] = stopL R1 ∧ R3.m = R1.m) := by
          rw [HR1.out]
          refine ⟨?_, rfl⟩
          unfold stopL
          rw [show ((nn : Int) + (R3.steps : Int)) = ((R3.steps + nn : Nat) : Int) by omega]
        have F1 : Hid (Bl ((y12.setCells w5.heap.size 0 R3.m.proc).setCells gt 0 [.int .i64 (R3.kind : Int), .int .i64 ((nn : Int) + (R3.steps : Int)), .int .i64 R3.code]) w5.heap.size R3.m.proc) := (bl_set (vs := R3.m.proc) K12.out (by rw [HP22.out, HP33.out])).farCells (by omega)
        have F2 : Hid (Bl ((y12.setCells w5.heap.size 0 R3.m.proc).setCells gt 0 [.int .i64 (R3.kind : Int), .int .i64 ((nn : Int) + (R3.steps : Int)), .int .i64 R3.code]) gt [.int .i64 (R3.kind : Int), .int .i64 ((nn : Int) + (R3.steps : Int)), .int .i64 R3.code]) := bl_set (vs := [.int .i64 (R3.kind : Int), .int .i64 ((nn : Int) + (R3.steps : Int)), .int .i64 R3.code]) (cs := stopL R2) (T12.out.farCells (by omega)) rfl
        have F3 : Hid (Bl ((y12.setCells w5.heap.size 0 R3.m.proc).setCells gt 0 [.int .i64 (R3.kind : Int), .int .i64 ((nn : Int) + (R3.steps : Int)), .int .i64 R3.code]) g4 M.proc) := ((HPc.out.below (by omega) ER.out).farCells (by omega)).farCells (by omega)
        have F4 : Hid (Bl ((y12.setCells w5.heap.size 0 R3.m.proc).setCells gt 0 [.int .i64 (R3.kind : Int), .int .i64 ((nn : Int) + (R3.steps : Int)), .int .i64 R3.code]) gy R1.m.proc) := ((BYc.out.below (by omega) ER.out).farCells (by omega)).farCells (by omega)
        have F5 : Hid (Bl ((y12.setCells w5.heap.size 0 R3.m.proc).setCells gt 0 [.int .i64 (R3.kind : Int), .int .i64 ((nn : Int) + (R3.steps : Int)), .int .i64 R3.code]) gz (stopL R1)) := ((BZc.out.below (by omega) ER.out).farCells (by omega)).farCells (by omega)
        have F6 : Hid (POwn ((y12.setCells w5.heap.size 0 R3.m.proc).setCells gt 0 [.int .i64 (R3.kind : Int), .int .i64 ((nn : Int) + (R3.steps : Int)), .int .i64 R3.code]) y9.drew.heap.size uw R1.m.pages) := own_farCells (fun e => by have := (WUW.out _ e).2; omega) _ 0 _ (own_farCells (fun e => by have h1 := (WUW.out _ e).1; have h2 : y9.heap.size ≤ w5.heap.size := h1; omega) _ 0 _ (OWc.out.below ER.out))
        have F7 : Hid (Pgs ((y12.setCells w5.heap.size 0 R3.m.proc).setCells gt 0 [.int .i64 (R3.kind : Int), .int .i64 ((nn : Int) + (R3.steps : Int)), .int .i64 R3.code]) wa nL wq L) := pgs_cells (pgs_cells (WSc.out.below ER.out) (fun b off e h => by have := HWB.out b off e h; omega) 0 _) (fun b off e h => by have := HWB.out b off e h; omega) 0 _
        have F8 : Hid (Below w.heap.size w ((y12.setCells w5.heap.size 0 R3.m.proc).setCells gt 0 [.int .i64 (R3.kind : Int), .int .i64 ((nn : Int) + (R3.steps : Int)), .int .i64 R3.code])) := below_setCells (by have := D10.out.size; omega) _ 0 _ (below_setCells (by omega) _ 0 _ (chain Dc.out ER.out))
        have F9 : Hid (POwn ((y12.setCells w5.heap.size 0 R3.m.proc).setCells gt 0 [.int .i64 (R3.kind : Int), .int .i64 ((nn : Int) + (R3.steps : Int)), .int .i64 R3.code]) y10.drew.heap.size v19 R3.m.pages) := by
          have h0 : y10.drew.heap.size ≤ y11.heap.size := by show y10.heap.size ≤ y11.heap.size; omega
          exact own_farCells (fun e => by have := (World.ownsRow.lt HOR.out _ e).1; omega) _ 0 _ (own_farCells (fun e => by have := (World.ownsRow.lt HOR.out _ e).1; omega) _ 0 _ (HOR.out.weaken h0))
        clear hlt hl9 hl10 hyz hltb hk4 hsr rR
        refine wp_region_list ?_
        refine wpList_tail (pre := [{ dst := some 117, op := Go.Op.fieldAddr 32 (Go.Operand.tmp 21) 0, type := 0, pos := "top03.go:41", after := #[], guard := none }, { dst := some 118, op := Go.Op.load 3 (Go.Operand.tmp 117), type := 3, pos := "top03.go:41", after := #[{ on := 0, ground := Go.Ground.data }], guard := none }, { dst := some 119, op := Go.Op.move (Go.Operand.tmp 5), type := 3, pos := "top03.go:41", after := #[], guard := none }, { dst := some 120, op := Go.Op.fieldAddr 32 (Go.Operand.tmp 21) 1, type := 0, pos := "top03.go:41", after := #[], guard := none }, { dst := some 121, op := Go.Op.load 3 (Go.Operand.tmp 120), type := 3, pos := "top03.go:41", after := #[{ on := 3, ground := Go.Ground.data }], guard := none }, { dst := some 122, op := Go.Op.binOp Go.BinOp.add 3 (Go.Operand.tmp 119) (Go.Operand.tmp 121) 3, type := 3, pos := "top03.go:41", after := #[{ on := 2, ground := Go.Ground.data }, { on := 4, ground := Go.Ground.data }], guard := none }, { dst := some 123, op := Go.Op.fieldAddr 32 (Go.Operand.tmp 21) 2, type := 0, pos := "top03.go:41", after := #[], guard := none }, { dst := some 124, op := Go.Op.load 3 (Go.Operand.tmp 123), type := 3, pos := "top03.go:41", after := #[{ on := 6, ground := Go.Ground.data }], guard := none }, { dst := some 125, op := Go.Op.build 32 #[(0, Go.Operand.tmp 118), (1, Go.Operand.tmp 122), (2, Go.Operand.tmp 124)], type := 32, pos := "top03.go:41", after := #[{ on := 1, ground := Go.Ground.data }, { on := 5, ground := Go.Ground.data }, { on := 7, ground := Go.Ground.data }], guard := none }]) _ ?_
        intro tl htl
        have HTL := hide htl
        clear htl
        simp only [List.cons_append, List.nil_append]
        go_wp2_with fail
        have htl := HTL.out
        clear HTL
        subst htl
        refine wpList_store_mid (op := { dst := none, op := Go.Op.store 32 (Go.Operand.tmp 18) (Go.Operand.tmp 125), type := 0, pos := "top03.go:41", after := #[{ on := 8, ground := Go.Ground.data }, { on := 0, ground := Go.Ground.phase }, { on := 1, ground := Go.Ground.phase }, { on := 2, ground := Go.Ground.phase }, { on := 3, ground := Go.Ground.phase }, { on := 4, ground := Go.Ground.phase }, { on := 5, ground := Go.Ground.phase }, { on := 6, ground := Go.Ground.phase }, { on := 7, ground := Go.Ground.phase }, { on := 8, ground := Go.Ground.phase }], guard := none }) rfl 32 (.tmp 18) (.tmp 125) rfl gt 0 #[.int .i64 (R3.kind : Int), .int .i64 ((nn : Int) + (R3.steps : Int)), .int .i64 R3.code] rfl rfl HTS2.out infoStop HO3.out ?_
        simp only [Act.put, List.setIfInBounds_toArray, List.set_cons_zero, List.set_cons_succ]
        go_wp2
        go_meet
        case rel =>
          have e1 := EQ1.out.1
          have e2 := EQ1.out.2
          refine ⟨⟨?_, ?_, ?_⟩, F3.out, F4.out, F5.out, F6.out, F7.out, F8.out⟩
          · rw [← e2]; exact F9.out
          · rw [← e2]; exact F1.out
          · have := F2.out
            rw [e1] at this
            rw [← e1]
            exact F2.out
    · --
      as_aux_lemma =>
        have hkd : ((R2.kind : Int) == 0) = false := by rw [beq_eq_false_iff_ne]; omega
        have hR := HRE.out hk
        subst hR
        go_wp2
        go_meet
        case rel => exact ⟨⟨OHc.out, Kc.out, BTc.out⟩, HPc.out, BYc.out, BZc.out, OWc.out, WSc.out, Dc.out⟩
  case rest =>
    obtain ⟨⟨hH, hK, hT⟩, hP, hY, hZ, hW, hWS, hD⟩ := hcut
    have HNR : Hid (R1.m.pages.length = nL) := by unfold Hid; rw [HELD.out.pages.size, HM.out.1]; exact HNL.out
    obtain ⟨ba, bc, hv1, pgW, _⟩ := hW.pgs OKW.out.ok OKW.out.most
    obtain ⟨ca, cc, hv2, pgH, _⟩ := hH.pgs OKW.out.ok OKW.out.most
    rw [HNR.out] at hv1 hv2 pgW pgH
    subst hv1 hv2
    have HSM := hide (samePages_any ba nL bc R1.m.pages ca cc wc pgW pgH)
    have HK := hide hK
    have HT := hide hT
    have HPz := hide hP
    have HY := hide hY
    have HZz := hide hZ
    have PW := hide pgW
    have WS := hide hWS
    have HD := hide hD
    clear hH hK hT hP hY hZ hW hWS hD pgW pgH
    clear OHc Kc BTc HPc BYc BZc OWc WSc Dc LTc HRE HRS K4A K1A
    go_upto_region 22 with fail
    refine wp_region_list ?_
    refine wpList_tail (pre := [{ dst := some 126, op := Go.Op.move (Go.Operand.tmp 14), type := 22, pos := "top03.go:43", after := #[], guard := none }, { dst := some 127, op := Go.Op.move (Go.Operand.tmp 17), type := 22, pos := "top03.go:43", after := #[], guard := none }, { dst := some 128, op := Go.Op.call { callee := Go.Callee.value (Go.Operand.func 18), args := #[Go.Operand.tmp 126, Go.Operand.tmp 127], argTypes := #[22, 22] }, type := 4, pos := "top03.go:43", after := #[{ on := 0, ground := Go.Ground.data }, { on := 1, ground := Go.Ground.data }], guard := none }, { dst := some 129, op := Go.Op.unOp Go.UnOp.not 4 (Go.Operand.tmp 128), type := 4, pos := "top03.go:43", after := #[{ on := 2, ground := Go.Ground.data }], guard := none }, { dst := some 130, op := Go.Op.move (Go.Operand.tmp 129), type := 4, pos := "top03.go:43", after := #[{ on := 3, ground := Go.Ground.data }, { on := 2, ground := Go.Ground.chain }], guard := none }]) _ ?_
    intro tl htl
    have HTL := hide htl
    clear htl
    simp only [List.cons_append, List.nil_append]
    go_wp2_with fail
    refine Calls.mono HSM.out ?_
    rintro e y20 ⟨rfl, b20⟩
    have HP21' := HP21.out
    have HK2 := hide (bl_blw HK.out (by rw [HP21']; decide) b20)
    have HT2 := hide (bl_blw HT.out (by show 0 < 3; decide) b20)
    have HP2 := hide (bl_blw HPz.out (by rw [proc_len HM.out.2.2.1]; decide) b20)
    have HY2 := hide (bl_blw HY.out (by rw [HP21']; decide) b20)
    have HZ2 := hide (bl_blw HZz.out (by show 0 < 3; decide) b20)
    have PW2 := hide (PW.out.below b20)
    have WS2 := hide (WS.out.below b20)
    have DD2 := hide (chain HD.out b20)
    clear b20 HK HT HPz HY HZz PW WS HD HSM HP21'
    have HU32' := hide Tryd.underlying32
    have HS1 : Hid (stopL R1 = [.int .i64 (R1.kind : Int), .int .i64 (R1.steps : Int), .int .i64 R1.code]) := rfl
    have c0 : y20.cell? ⟨gy, 0, none⟩ = some (.int .u32 0) := HY2.out.cell 0 _ (proc_lo R1.m HZR.out)
    have s1 : y20.cell? ⟨gz, 1, none⟩ = some (.int .i64 (R1.steps : Int)) := HZ2.out.cell 1 _ rfl
    have HQ := hide (And.intro (bl_range HY2.out) (And.intro (bl_range HK2.out) (And.intro (bl_range HZ2.out) (bl_range HT2.out))))
    generalize hS1 : stopL R1 = S1 at *
    have HIS1 : Hid ((Tryd.prog.info? 32).map (·.size) = some S1.length) := by unfold Hid; rw [HSS1.out.1]; exact infoStop
    have hw22 : IntKind.i64.wrap ((nn : Int) + (mm : Int)) = (nn : Int) + (mm : Int) := by rw [IntKind.wrap_i64]; omega
    have hle : decide ((nn : Int) + (mm : Int) < (R1.steps : Int)) = false := decide_eq_false (by have := HLE.out; omega)
    clear hS1
    go_wp2_with fail
    have htl := HTL.out
    clear HTL
    subst htl
    refine wpList_load_g (op := { dst := some 131, op := Go.Op.load 26 (Go.Operand.tmp 15), type := 26, pos := "top03.go:43", after := #[{ on := 4, ground := Go.Ground.guard }], guard := some (4, false) }) (by rfl) 26 (.tmp 15) rfl gy (0) rfl R1.m.proc _ HQ.out.1 HU.out rfl HIR.out ?_
    simp only [Act.put, List.setIfInBounds_toArray, List.set_cons_zero, List.set_cons_succ]
    refine wpList_load_g (op := { dst := some 132, op := Go.Op.load 26 (Go.Operand.tmp 10), type := 26, pos := "top03.go:43", after := #[{ on := 4, ground := Go.Ground.guard }], guard := some (4, false) }) (by rfl) 26 (.tmp 10) rfl w5.heap.size (0) rfl R1.m.proc _ HQ.out.2.1 HU.out rfl HIR.out ?_
    simp only [Act.put, List.setIfInBounds_toArray, List.set_cons_zero, List.set_cons_succ]
    refine wpList_run_g (op := { dst := some 133, op := Go.Op.binOp Go.BinOp.neq 26 (Go.Operand.tmp 131) (Go.Operand.tmp 132) 26, type := 4, pos := "top03.go:43", after := #[{ on := 5, ground := Go.Ground.data }, { on := 6, ground := Go.Ground.data }, { on := 4, ground := Go.Ground.guard }], guard := some (4, false) }) (by rfl) (.bool false) (neq_proc OKW.out _ (.tmp 131) (.tmp 132) rfl rfl _ _ rfl _) ?_
    simp only [Act.put, List.setIfInBounds_toArray, List.set_cons_zero, List.set_cons_succ]
    refine wpList_tail (pre := [{ dst := some 134, op := Go.Op.pick (Go.Operand.tmp 130) (Go.Operand.const (Go.Value.bool true)) (Go.Operand.tmp 133), type := 4, pos := "top03.go:43", after := #[{ on := 4, ground := Go.Ground.data }, { on := 7, ground := Go.Ground.data }], guard := none }, { dst := some 135, op := Go.Op.move (Go.Operand.tmp 134), type := 4, pos := "top03.go:43", after := #[{ on := 8, ground := Go.Ground.data }, { on := 4, ground := Go.Ground.chain }], guard := none }]) _ ?_
    intro tl htl
    have HTL := hide htl
    clear htl
    simp only [List.cons_append, List.nil_append]
    go_wp2_with fail
    have htl := HTL.out
    clear HTL
    subst htl
    refine wpList_load_g (op := { dst := some 136, op := Go.Op.load 32 (Go.Operand.tmp 16), type := 32, pos := "top03.go:43", after := #[{ on := 9, ground := Go.Ground.guard }], guard := some (9, false) }) (by rfl) 32 (.tmp 16) rfl gz (0) rfl S1 _ HQ.out.2.2.1 HU32.out rfl HIS1.out ?_
    simp only [Act.put, List.setIfInBounds_toArray, List.set_cons_zero, List.set_cons_succ]
    refine wpList_load_g (op := { dst := some 137, op := Go.Op.load 32 (Go.Operand.tmp 18), type := 32, pos := "top03.go:43", after := #[{ on := 9, ground := Go.Ground.guard }], guard := some (9, false) }) (by rfl) 32 (.tmp 18) rfl gt (0) rfl S1 _ HQ.out.2.2.2 HU32.out rfl HIS1.out ?_
    simp only [Act.put, List.setIfInBounds_toArray, List.set_cons_zero, List.set_cons_succ]
    refine wpList_run_g (op := { dst := some 138, op := Go.Op.binOp Go.BinOp.neq 32 (Go.Operand.tmp 136) (Go.Operand.tmp 137) 32, type := 4, pos := "top03.go:43", after := #[{ on := 10, ground := Go.Ground.data }, { on := 11, ground := Go.Ground.data }, { on := 9, ground := Go.Ground.guard }], guard := some (9, false) }) (by rfl) (.bool false) (neq_stop HS1.out _ (.tmp 136) (.tmp 137) rfl rfl _ _ rfl _) ?_
    simp only [Act.put, List.setIfInBounds_toArray, List.set_cons_zero, List.set_cons_succ]
    go_upto_region 24 with fail
    clear c0 s1 HQ hw22 hle
    have hnLL : nL ≤ 32 := hnL
    go_wp2
    go_loopw [163] (fun i wr => ∃ j : Nat, j ≤ nL ∧ i = .int .i64 (j : Int) ∧ Hid (Below y20.heap.size y20 wr)) (fun i _ => nL - (intOf i).toNat)
    case atStart => exact ⟨0, by omega, rfl, Below.refl _ _⟩
    case round =>
      obtain ⟨j, hj, rfl, hb⟩ := hrel
      by_cases hlt : j < nL
      · obtain ⟨p, hp⟩ : ∃ p, L[j]? = some p := ⟨_, List.getElem?_eq_getElem (by rw [HNL.out]; exact hlt)⟩
        obtain ⟨q, hq⟩ : ∃ q, R1.m.pages[j]? = some q := ⟨_, List.getElem?_eq_getElem (by rw [HNR.out]; exact hlt)⟩
        have hkept := HELD.out.pages.at' j p q (by rw [HM.out.1]; exact hp) hq
        obtain ⟨b, off, rfl, hr⟩ := PW2.out.cell j q hq
        obtain ⟨b', off', rfl, hr'⟩ := WS2.out.cell j p hp
        have hrq := range_below hr hb.out
        have hrp := range_below hr' hb.out
        have hpo : p.Ok := HOKL.out p (List.mem_of_getElem? hp)
        have hqo : q.Ok := OKW.out.ok q (List.mem_of_getElem? hq)
        have q0 : wr.cell? ⟨b, off + j * 66, none⟩ = some (.int .i64 p.rights) := by have := hrq 0 (.int .i64 q.rights) rfl; rw [hkept.rights] at this; exact this
        have q1 := hrq 1 (.bool q.dirty) rfl
        have p0 : wr.cell? ⟨b', off' + j * 66, none⟩ = some (.int .i64 p.rights) := hrp 0 (.int .i64 p.rights) rfl
        have p1 := hrp 1 (.bool p.dirty) rfl
        have rq0 : wr.rangeAt b (off + j * 66 + 2) q.row := range_row2 hrq
        have rp0 : wr.rangeAt b' (off' + j * 66 + 2) p.row := range_row2 hrp
        have j1 : (j : Int) < (nL : Int) := by omega
        have HKE := hide hkept
        have HPO := hide hpo
        have HQO := hide hqo
        have HRQ := hide rq0
        have HRP := hide rp0
        have hnd : ∀ w, (binOp .neq 45 (.agg q.row.toArray) (.agg p.row.toArray)).run Tryd.prog w = .ok (.bool (!decide (q.data = p.data))) w := fun w => neq_rows hqo hpo w
        have HND := hide hnd
        clear hkept hr hr' hp hq hrq hrp hpo hqo rq0 rp0 hnd
        have hands := and2 p.rights
        obtain ⟨pd, hpd⟩ : ∃ d, p.dirty = d := ⟨_, rfl⟩
        obtain ⟨qd, hqd⟩ : ∃ d, q.dirty = d := ⟨_, rfl⟩
        have HMK : Hid (pd = true → qd = true) := fun e => by rw [← hqd]; exact HKE.out.mark (hpd.trans e)
        have HSE : Hid (q.data ≠ p.data → qd = true ∧ rbit p.rights 1 = true) := fun e => ⟨by rw [← hqd]; exact HKE.out.seen e, by
          cases hrb : rbit p.rights 1
          · exact absurd (by rw [HKE.out.still hrb]) e
          · rfl⟩
        rw [hpd] at p1
        rw [hqd] at q1
        clear hpd hqd HKE
        cases pd
        · --
          as_aux_lemma =>
            clear HMK
            go_upto_region 27 with fail
            go_quiet (fail)
            go_upto_region 29 with fail
            have hb2 := drewN_below hb.out nq
            have rq := range_below HRQ.out (drewN_below (Below.refl _ _) nq)
            have rp := range_below HRP.out (drewN_below (Below.refl _ _) nq)
            have hu45 := Tryd.underlying45
            have hiq : (Tryd.prog.info? 45).map (·.size) = some q.row.length := by rw [HQO.out.row]; exact sizeData
            have hip : (Tryd.prog.info? 45).map (·.size) = some p.row.length := by rw [HPO.out.row]; exact sizeData
            have HB2 := hide hb2
            have q1' : (wr.drewN nq).cell? ⟨b, off + j * 66 + 1, none⟩ = some (.bool qd) := q1
            have p0' : (wr.drewN nq).cell? ⟨b', off' + j * 66, none⟩ = some (.int .i64 p.rights) := p0
            clear hb hb2 q0 q1 p0 p1
            generalize wr.drewN nq = x1 at *
            by_cases hde : q.data = p.data
            · have hne : ∀ w, (binOp .neq 45 (.agg q.row.toArray) (.agg p.row.toArray)).run Tryd.prog w = .ok (.bool false) w := fun w => by rw [HND.out w]; simp [hde]
              clear hde HSE hands
              refine wp_region_quiet_lit (by kernel_rfl) (by kernel_rfl) ?_
              repeat (first
                | (go_big_quiet_want; refine quiet_load_mid 45 (.tmp 195) rfl b (off + j * 66 + 2) rfl q.row _ rq hu45 rfl hiq ?_; simp only [Act.put, List.setIfInBounds_toArray, List.set_cons_succ, List.set_cons_zero]; go_big_quiet_on)
                | (go_big_quiet_want; refine quiet_load_mid 45 (.tmp 200) rfl b' (off' + j * 66 + 2) rfl p.row _ rp hu45 rfl hip ?_; simp only [Act.put, List.setIfInBounds_toArray, List.set_cons_succ, List.set_cons_zero]; go_big_quiet_on)
                | (go_big_quiet_want; refine quiet_neq 45 45 (.tmp 196) (.tmp 201) rfl _ _ rfl rfl (by kernel_rfl) _ hne ?_; simp only [Act.put, List.setIfInBounds_toArray, List.set_cons_succ, List.set_cons_zero]; go_big_quiet_on)
                | go_big_quiet_step (fail))
              refine wpQuiet_nil ?_
              intro _ hw'
              obtain ⟨nq2, rfl⟩ := hw'
              go_wp2
              go_roundw
              case rel => exact ⟨j + 1, by omega, by go_num, drewN_below HB2.out nq2⟩
              case measure => simp [intOf]; omega
            · have hne : ∀ w, (binOp .neq 45 (.agg q.row.toArray) (.agg p.row.toArray)).run Tryd.prog w = .ok (.bool true) w := fun w => by rw [HND.out w]; simp [hde]
              obtain ⟨hqt, hrb⟩ := HSE.out hde
              subst hqt
              rw [hrb] at hands
              have hands' : (bits .and .i64 p.rights 2 == 0) = false := hands
              clear hde HSE hands hrb
              refine wp_region_quiet_lit (by kernel_rfl) (by kernel_rfl) ?_
              repeat (first
                | (go_big_quiet_want; refine quiet_load_mid 45 (.tmp 195) rfl b (off + j * 66 + 2) rfl q.row _ rq hu45 rfl hiq ?_; simp only [Act.put, List.setIfInBounds_toArray, List.set_cons_succ, List.set_cons_zero]; go_big_quiet_on)
                | (go_big_quiet_want; refine quiet_load_mid 45 (.tmp 200) rfl b' (off' + j * 66 + 2) rfl p.row _ rp hu45 rfl hip ?_; simp only [Act.put, List.setIfInBounds_toArray, List.set_cons_succ, List.set_cons_zero]; go_big_quiet_on)
                | (go_big_quiet_want; refine quiet_neq 45 45 (.tmp 196) (.tmp 201) rfl _ _ rfl rfl (by kernel_rfl) _ hne ?_; simp only [Act.put, List.setIfInBounds_toArray, List.set_cons_succ, List.set_cons_zero]; go_big_quiet_on)
                | go_big_quiet_step (fail))
              refine wpQuiet_nil ?_
              intro _ hw'
              obtain ⟨nq2, rfl⟩ := hw'
              go_wp2
              go_roundw
              case rel => exact ⟨j + 1, by omega, by go_num, drewN_below HB2.out nq2⟩
              case measure => simp [intOf]; omega
        · --
          as_aux_lemma =>
            obtain rfl := HMK.out rfl
            go_upto_region 27 with fail
            go_quiet (fail)
            go_upto_region 29 with fail
            have hb2 := drewN_below hb.out nq
            have rq := range_below HRQ.out (drewN_below (Below.refl _ _) nq)
            have rp := range_below HRP.out (drewN_below (Below.refl _ _) nq)
            have hu45 := Tryd.underlying45
            have hiq : (Tryd.prog.info? 45).map (·.size) = some q.row.length := by rw [HQO.out.row]; exact sizeData
            have hip : (Tryd.prog.info? 45).map (·.size) = some p.row.length := by rw [HPO.out.row]; exact sizeData
            have HB2 := hide hb2
            have q1' : (wr.drewN nq).cell? ⟨b, off + j * 66 + 1, none⟩ = some (.bool true) := q1
            have p0' : (wr.drewN nq).cell? ⟨b', off' + j * 66, none⟩ = some (.int .i64 p.rights) := p0
            clear hb hb2 q0 q1 p0 p1
            generalize wr.drewN nq = x1 at *
            by_cases hde : q.data = p.data
            · have hne : ∀ w, (binOp .neq 45 (.agg q.row.toArray) (.agg p.row.toArray)).run Tryd.prog w = .ok (.bool false) w := fun w => by rw [HND.out w]; simp [hde]
              clear hde HSE hands
              refine wp_region_quiet_lit (by kernel_rfl) (by kernel_rfl) ?_
              repeat (first
                | (go_big_quiet_want; refine quiet_load_mid 45 (.tmp 195) rfl b (off + j * 66 + 2) rfl q.row _ rq hu45 rfl hiq ?_; simp only [Act.put, List.setIfInBounds_toArray, List.set_cons_succ, List.set_cons_zero]; go_big_quiet_on)
                | (go_big_quiet_want; refine quiet_load_mid 45 (.tmp 200) rfl b' (off' + j * 66 + 2) rfl p.row _ rp hu45 rfl hip ?_; simp only [Act.put, List.setIfInBounds_toArray, List.set_cons_succ, List.set_cons_zero]; go_big_quiet_on)
                | (go_big_quiet_want; refine quiet_neq 45 45 (.tmp 196) (.tmp 201) rfl _ _ rfl rfl (by kernel_rfl) _ hne ?_; simp only [Act.put, List.setIfInBounds_toArray, List.set_cons_succ, List.set_cons_zero]; go_big_quiet_on)
                | go_big_quiet_step (fail))
              refine wpQuiet_nil ?_
              intro _ hw'
              obtain ⟨nq2, rfl⟩ := hw'
              go_wp2
              go_roundw
              case rel => exact ⟨j + 1, by omega, by go_num, drewN_below HB2.out nq2⟩
              case measure => simp [intOf]; omega
            · have hne : ∀ w, (binOp .neq 45 (.agg q.row.toArray) (.agg p.row.toArray)).run Tryd.prog w = .ok (.bool true) w := fun w => by rw [HND.out w]; simp [hde]
              obtain ⟨hqt, hrb⟩ := HSE.out hde
              rw [hrb] at hands
              have hands' : (bits .and .i64 p.rights 2 == 0) = false := hands
              clear hde HSE hands hrb
              refine wp_region_quiet_lit (by kernel_rfl) (by kernel_rfl) ?_
              repeat (first
                | (go_big_quiet_want; refine quiet_load_mid 45 (.tmp 195) rfl b (off + j * 66 + 2) rfl q.row _ rq hu45 rfl hiq ?_; simp only [Act.put, List.setIfInBounds_toArray, List.set_cons_succ, List.set_cons_zero]; go_big_quiet_on)
                | (go_big_quiet_want; refine quiet_load_mid 45 (.tmp 200) rfl b' (off' + j * 66 + 2) rfl p.row _ rp hu45 rfl hip ?_; simp only [Act.put, List.setIfInBounds_toArray, List.set_cons_succ, List.set_cons_zero]; go_big_quiet_on)
                | (go_big_quiet_want; refine quiet_neq 45 45 (.tmp 196) (.tmp 201) rfl _ _ rfl rfl (by kernel_rfl) _ hne ?_; simp only [Act.put, List.setIfInBounds_toArray, List.set_cons_succ, List.set_cons_zero]; go_big_quiet_on)
                | go_big_quiet_step (fail))
              refine wpQuiet_nil ?_
              intro _ hw'
              obtain ⟨nq2, rfl⟩ := hw'
              go_wp2
              go_roundw
              case rel => exact ⟨j + 1, by omega, by go_num, drewN_below HB2.out nq2⟩
              case measure => simp [intOf]; omega
      · --
        as_aux_lemma =>
          obtain rfl : nL = j := by omega
          have gP := proc_hi R1.m OKW.out
          have gM := proc_hi M HM.out.2.2.1
          rw [HELD.out.st, HELD.out.prio, HELD.out.wait, HELD.out.obj] at gP
          have HYf := bl_blw HY2.out (by rw [HP21.out]; decide) hb.out
          have HPf := bl_blw HP2.out (by rw [proc_len HM.out.2.2.1]; decide) hb.out
          have a17 := HYf.cell 17 _ gP.1
          have a18 := HYf.cell 18 _ gP.2.1
          have a19 := HYf.cell 19 _ gP.2.2.1
          have a20 := HYf.cell 20 _ gP.2.2.2
          have b17 := HPf.cell 17 _ gM.1
          have b18 := HPf.cell 18 _ gM.2.1
          have b19 := HPf.cell 19 _ gM.2.2.1
          have b20 := HPf.cell 20 _ gM.2.2.2
          have DF := hide (chain DD2.out hb.out)
          clear gP gM HYf HPf hlt hj
          go_wp2
          go_ret
          exact ⟨rfl, DF.out⟩
end Go.Proofs.YteopkgjkbhcicaaDoor.ferryRunsSplit
