/-
  A machine in memory; its small functions: word, size, set.
-/
import Derived.Test.YteopkgjkbhcicaaDoorCmMath
import Derived.Test.YteopkgjkbhcicaaDoorIsBl
import Derived.Test.YteopkgjkbhcicaaDoorOth
import Derived.Deep.RegionHeld3
import Derived.BigQuiet
namespace Go.Proofs.YteopkgjkbhcicaaDoor
open Go.RowKit FerryCrc FerryAlu
set_option linter.unusedVariables false
set_option linter.unusedSimpArgs false

/-- A machine in the block mb, its pages (the value v) memory of its own. -/
structure MAt (w : World) (mb base : Nat) (v : Value) (m : Mc) : Prop where
  bl : Bl w mb (v :: m.proc)
  own : POwn w base v m.pages
  ne : v.ownBlock ≠ some mb
  ok : m.Ok
  le : base ≤ mb
  lt : mb < w.heap.size
  size : base ≤ w.heap.size
theorem MAt.below {w w' : World} {mb base : Nat} {v : Value} {m : Mc} (h : MAt w mb base v m) (hb : Below w.heap.size w w') : MAt w' mb base v m :=
  ⟨h.bl.below h.lt hb, h.own.below hb, h.ne, h.ok, h.le, Nat.lt_of_lt_of_le h.lt hb.size, Nat.le_trans h.size hb.size⟩
theorem proc_len {m : Mc} (h : m.Ok) : m.proc.length = 21 := by simp [Mc.proc, h.size]
theorem reg_get {m : Mc} (h : m.Ok) {k : Nat} (hk : k < 16) : m.regs[k]? = some (m.reg k) := by
  unfold Mc.reg
  rw [List.getD_eq_getElem?_getD, List.getElem?_eq_getElem (by rw [h.size]; exact hk)]
  rfl
theorem reg_lt {m : Mc} (h : m.Ok) (k : Nat) : m.reg k < 4294967296 := by
  unfold Mc.reg
  rw [List.getD_eq_getElem?_getD]
  cases e : m.regs[k]? with
  | none => decide
  | some r => exact h.small r (List.mem_of_getElem? e)
theorem MAt.reg {w : World} {mb base : Nat} {v : Value} {m : Mc} (h : MAt w mb base v m) {k : Nat} (hk : k < 16) : w.cell? ⟨mb, 1 + k, none⟩ = some (.int .u32 (m.reg k : Int)) := by
  refine h.bl.cell (1 + k) _ ?_
  rw [Nat.add_comm, List.getElem?_cons_succ]
  unfold Mc.proc
  rw [List.getElem?_append_left (by rw [List.length_map, h.ok.size]; exact hk), List.getElem?_map, reg_get h.ok hk]
  rfl
theorem MAt.pc {w : World} {mb base : Nat} {v : Value} {m : Mc} (h : MAt w mb base v m) : w.cell? ⟨mb, 17, none⟩ = some (.int .u32 (m.pc : Int)) := by
  refine h.bl.cell 17 _ ?_
  rw [List.getElem?_cons_succ]
  unfold Mc.proc
  rw [List.getElem?_append_right (by rw [List.length_map, h.ok.size]; decide), List.length_map, h.ok.size]
  rfl
theorem MAt.pages {w : World} {mb base : Nat} {v : Value} {m : Mc} (h : MAt w mb base v m) : w.cell? ⟨mb, 0, none⟩ = some v := h.bl.cell 0 _ rfl
theorem setR_ok {m : Mc} (h : m.Ok) {k v : Nat} (hv : v < 4294967296) : (m.setR k v).Ok := by
  unfold Mc.setR
  split
  · exact h
  · refine ⟨h.ok, h.most, by simp [h.size], fun r hr => ?_, h.pc⟩
    rcases List.mem_or_eq_of_mem_set hr with hr | rfl
    · exact h.small r hr
    · exact hv
theorem setP_ok {m : Mc} (h : m.Ok) {p : Nat} (hp : p < 4294967296) : (m.setP p).Ok := ⟨h.ok, h.most, h.size, h.small, hp⟩
theorem proc_set {m : Mc} (h : m.Ok) {k v : Nat} (hk : k < 16) : ({ m with regs := m.regs.set k v } : Mc).proc = m.proc.set k (.int .u32 (v : Int)) := by
  unfold Mc.proc
  rw [List.set_append_left _ _ (by rw [List.length_map, h.size]; exact hk), List.map_set]
  rfl
theorem proc_pc {m : Mc} (h : m.Ok) (p : Nat) : (m.setP p).proc = m.proc.set 16 (.int .u32 (p : Int)) := by
  unfold Mc.proc Mc.setP
  rw [List.set_append_right _ _ (by rw [List.length_map, h.size]; decide), List.length_map, h.size]
  rfl
theorem own_far {w : World} {base g j : Nat} {v u : Value} {l : List Pg} (h : POwn w base v l) (hne : v.ownBlock ≠ some g) : POwn (w.setCell ⟨g, j, none⟩ u) base v l := by
  refine ⟨h.1, ?_⟩
  rcases h.2 with h | ⟨b, cap, cur, rfl, hg, hh, r⟩
  · exact .inl h
  · refine .inr ⟨b, cap, cur, rfl, hg, ?_, r⟩
    have : b ≠ g := fun e => hne (by rw [← e]; rfl)
    rw [← hh]
    exact heap_setCell_other w ⟨g, j, none⟩ b u this
theorem MAt.setReg {w : World} {mb base : Nat} {v : Value} {m : Mc} (h : MAt w mb base v m) {k r : Nat} (hk : k < 16) (h0 : k ≠ 0) (hr : r < 4294967296) : MAt (w.setCell ⟨mb, 1 + k, none⟩ (.int .u32 (r : Int))) mb base v (m.setR k r) := by
  have e : m.setR k r = { m with regs := m.regs.set k r } := by unfold Mc.setR; rw [if_neg h0]
  refine ⟨?_, ?_, h.ne, setR_ok h.ok hr, h.le, by simpa using h.lt, by simpa using h.size⟩
  · rw [e, proc_set h.ok hk, Nat.add_comm 1 k]
    have := h.bl.set (k := k + 1) (by rw [List.length_cons, proc_len h.ok]; omega) (.int .u32 (r : Int))
    rw [List.set_cons_succ] at this
    exact this
  · rw [e]
    exact own_far h.own h.ne
theorem MAt.setPc {w : World} {mb base : Nat} {v : Value} {m : Mc} (h : MAt w mb base v m) {p : Nat} (hp : p < 4294967296) : MAt (w.setCell ⟨mb, 17, none⟩ (.int .u32 (p : Int))) mb base v (m.setP p) := by
  refine ⟨?_, own_far h.own h.ne, h.ne, setP_ok h.ok hp, h.le, by simpa using h.lt, by simpa using h.size⟩
  rw [proc_pc h.ok]
  have := h.bl.set (k := 17) (by rw [List.length_cons, proc_len h.ok]; omega) (.int .u32 (p : Int))
  rw [List.set_cons_succ] at this
  exact this

set_option maxRecDepth 100000 in
theorem word_any (n : Int) (w : World) (h1 : -9223372036854775808 ≤ n) (h2 : n ≤ 9223372036854775807) : Calls Tryd.prog 32 #[.int .i64 n] w fun e w' => e = .returned (.int .u32 ((un n : Nat) : Int)) ∧ w = w' := by
  have e0 : n % 4294967296 = ((un n : Nat) : Int) := (un_cast n).symm
  have HE := hide e0
  clear e0
  go_enter Tryd.func32, Tryd.ntmps32
  go_wp2
  go_ret
  refine ⟨?_, rfl⟩
  rw [← HE.out]
  simp [Act.eval]
set_option maxRecDepth 100000 in
theorem size_any (op : Int) (w : World) : Calls Tryd.prog 41 #[.int .i64 op] w fun e w' => e = .returned (.int .i64 ((szI op : Nat) : Int)) ∧ w = w' := by
  go_enter Tryd.func41, Tryd.ntmps41
  go_wp2
  all_goals
    go_ret
    refine ⟨?_, rfl⟩
    simp only [beq_iff_eq, beq_eq_false_iff_ne, ne_eq, decide_eq_true_eq, decide_eq_false_iff_not] at *
    unfold szI
    repeat' split
  all_goals first | rfl | (exfalso; omega)
set_option maxRecDepth 100000 in
theorem set_any {w : World} {mb base : Nat} {v : Value} {m : Mc} (h : MAt w mb base v m) (k r : Nat) (hk : k < 16) (hr : r < 4294967296) : Calls Tryd.prog 29 #[.pointer (some ⟨mb, 0, none⟩), .int .i64 (k : Int), .int .u32 (r : Int)] w fun e w' => e = .returned (.tuple #[]) ∧ MAt w' mb base v (m.setR k r) ∧ Oth (some mb) w w' := by
  by_cases h0 : k = 0
  · subst h0
    have HM := hide h
    clear h
    go_enter Tryd.func29, Tryd.ntmps29
    go_wp2
    go_end0
    exact ⟨rfl, HM.out, Oth.refl _ _⟩
  · have d0 : ((k : Int) != 0) = true := by rw [bne_iff_ne]; omega
    have k1 : (k : Int) < 16 := by omega
    have c0 := h.reg hk
    have f0 := h.bl.free (1 + k)
    have HM := hide (h.setReg hk h0 hr)
    have HB := hide ((Oth.refl (some mb) w).setCell (j := 1 + k) (.int .u32 (r : Int)))
    clear h
    go_enter Tryd.func29, Tryd.ntmps29
    go_wp2
    go_end0
    exact ⟨rfl, HM.out, HB.out⟩
end Go.Proofs.YteopkgjkbhcicaaDoor
