/-
  Processes and tables as memory holds them; the program's goodProc, isPrio.
-/
import Derived.Test.YtcfkngkenkbkaaaDoorRyMath
import Derived.Test.YtcfkngkenkbkaaaDoorTmFire
import Derived.Deep.Cut
import Derived.BigGuard
namespace Go.Proofs.YtcfkngkenkbkaaaDoor
open Classical
open Go.RowKit
set_option linter.unusedVariables false
set_option linter.unusedSimpArgs false

def Pro.cells (p : Pro) : List Value := [.int .u32 p.r0, .int .u32 p.r1, .int .u32 p.r2, .int .u32 p.r3, .int .u32 p.r4, .int .u32 p.r5, .int .u32 p.r6, .int .u32 p.r7, .int .u32 p.r8, .int .u32 p.r9, .int .u32 p.r10, .int .u32 p.r11, .int .u32 p.r12, .int .u32 p.r13, .int .u32 p.r14, .int .u32 p.r15, .int .u32 p.pc, .int .i64 p.state, .int .i64 p.prio, .int .i64 p.wait, .int .i64 p.obj]
abbrev Pro.arr (p : Pro) : Array Value := #[.int .u32 p.r0, .int .u32 p.r1, .int .u32 p.r2, .int .u32 p.r3, .int .u32 p.r4, .int .u32 p.r5, .int .u32 p.r6, .int .u32 p.r7, .int .u32 p.r8, .int .u32 p.r9, .int .u32 p.r10, .int .u32 p.r11, .int .u32 p.r12, .int .u32 p.r13, .int .u32 p.r14, .int .u32 p.r15, .int .u32 p.pc, .int .i64 p.state, .int .i64 p.prio, .int .i64 p.wait, .int .i64 p.obj]
theorem pro21 (p : Pro) : p.cells.length = 21 := rfl
theorem pro_one (l : List Pro) : ∀ u ∈ l.flatMap Pro.cells, u.oneCell' = true := by
  intro u hu
  obtain ⟨p, _, hp⟩ := List.mem_flatMap.1 hu
  simp only [Pro.cells, List.mem_cons, List.not_mem_nil, or_false] at hp
  rcases hp with rfl | rfl | rfl | rfl | rfl | rfl | rfl | rfl | rfl | rfl | rfl | rfl | rfl | rfl | rfl | rfl | rfl | rfl | rfl | rfl | rfl <;> rfl
/-- The processes that a slice shows; a list of the call's own. -/
abbrev Pros (w : World) (a : Option Addr) (len cap : Nat) (l : List Pro) : Prop := Rcs Pro.cells 21 w a len cap l
abbrev PrOwn (w : World) (base : Nat) (v : Value) (l : List Pro) : Prop := w.ownsRow base 60 21 v l.length (l.flatMap Pro.cells)
theorem prown_nil (w : World) (base : Nat) : PrOwn w base (.slice none 0 0) [] := World.ownsRow_nil _ _ _ _
theorem prown_pros {w : World} {base : Nat} {v : Value} {l : List Pro} (h : PrOwn w base v l) : ∃ a c, v = .slice a l.length c ∧ Pros w a l.length c l := by
  obtain ⟨a, c, e, hr⟩ := RLk.row (.inl h)
  exact ⟨a, c, e, rfl, hr⟩
theorem infoProc : ∃ i z, Tryd.prog.info? 60 = some i ∧ i.zero = some z ∧ i.size = 21 ∧ i.bytes = 104 ∧ z.cells.size = 21 := by
  have h : (Tryd.prog.info? 60).map (fun i => (i.size, i.bytes, i.zero.map (·.cells.size))) = some (21, 104, some 21) := by kernel_rfl
  cases hi : Tryd.prog.info? 60 with
  | none => simp [hi] at h
  | some i =>
    simp only [hi, Option.map_some, Option.some.injEq, Prod.mk.injEq] at h
    obtain ⟨h1, h2, h3⟩ := h
    cases hz : i.zero with
    | none => simp [hz] at h3
    | some z => exact ⟨i, z, rfl, hz, h1, h2, by simpa [hz] using h3⟩

theorem sizeProc : (Tryd.prog.info? 60).map (·.size) = some 21 := by kernel_rfl
theorem pro_arr (p : Pro) : p.cells.toArray = p.arr := rfl
theorem pro_all (p : Pro) : p.cells.toArray.all (·.oneCell') = true := by simp [Pro.cells, Value.oneCell']
/-- A whole record goes into the block that was made last. -/
theorem wpList_store_new {P : Program} {ops : Array Oper} {rest : List Oper} {op : Oper} {a : Act} {w : World} {Q : Exit → Act → World → Prop} {c : Array Value} (hgd : op.guard = none) (ty : TypeId) (x y : Operand) (ho : op.op = .store ty x y)
    (c' : Array Value) (hx : a.eval x = .pointer (some ⟨w.heap.size, 0, none⟩)) (hy : a.eval y = .agg c') (hi : (P.info? ty).map (·.size) = some c'.size) (hc : c.size = c'.size) (h1 : c'.all (·.oneCell') = true)
    (h : wpList P ops Q rest (a.put op.dst undef) (w.alloc (.cells c' ty))) : wpList P ops Q (op :: rest) a (w.alloc (.cells c ty)) := by
  refine wpList_plain hgd fun _ hK => ?_
  unfold Oper.wp execOp
  simp only [ho, hx, hy, Sem.run_bind, Sem.run_pure, Result.andThen_ok, run_storeAt_new w ty c c' hi hc h1]
  exact hK _ _ h
theorem rangeNew (w : World) (cs : List Value) (t : TypeId) : (w.alloc (.cells cs.toArray t)).rangeAt w.heap.size 0 cs := fun j v hv => by
  rw [World.cell?_alloc_at _ _ _ _ rfl]
  simpa using hv

theorem isPrio_any (x : Int) (w : World) : Calls Tryd.prog 50 #[.int .i64 x] w fun e w' => e = .returned (.bool (decide (0 ≤ x ∧ x ≤ 255))) ∧ w' = w := by
  by_cases h1 : 0 ≤ x
  · by_cases h2 : x ≤ 255
    · have d1 : decide (0 ≤ x) = true := decide_eq_true h1
      have d2 : decide (x ≤ 255) = true := decide_eq_true h2
      have HR : Hid (decide (0 ≤ x ∧ x ≤ 255) = true) := decide_eq_true ⟨h1, h2⟩
      clear h1 h2
      go_enter Tryd.func50, Tryd.ntmps50
      go_wp2
      go_ret
      exact ⟨by rw [HR.out]; rfl, rfl⟩
    · have d1 : decide (0 ≤ x) = true := decide_eq_true h1
      have d2 : decide (x ≤ 255) = false := decide_eq_false h2
      have HR : Hid (decide (0 ≤ x ∧ x ≤ 255) = false) := decide_eq_false (fun h => h2 h.2)
      clear h1 h2
      go_enter Tryd.func50, Tryd.ntmps50
      go_wp2
      go_ret
      exact ⟨by rw [HR.out]; rfl, rfl⟩
  · have d1 : decide (0 ≤ x) = false := decide_eq_false h1
    have HR : Hid (decide (0 ≤ x ∧ x ≤ 255) = false) := decide_eq_false (fun h => h1 h.1)
    clear h1
    go_enter Tryd.func50, Tryd.ntmps50
    go_wp2
    go_ret
    exact ⟨by rw [HR.out]; rfl, rfl⟩

set_option maxRecDepth 100000 in
set_option maxHeartbeats 4000000 in
theorem goodProc_any (p : Pro) (w : World) : Calls Tryd.prog 31 #[.agg p.arr] w fun e w' => e = .returned (.bool (decide p.In)) ∧ Below w.heap.size w w' := by
  have HP := hide (isPrio_any p.prio)
  have HB := hide (new_below w (.cells p.arr 60))
  have BL : Hid (Bl (w.alloc (.cells p.arr 60)) w.heap.size p.cells) := bl_alloc w p.arr 60
  go_enter Tryd.func31, Tryd.ntmps31
  go_upto_region 1 with fail
  generalize w.alloc (.cells p.arr 60) = W0 at *
  have q0 := BL.out.cell 0 _ rfl
  have q17 := BL.out.cell 17 _ rfl
  have q18 := BL.out.cell 18 _ rfl
  have q19 := BL.out.cell 19 _ rfl
  have q20 := BL.out.cell 20 _ rfl
  clear BL
  by_cases c0 : p.r0 = 0
  case neg =>
    have d0 : (p.r0 != 0) = true := by simp [c0]
    have HR : Hid (decide p.In = false) := decide_eq_false (by unfold Pro.In; omega)
    clear c0
    go_wp2
    go_ret
    exact ⟨by rw [HR.out]; rfl, HB.out⟩
  have d0 : (p.r0 != 0) = false := by simp [c0]
  go_wp2_with fail
  refine Calls.mono (HP.out _) ?_
  rintro e w' ⟨rfl, rfl⟩
  clear HP
  by_cases c1 : 0 ≤ p.prio ∧ p.prio ≤ 255
  case neg =>
    have d1 : decide (0 ≤ p.prio ∧ p.prio ≤ 255) = false := decide_eq_false c1
    have HR : Hid (decide p.In = false) := decide_eq_false (by unfold Pro.In; omega)
    clear c0 c1
    go_wp2
    go_ret
    exact ⟨by rw [HR.out]; rfl, HB.out⟩
  have d1 : decide (0 ≤ p.prio ∧ p.prio ≤ 255) = true := decide_eq_true c1
  by_cases c2 : p.obj < 0
  case pos =>
    have d2 : decide (p.obj < 0) = true := decide_eq_true c2
    have HR : Hid (decide p.In = false) := decide_eq_false (by unfold Pro.In; omega)
    clear c0 c1 c2
    go_wp2
    go_ret
    exact ⟨by rw [HR.out]; rfl, HB.out⟩
  have d2 : decide (p.obj < 0) = false := decide_eq_false c2
  by_cases e0 : p.state = 0
  case pos =>
    have f0 : (p.state == 0) = true := by simp [e0]
    by_cases w0 : p.wait = 0
    · have d3 : (p.wait == 0) = true := by simp [w0]
      by_cases o0 : p.obj = 0
      · have d4 : (p.obj == 0) = true := by simp [o0]
        have HR : Hid (decide p.In = true) := decide_eq_true (by unfold Pro.In; omega)
        clear c0 c1 c2 w0 o0 e0
        go_wp2
        go_ret
        exact ⟨by rw [HR.out]; rfl, HB.out⟩
      · have d4 : (p.obj == 0) = false := by simp [o0]
        have HR : Hid (decide p.In = false) := decide_eq_false (by unfold Pro.In; omega)
        clear c0 c1 c2 w0 o0 e0
        go_wp2
        go_ret
        exact ⟨by rw [HR.out]; rfl, HB.out⟩
    · have d3 : (p.wait == 0) = false := by simp [w0]
      have HR : Hid (decide p.In = false) := decide_eq_false (by unfold Pro.In; omega)
      clear c0 c1 c2 w0 e0
      go_wp2
      go_ret
      exact ⟨by rw [HR.out]; rfl, HB.out⟩
  have f0 : (p.state == 0) = false := by simp [e0]
  by_cases e1 : p.state = 1
  case pos =>
    have f1 : (p.state == 1) = true := by simp [e1]
    by_cases w0 : p.wait = 0
    · have d3 : (p.wait == 0) = true := by simp [w0]
      by_cases o0 : p.obj = 0
      · have d4 : (p.obj == 0) = true := by simp [o0]
        have HR : Hid (decide p.In = true) := decide_eq_true (by unfold Pro.In; omega)
        clear c0 c1 c2 w0 o0 e1 e0
        go_wp2
        go_ret
        exact ⟨by rw [HR.out]; rfl, HB.out⟩
      · have d4 : (p.obj == 0) = false := by simp [o0]
        have HR : Hid (decide p.In = false) := decide_eq_false (by unfold Pro.In; omega)
        clear c0 c1 c2 w0 o0 e1 e0
        go_wp2
        go_ret
        exact ⟨by rw [HR.out]; rfl, HB.out⟩
    · have d3 : (p.wait == 0) = false := by simp [w0]
      have HR : Hid (decide p.In = false) := decide_eq_false (by unfold Pro.In; omega)
      clear c0 c1 c2 w0 e1 e0
      go_wp2
      go_ret
      exact ⟨by rw [HR.out]; rfl, HB.out⟩
  have f1 : (p.state == 1) = false := by simp [e1]
  by_cases e3 : p.state = 3
  case pos =>
    have f3 : (p.state == 3) = true := by simp [e3]
    by_cases w0 : p.wait = 0
    · have d3 : (p.wait == 0) = true := by simp [w0]
      by_cases o0 : p.obj = 0
      · have d4 : (p.obj == 0) = true := by simp [o0]
        have HR : Hid (decide p.In = true) := decide_eq_true (by unfold Pro.In; omega)
        clear c0 c1 c2 w0 o0 e3 e0 e1
        go_wp2
        go_ret
        exact ⟨by rw [HR.out]; rfl, HB.out⟩
      · have d4 : (p.obj == 0) = false := by simp [o0]
        have HR : Hid (decide p.In = false) := decide_eq_false (by unfold Pro.In; omega)
        clear c0 c1 c2 w0 o0 e3 e0 e1
        go_wp2
        go_ret
        exact ⟨by rw [HR.out]; rfl, HB.out⟩
    · have d3 : (p.wait == 0) = false := by simp [w0]
      have HR : Hid (decide p.In = false) := decide_eq_false (by unfold Pro.In; omega)
      clear c0 c1 c2 w0 e3 e0 e1
      go_wp2
      go_ret
      exact ⟨by rw [HR.out]; rfl, HB.out⟩
  have f3 : (p.state == 3) = false := by simp [e3]
  by_cases e2 : p.state = 2
  case neg =>
    have f2 : (p.state == 2) = false := by simp [e2]
    have HR : Hid (decide p.In = false) := decide_eq_false (by unfold Pro.In; omega)
    clear c0 c1 c2 e0 e1 e3 e2
    go_wp2
    go_ret
    exact ⟨by rw [HR.out]; rfl, HB.out⟩
  have f2 : (p.state == 2) = true := by simp [e2]
  by_cases w1 : p.wait = 1
  · have d3 : (p.wait == 1) = true := by simp [w1]
    by_cases o0 : p.obj = 0
    · have d4 : (p.obj == 0) = true := by simp [o0]
      have HR : Hid (decide p.In = true) := decide_eq_true (by unfold Pro.In; omega)
      clear c0 c1 c2 e0 e1 e3 e2 w1 o0
      go_wp2
      go_ret
      exact ⟨by rw [HR.out]; rfl, HB.out⟩
    · have d4 : (p.obj == 0) = false := by simp [o0]
      have g2 : decide (2 ≤ p.wait) = false := decide_eq_false (by omega)
      have HR : Hid (decide p.In = false) := decide_eq_false (by unfold Pro.In; omega)
      clear c0 c1 c2 e0 e1 e3 e2 w1 o0
      go_wp2
      go_ret
      exact ⟨by rw [HR.out]; rfl, HB.out⟩
  · have d3 : (p.wait == 1) = false := by simp [w1]
    by_cases g2 : 2 ≤ p.wait
    · have d5 : decide (2 ≤ p.wait) = true := decide_eq_true g2
      by_cases g4 : p.wait ≤ 4
      · have d6 : decide (p.wait ≤ 4) = true := decide_eq_true g4
        have HR : Hid (decide p.In = true) := decide_eq_true (by unfold Pro.In; omega)
        clear c0 c1 c2 e0 e1 e3 e2 w1 g2 g4
        go_wp2
        go_ret
        exact ⟨by rw [HR.out]; rfl, HB.out⟩
      · have d6 : decide (p.wait ≤ 4) = false := decide_eq_false g4
        have HR : Hid (decide p.In = false) := decide_eq_false (by unfold Pro.In; omega)
        clear c0 c1 c2 e0 e1 e3 e2 w1 g2 g4
        go_wp2
        go_ret
        exact ⟨by rw [HR.out]; rfl, HB.out⟩
    · have d5 : decide (2 ≤ p.wait) = false := decide_eq_false g2
      have HR : Hid (decide p.In = false) := decide_eq_false (by unfold Pro.In; omega)
      clear c0 c1 c2 e0 e1 e3 e2 w1 g2
      go_wp2
      go_ret
      exact ⟨by rw [HR.out]; rfl, HB.out⟩
end Go.Proofs.YtcfkngkenkbkaaaDoor
