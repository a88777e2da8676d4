/-
  Two states compared.
-/
import Derived.Test.YtkjbcnlhallcdaaVsEqRows
import Derived.Test.YtkjbcnlhallcdaaVsEqPage
import Derived.Test.YtkjbcnlhallcdaaVsPorts
import Derived.Test.YtkjbcnlhallcdaaVsAlikes
import Derived.Deep.Cut
namespace Go.Proofs.Ytkjbcnlhallcdaa
open Go.RowKit FerryCrc
set_option linter.unusedVariables false
set_option linter.unusedSimpArgs false

/-- A state, by its keys. -/
structure Sk where
  id : Int
  frame : Int
  epoch : Int
  procs : List (List Lit)
  ready : List (List Lit)
  timers : List (List Lit)
  up : List (List Lit)
  sems : List (List Lit)
  ports : List (Int × List (List Lit))
  pages : List (List Lit)
/-- All but Epoch and the pages. -/
def Sk.but (s t : Sk) : Prop := s.id = t.id ∧ s.frame = t.frame ∧ s.procs = t.procs ∧ s.ready = t.ready ∧ s.timers = t.timers ∧ s.up = t.up ∧ s.sems = t.sems ∧ s.ports = t.ports
/-- A state's cells. -/
def Sv (w : World) (cs : List Value) (s : Sk) : Prop := ∃ a3 n3 c3 a4 n4 c4 a5 n5 c5 a6 n6 c6 a7 n7 c7 a8 n8 c8 a9 n9 c9, cs = [.int .i64 s.id, .int .i64 s.frame, .int .i64 s.epoch, .slice a3 n3 c3, .slice a4 n4 c4, .slice a5 n5 c5, .slice a6 n6 c6, .slice a7 n7 c7, .slice a8 n8 c8, .slice a9 n9 c9] ∧ Kv w 52 21 a3 n3 s.procs ∧ Kv w 3 1 a4 n4 s.ready ∧ Kv w 67 2 a5 n5 s.timers ∧ Kv w 4 1 a6 n6 s.up ∧ Kv w 3 1 a7 n7 s.sems ∧ Pv w a8 n8 s.ports ∧ Kv w 40 66 a9 n9 s.pages
theorem Sv.below {w w' : World} {cs : List Value} {s : Sk} (h : Sv w cs s) (hb : Below w.heap.size w w') : Sv w' cs s := by
  obtain ⟨a3, n3, c3, a4, n4, c4, a5, n5, c5, a6, n6, c6, a7, n7, c7, a8, n8, c8, a9, n9, c9, e, h3, h4, h5, h6, h7, h8, h9⟩ := h
  exact ⟨a3, n3, c3, a4, n4, c4, a5, n5, c5, a6, n6, c6, a7, n7, c7, a8, n8, c8, a9, n9, c9, e, h3.below hb, h4.below hb, h5.below hb, h6.below hb, h7.below hb, h8.below hb, h9.below hb⟩

set_option maxRecDepth 100000 in
set_option maxHeartbeats 3200000 in
theorem sameBut_any (s t : Sk) (cs cs' : List Value) (w : World) (hs : Sv w cs s) (hs' : Sv w cs' t) :
    Calls Try.prog 12 #[.agg cs.toArray, .agg cs'.toArray] w fun e w' => e = .returned (.bool (eqb Classical.propDecidable (s.but t))) ∧ Below w.heap.size w w' := by
  obtain ⟨id, frame, epoch, procs, ready, timers, up, sems, ports, pages⟩ := s
  obtain ⟨id', frame', epoch', procs', ready', timers', up', sems', ports', pages'⟩ := t
  obtain ⟨xa3, xn3, xc3, xa4, xn4, xc4, xa5, xn5, xc5, xa6, xn6, xc6, xa7, xn7, xc7, xa8, xn8, xc8, xa9, xn9, xc9, xe, xh3, xh4, xh5, xh6, xh7, xh8, xh9⟩ := hs
  obtain ⟨ya3, yn3, yc3, ya4, yn4, yc4, ya5, yn5, yc5, ya6, yn6, yc6, ya7, yn7, yc7, ya8, yn8, yc8, ya9, yn9, yc9, ye, yh3, yh4, yh5, yh6, yh7, yh8, yh9⟩ := hs'
  have n1 := rangeNew w cs 29
  have n1b := vrange_below n1 (one_below (w.alloc (.cells cs.toArray 29)) (.cells cs'.toArray 29))
  have n2 := rangeNew (w.alloc (.cells cs.toArray 29)) cs' 29
  have hsz : (w.alloc (.cells cs.toArray 29)).heap.size = w.heap.size + 1 := by simp
  rw [hsz] at n2
  have HB0 := hide (two_below w (.cells cs.toArray 29) (.cells cs'.toArray 29))
  have N1 := hide n1b
  have N2 := hide n2
  have XE := hide xe
  have YE := hide ye
  have HC3 : Hid (∀ W, Below w.heap.size w W → Calls Try.prog 19 #[.slice xa3 xn3 xc3, .slice ya3 yn3 yc3] W fun e w' => e = .returned (.bool (eqb Classical.propDecidable (procs = procs'))) ∧ Below W.heap.size W w') := fun W hb => slEq_proc xa3 xn3 xc3 procs ya3 yn3 yc3 procs' W (xh3.below hb) (yh3.below hb)
  have HC4 : Hid (∀ W, Below w.heap.size w W → Calls Try.prog 20 #[.slice xa4 xn4 xc4, .slice ya4 yn4 yc4] W fun e w' => e = .returned (.bool (eqb Classical.propDecidable (ready = ready'))) ∧ Below W.heap.size W w') := fun W hb => slEq_int xa4 xn4 xc4 ready ya4 yn4 yc4 ready' W (xh4.below hb) (yh4.below hb)
  have HC5 : Hid (∀ W, Below w.heap.size w W → Calls Try.prog 21 #[.slice xa5 xn5 xc5, .slice ya5 yn5 yc5] W fun e w' => e = .returned (.bool (eqb Classical.propDecidable (timers = timers'))) ∧ Below W.heap.size W w') := fun W hb => slEq_timer xa5 xn5 xc5 timers ya5 yn5 yc5 timers' W (xh5.below hb) (yh5.below hb)
  have HC6 : Hid (∀ W, Below w.heap.size w W → Calls Try.prog 22 #[.slice xa6 xn6 xc6, .slice ya6 yn6 yc6] W fun e w' => e = .returned (.bool (eqb Classical.propDecidable (up = up'))) ∧ Below W.heap.size W w') := fun W hb => slEq_bool xa6 xn6 xc6 up ya6 yn6 yc6 up' W (xh6.below hb) (yh6.below hb)
  have HC7 : Hid (∀ W, Below w.heap.size w W → Calls Try.prog 20 #[.slice xa7 xn7 xc7, .slice ya7 yn7 yc7] W fun e w' => e = .returned (.bool (eqb Classical.propDecidable (sems = sems'))) ∧ Below W.heap.size W w') := fun W hb => slEq_int xa7 xn7 xc7 sems ya7 yn7 yc7 sems' W (xh7.below hb) (yh7.below hb)
  have HC8 : Hid (∀ W, Below w.heap.size w W → Calls Try.prog 23 #[.slice xa8 xn8 xc8, .slice ya8 yn8 yc8, .func (.func 24) #[] #[]] W fun e w' => e = .returned (.bool (eqb Classical.propDecidable (ports = ports'))) ∧ Below W.heap.size W w') := fun W hb => eqPorts_any xa8 xn8 xc8 ports ya8 yn8 yc8 ports' W (xh8.below hb) (yh8.below hb)
  clear xh3 yh3 xh4 yh4 xh5 yh5 xh6 yh6 xh7 yh7 xh8 yh8 xh9 yh9 xe ye n1 n1b n2 hsz
  go_enter Try.func12, Try.ntmps12
  go_upto_region 1 with fail
  generalize (w.alloc (.cells cs.toArray 29)).alloc (.cells cs'.toArray 29) = W0 at *
  have d0x : W0.cell? ⟨w.heap.size, 0, none⟩ = some (.int .i64 id) := N1.out 0 _ (by rw [XE.out]; rfl)
  have d0y : W0.cell? ⟨w.heap.size + 1, 0, none⟩ = some (.int .i64 id') := N2.out 0 _ (by rw [YE.out]; rfl)
  have d1x : W0.cell? ⟨w.heap.size, 1, none⟩ = some (.int .i64 frame) := N1.out 1 _ (by rw [XE.out]; rfl)
  have d1y : W0.cell? ⟨w.heap.size + 1, 1, none⟩ = some (.int .i64 frame') := N2.out 1 _ (by rw [YE.out]; rfl)
  by_cases hid : id = id'
  · subst hid
    have HID : Hid (id = id) := rfl
    by_cases hfr : frame = frame'
    · subst hfr
      have HFR : Hid (frame = frame) := rfl
      have d3x : W0.cell? ⟨w.heap.size, 3, none⟩ = some (.slice xa3 xn3 xc3) := N1.out 3 _ (by rw [XE.out]; rfl)
      have d3y : W0.cell? ⟨w.heap.size + 1, 3, none⟩ = some (.slice ya3 yn3 yc3) := N2.out 3 _ (by rw [YE.out]; rfl)
      go_wp2_with fail
      refine Calls.mono (HC3.out W0 HB0.out) ?_
      rintro e w3 ⟨rfl, b3⟩
      have B3 := hide (chain HB0.out b3)
      have M3 := hide (vrange_below N1.out b3)
      have O3 := hide (vrange_below N2.out b3)
      clear d3x d3y b3
      generalize hq : eqb Classical.propDecidable (procs = procs') = r3 at *
      have P3 := hide hq
      clear hq
      cases r3
      · go_wp2
        go_ret
        exact ⟨ret_bool (eqb_no (fun h => by have h3 := P3.out; rw [eqb_yes h.2.2.1] at h3; exact absurd h3 (by decide))).symm, B3.out⟩
      · have Q3 := hide (eqb_iff.1 P3.out)
        have d4x : w3.cell? ⟨w.heap.size, 4, none⟩ = some (.slice xa4 xn4 xc4) := M3.out 4 _ (by rw [XE.out]; rfl)
        have d4y : w3.cell? ⟨w.heap.size + 1, 4, none⟩ = some (.slice ya4 yn4 yc4) := O3.out 4 _ (by rw [YE.out]; rfl)
        go_wp2_with fail
        refine Calls.mono (HC4.out w3 B3.out) ?_
        rintro e w4 ⟨rfl, b4⟩
        have B4 := hide (chain B3.out b4)
        have M4 := hide (vrange_below M3.out b4)
        have O4 := hide (vrange_below O3.out b4)
        clear d4x d4y b4
        generalize hq : eqb Classical.propDecidable (ready = ready') = r4 at *
        have P4 := hide hq
        clear hq
        cases r4
        · go_wp2
          go_ret
          exact ⟨ret_bool (eqb_no (fun h => by have h3 := P4.out; rw [eqb_yes h.2.2.2.1] at h3; exact absurd h3 (by decide))).symm, B4.out⟩
        · have Q4 := hide (eqb_iff.1 P4.out)
          have d5x : w4.cell? ⟨w.heap.size, 5, none⟩ = some (.slice xa5 xn5 xc5) := M4.out 5 _ (by rw [XE.out]; rfl)
          have d5y : w4.cell? ⟨w.heap.size + 1, 5, none⟩ = some (.slice ya5 yn5 yc5) := O4.out 5 _ (by rw [YE.out]; rfl)
          go_wp2_with fail
          refine Calls.mono (HC5.out w4 B4.out) ?_
          rintro e w5 ⟨rfl, b5⟩
          have B5 := hide (chain B4.out b5)
          have M5 := hide (vrange_below M4.out b5)
          have O5 := hide (vrange_below O4.out b5)
          clear d5x d5y b5
          generalize hq : eqb Classical.propDecidable (timers = timers') = r5 at *
          have P5 := hide hq
          clear hq
          cases r5
          · go_wp2
            go_ret
            exact ⟨ret_bool (eqb_no (fun h => by have h3 := P5.out; rw [eqb_yes h.2.2.2.2.1] at h3; exact absurd h3 (by decide))).symm, B5.out⟩
          · have Q5 := hide (eqb_iff.1 P5.out)
            have d6x : w5.cell? ⟨w.heap.size, 6, none⟩ = some (.slice xa6 xn6 xc6) := M5.out 6 _ (by rw [XE.out]; rfl)
            have d6y : w5.cell? ⟨w.heap.size + 1, 6, none⟩ = some (.slice ya6 yn6 yc6) := O5.out 6 _ (by rw [YE.out]; rfl)
            go_wp2_with fail
            refine Calls.mono (HC6.out w5 B5.out) ?_
            rintro e w6 ⟨rfl, b6⟩
            have B6 := hide (chain B5.out b6)
            have M6 := hide (vrange_below M5.out b6)
            have O6 := hide (vrange_below O5.out b6)
            clear d6x d6y b6
            generalize hq : eqb Classical.propDecidable (up = up') = r6 at *
            have P6 := hide hq
            clear hq
            cases r6
            · go_wp2
              go_ret
              exact ⟨ret_bool (eqb_no (fun h => by have h3 := P6.out; rw [eqb_yes h.2.2.2.2.2.1] at h3; exact absurd h3 (by decide))).symm, B6.out⟩
            · have Q6 := hide (eqb_iff.1 P6.out)
              have d7x : w6.cell? ⟨w.heap.size, 7, none⟩ = some (.slice xa7 xn7 xc7) := M6.out 7 _ (by rw [XE.out]; rfl)
              have d7y : w6.cell? ⟨w.heap.size + 1, 7, none⟩ = some (.slice ya7 yn7 yc7) := O6.out 7 _ (by rw [YE.out]; rfl)
              go_wp2_with fail
              refine Calls.mono (HC7.out w6 B6.out) ?_
              rintro e w7 ⟨rfl, b7⟩
              have B7 := hide (chain B6.out b7)
              have M7 := hide (vrange_below M6.out b7)
              have O7 := hide (vrange_below O6.out b7)
              clear d7x d7y b7
              generalize hq : eqb Classical.propDecidable (sems = sems') = r7 at *
              have P7 := hide hq
              clear hq
              cases r7
              · go_wp2
                go_ret
                exact ⟨ret_bool (eqb_no (fun h => by have h3 := P7.out; rw [eqb_yes h.2.2.2.2.2.2.1] at h3; exact absurd h3 (by decide))).symm, B7.out⟩
              · have Q7 := hide (eqb_iff.1 P7.out)
                have d8x : w7.cell? ⟨w.heap.size, 8, none⟩ = some (.slice xa8 xn8 xc8) := M7.out 8 _ (by rw [XE.out]; rfl)
                have d8y : w7.cell? ⟨w.heap.size + 1, 8, none⟩ = some (.slice ya8 yn8 yc8) := O7.out 8 _ (by rw [YE.out]; rfl)
                go_wp2_with fail
                refine Calls.mono (HC8.out w7 B7.out) ?_
                rintro e w8 ⟨rfl, b8⟩
                have B8 := hide (chain B7.out b8)
                have M8 := hide (vrange_below M7.out b8)
                have O8 := hide (vrange_below O7.out b8)
                clear d8x d8y b8
                generalize hq : eqb Classical.propDecidable (ports = ports') = r8 at *
                have P8 := hide hq
                clear hq
                cases r8
                · go_wp2
                  go_ret
                  exact ⟨ret_bool (eqb_no (fun h => by have h3 := P8.out; rw [eqb_yes h.2.2.2.2.2.2.2] at h3; exact absurd h3 (by decide))).symm, B8.out⟩
                · have Q8 := hide (eqb_iff.1 P8.out)
                  go_wp2
                  go_ret
                  exact ⟨ret_bool (eqb_yes ⟨rfl, rfl, Q3.out, Q4.out, Q5.out, Q6.out, Q7.out, Q8.out⟩).symm, B8.out⟩
    · have hne : (frame == frame') = false := by rw [beq_eq_false_iff_ne]; exact hfr
      have HX : Hid (¬ frame = frame') := hfr
      clear hfr
      go_wp2
      go_ret
      exact ⟨ret_bool (eqb_no (fun h => HX.out h.2.1)).symm, HB0.out⟩
  · have hne : (id == id') = false := by rw [beq_eq_false_iff_ne]; exact hid
    have HX : Hid (¬ id = id') := hid
    clear hid
    go_wp2
    go_ret
    exact ⟨ret_bool (eqb_no (fun h => HX.out h.1)).symm, HB0.out⟩

def Sk.same (s t : Sk) : Prop := s.epoch = t.epoch ∧ s.but t ∧ s.pages = t.pages
def Sk.alike (s t : Sk) : Prop := s.but t ∧ s.pages.map pk = t.pages.map pk
theorem infoState : (Try.prog.info? 29).map (·.size) = some 10 := by kernel_rfl

set_option maxRecDepth 100000 in
set_option maxHeartbeats 3200000 in
theorem same_any (s t : Sk) (cs cs' : List Value) (w : World) (hs : Sv w cs s) (hs' : Sv w cs' t) :
    Calls Try.prog 7 #[.agg cs.toArray, .agg cs'.toArray] w fun e w' => e = .returned (.bool (eqb Classical.propDecidable (s.same t))) ∧ Below w.heap.size w w' := by
  have HBUT : Hid (∀ W, Below w.heap.size w W → Calls Try.prog 12 #[.agg cs.toArray, .agg cs'.toArray] W fun e w' => e = .returned (.bool (eqb Classical.propDecidable (s.but t))) ∧ Below W.heap.size W w') := fun W hb => sameBut_any s t cs cs' W (hs.below hb) (hs'.below hb)
  obtain ⟨bt, hbt⟩ : ∃ bt, s.but t = bt := ⟨_, rfl⟩
  rw [hbt] at HBUT
  have HBT := hide hbt
  clear hbt
  obtain ⟨id, frame, epoch, procs, ready, timers, up, sems, ports, pages⟩ := s
  obtain ⟨id', frame', epoch', procs', ready', timers', up', sems', ports', pages'⟩ := t
  obtain ⟨xa3, xn3, xc3, xa4, xn4, xc4, xa5, xn5, xc5, xa6, xn6, xc6, xa7, xn7, xc7, xa8, xn8, xc8, xa9, xn9, xc9, xe, xh3, xh4, xh5, xh6, xh7, xh8, xh9⟩ := hs
  obtain ⟨ya3, yn3, yc3, ya4, yn4, yc4, ya5, yn5, yc5, ya6, yn6, yc6, ya7, yn7, yc7, ya8, yn8, yc8, ya9, yn9, yc9, ye, yh3, yh4, yh5, yh6, yh7, yh8, yh9⟩ := hs'
  have n1 := rangeNew w cs 29
  have n1b := vrange_below n1 (one_below (w.alloc (.cells cs.toArray 29)) (.cells cs'.toArray 29))
  have n2 := rangeNew (w.alloc (.cells cs.toArray 29)) cs' 29
  have hsz : (w.alloc (.cells cs.toArray 29)).heap.size = w.heap.size + 1 := by simp
  rw [hsz] at n2
  have HB0 := hide (two_below w (.cells cs.toArray 29) (.cells cs'.toArray 29))
  have N1 := hide n1b
  have N2 := hide n2
  have XE := hide xe
  have YE := hide ye
  have HPG : Hid (∀ W, Below w.heap.size w W → Calls Try.prog 13 #[.slice xa9 xn9 xc9, .slice ya9 yn9 yc9] W fun e w' => e = .returned (.bool (eqb Classical.propDecidable (pages = pages'))) ∧ Below W.heap.size W w') := fun W hb => slEq_page xa9 xn9 xc9 pages ya9 yn9 yc9 pages' W (xh9.below hb) (yh9.below hb)
  have HUS := hide Try.underlying29
  have HIS1 : Hid ((Try.prog.info? 29).map (·.size) = some cs.length) := by unfold Hid; rw [xe]; exact infoState
  have HIS2 : Hid ((Try.prog.info? 29).map (·.size) = some cs'.length) := by unfold Hid; rw [ye]; exact infoState
  clear xh3 yh3 xh4 yh4 xh5 yh5 xh6 yh6 xh7 yh7 xh8 yh8 xh9 yh9 xe ye n1 n1b n2 hsz
  go_enter Try.func7, Try.ntmps7
  go_upto_region 1 with fail
  generalize (w.alloc (.cells cs.toArray 29)).alloc (.cells cs'.toArray 29) = W0 at *
  have d2x : W0.cell? ⟨w.heap.size, 2, none⟩ = some (.int .i64 epoch) := N1.out 2 _ (by rw [XE.out]; rfl)
  have d2y : W0.cell? ⟨w.heap.size + 1, 2, none⟩ = some (.int .i64 epoch') := N2.out 2 _ (by rw [YE.out]; rfl)
  by_cases hep : epoch = epoch'
  · subst hep
    refine wp_region_list ?_
    refine wpList_tail (pre := [{ dst := some 5, op := Go.Op.fieldAddr 29 (Go.Operand.tmp 2) 2, type := 0, pos := "valid.go:47", after := #[], guard := none }, { dst := some 6, op := Go.Op.load 3 (Go.Operand.tmp 5), type := 3, pos := "valid.go:47", after := #[{ on := 0, ground := Go.Ground.data }], guard := none }, { dst := some 7, op := Go.Op.fieldAddr 29 (Go.Operand.tmp 3) 2, type := 0, pos := "valid.go:47", after := #[], guard := none }, { dst := some 8, op := Go.Op.load 3 (Go.Operand.tmp 7), type := 3, pos := "valid.go:47", after := #[{ on := 2, ground := Go.Ground.data }], guard := none }, { dst := some 9, op := Go.Op.binOp Go.BinOp.eql 3 (Go.Operand.tmp 6) (Go.Operand.tmp 8) 3, type := 4, pos := "valid.go:47", after := #[{ on := 1, ground := Go.Ground.data }, { on := 3, ground := Go.Ground.data }], guard := none }, { dst := some 10, op := Go.Op.move (Go.Operand.tmp 9), type := 4, pos := "valid.go:47", after := #[{ on := 4, ground := Go.Ground.data }], guard := none }]) _ ?_
    intro tl htl
    have HTL := hide htl
    clear htl
    simp only [List.cons_append, List.nil_append]
    go_wp2_with fail
    have htl := HTL.out
    clear HTL
    subst htl
    refine wpList_load_g (op := { dst := some 11, op := Go.Op.load 29 (Go.Operand.tmp 2), type := 29, pos := "valid.go:47", after := #[{ on := 5, ground := Go.Ground.guard }], guard := some (5, true) }) (by rfl) 29 (.tmp 2) rfl w.heap.size (0) rfl cs _ N1.out HUS.out rfl HIS1.out ?_
    simp only [Act.put, List.setIfInBounds_toArray, List.set_cons_zero, List.set_cons_succ]
    refine wpList_load_g (op := { dst := some 12, op := Go.Op.load 29 (Go.Operand.tmp 3), type := 29, pos := "valid.go:47", after := #[{ on := 5, ground := Go.Ground.guard }], guard := some (5, true) }) (by rfl) 29 (.tmp 3) rfl (w.heap.size + 1) (0) rfl cs' _ N2.out HUS.out rfl HIS2.out ?_
    simp only [Act.put, List.setIfInBounds_toArray, List.set_cons_zero, List.set_cons_succ]
    go_wp2_with fail
    refine Calls.mono (HBUT.out W0 HB0.out) ?_
    rintro e w1 ⟨rfl, b1⟩
    have B1 := hide (chain HB0.out b1)
    have M1 := hide (vrange_below N1.out b1)
    have O1 := hide (vrange_below N2.out b1)
    clear b1
    generalize hq : eqb Classical.propDecidable bt = r1 at *
    have P1 := hide hq
    clear hq
    cases r1
    · go_wp2
      go_ret
      exact ⟨ret_bool (eqb_no (fun h => by have h3 := P1.out; rw [eqb_yes (HBT.out ▸ h.2.1)] at h3; exact absurd h3 (by decide))).symm, B1.out⟩
    · have Q1 := hide (eqb_iff.1 P1.out)
      have d9x : w1.cell? ⟨w.heap.size, 9, none⟩ = some (.slice xa9 xn9 xc9) := M1.out 9 _ (by rw [XE.out]; rfl)
      have d9y : w1.cell? ⟨w.heap.size + 1, 9, none⟩ = some (.slice ya9 yn9 yc9) := O1.out 9 _ (by rw [YE.out]; rfl)
      go_wp2_with fail
      refine Calls.mono (HPG.out w1 B1.out) ?_
      rintro e w2 ⟨rfl, b2⟩
      have B2 := hide (chain B1.out b2)
      clear b2
      go_wp2
      go_ret
      exact ⟨ret_bool (eqb_congr ⟨fun h => ⟨rfl, HBT.out.symm ▸ Q1.out, h⟩, fun h => h.2.2⟩), B2.out⟩
  · have hne : (epoch == epoch') = false := by rw [beq_eq_false_iff_ne]; exact hep
    have HX : Hid (¬ epoch = epoch') := hep
    clear hep
    go_wp2
    go_ret
    exact ⟨ret_bool (eqb_no (fun h => HX.out h.1)).symm, HB0.out⟩

set_option maxRecDepth 100000 in
set_option maxHeartbeats 3200000 in
theorem alike_any (s t : Sk) (cs cs' : List Value) (w : World) (hs : Sv w cs s) (hs' : Sv w cs' t) :
    Calls Try.prog 8 #[.agg cs.toArray, .agg cs'.toArray] w fun e w' => e = .returned (.bool (eqb Classical.propDecidable (s.alike t))) ∧ Below w.heap.size w w' := by
  have HBUT : Hid (∀ W, Below w.heap.size w W → Calls Try.prog 12 #[.agg cs.toArray, .agg cs'.toArray] W fun e w' => e = .returned (.bool (eqb Classical.propDecidable (s.but t))) ∧ Below W.heap.size W w') := fun W hb => sameBut_any s t cs cs' W (hs.below hb) (hs'.below hb)
  obtain ⟨bt, hbt⟩ : ∃ bt, s.but t = bt := ⟨_, rfl⟩
  rw [hbt] at HBUT
  have HBT := hide hbt
  clear hbt
  obtain ⟨id, frame, epoch, procs, ready, timers, up, sems, ports, pages⟩ := s
  obtain ⟨id', frame', epoch', procs', ready', timers', up', sems', ports', pages'⟩ := t
  obtain ⟨xa3, xn3, xc3, xa4, xn4, xc4, xa5, xn5, xc5, xa6, xn6, xc6, xa7, xn7, xc7, xa8, xn8, xc8, xa9, xn9, xc9, xe, xh3, xh4, xh5, xh6, xh7, xh8, xh9⟩ := hs
  obtain ⟨ya3, yn3, yc3, ya4, yn4, yc4, ya5, yn5, yc5, ya6, yn6, yc6, ya7, yn7, yc7, ya8, yn8, yc8, ya9, yn9, yc9, ye, yh3, yh4, yh5, yh6, yh7, yh8, yh9⟩ := hs'
  have n1 := rangeNew w cs 29
  have n1b := vrange_below n1 (one_below (w.alloc (.cells cs.toArray 29)) (.cells cs'.toArray 29))
  have n2 := rangeNew (w.alloc (.cells cs.toArray 29)) cs' 29
  have hsz : (w.alloc (.cells cs.toArray 29)).heap.size = w.heap.size + 1 := by simp
  rw [hsz] at n2
  have HB0 := hide (two_below w (.cells cs.toArray 29) (.cells cs'.toArray 29))
  have N1 := hide n1b
  have N2 := hide n2
  have XE := hide xe
  have YE := hide ye
  have HPG : Hid (∀ W, Below w.heap.size w W → Calls Try.prog 14 #[.slice xa9 xn9 xc9, .slice ya9 yn9 yc9, .func (.func 15) #[] #[]] W fun e w' => e = .returned (.bool (eqb Classical.propDecidable (pages.map pk = pages'.map pk))) ∧ Below W.heap.size W w') := fun W hb => alikes_any xa9 xn9 xc9 pages ya9 yn9 yc9 pages' W (xh9.below hb) (yh9.below hb)
  have HUS := hide Try.underlying29
  have HIS1 : Hid ((Try.prog.info? 29).map (·.size) = some cs.length) := by unfold Hid; rw [xe]; exact infoState
  have HIS2 : Hid ((Try.prog.info? 29).map (·.size) = some cs'.length) := by unfold Hid; rw [ye]; exact infoState
  clear xh3 yh3 xh4 yh4 xh5 yh5 xh6 yh6 xh7 yh7 xh8 yh8 xh9 yh9 xe ye n1 n1b n2 hsz
  go_enter Try.func8, Try.ntmps8
  go_upto_region 1 with fail
  generalize (w.alloc (.cells cs.toArray 29)).alloc (.cells cs'.toArray 29) = W0 at *
  refine wp_region_list ?_
  refine wpList_load_g (op := { dst := some 5, op := Go.Op.load 29 (Go.Operand.tmp 2), type := 29, pos := "valid.go:52", after := #[], guard := none }) (by rfl) 29 (.tmp 2) rfl w.heap.size (0) rfl cs _ N1.out HUS.out rfl HIS1.out ?_
  simp only [Act.put, List.setIfInBounds_toArray, List.set_cons_zero, List.set_cons_succ]
  refine wpList_load_g (op := { dst := some 6, op := Go.Op.load 29 (Go.Operand.tmp 3), type := 29, pos := "valid.go:52", after := #[], guard := none }) (by rfl) 29 (.tmp 3) rfl (w.heap.size + 1) (0) rfl cs' _ N2.out HUS.out rfl HIS2.out ?_
  simp only [Act.put, List.setIfInBounds_toArray, List.set_cons_zero, List.set_cons_succ]
  go_wp2_with fail
  refine Calls.mono (HBUT.out W0 HB0.out) ?_
  rintro e w1 ⟨rfl, b1⟩
  have B1 := hide (chain HB0.out b1)
  have M1 := hide (vrange_below N1.out b1)
  have O1 := hide (vrange_below N2.out b1)
  clear b1
  generalize hq : eqb Classical.propDecidable bt = r1 at *
  have P1 := hide hq
  clear hq
  cases r1
  · go_wp2
    go_ret
    exact ⟨ret_bool (eqb_no (fun h => by have h3 := P1.out; rw [eqb_yes (HBT.out ▸ h.1)] at h3; exact absurd h3 (by decide))).symm, B1.out⟩
  · have Q1 := hide (eqb_iff.1 P1.out)
    have d9x : w1.cell? ⟨w.heap.size, 9, none⟩ = some (.slice xa9 xn9 xc9) := M1.out 9 _ (by rw [XE.out]; rfl)
    have d9y : w1.cell? ⟨w.heap.size + 1, 9, none⟩ = some (.slice ya9 yn9 yc9) := O1.out 9 _ (by rw [YE.out]; rfl)
    go_wp2_with fail
    refine Calls.mono (HPG.out w1 B1.out) ?_
    rintro e w2 ⟨rfl, b2⟩
    have B2 := hide (chain B1.out b2)
    clear b2
    go_wp2
    go_ret
    exact ⟨ret_bool (eqb_congr ⟨fun h => ⟨HBT.out.symm ▸ Q1.out, h⟩, fun h => h.2⟩), B2.out⟩
end Go.Proofs.Ytkjbcnlhallcdaa
