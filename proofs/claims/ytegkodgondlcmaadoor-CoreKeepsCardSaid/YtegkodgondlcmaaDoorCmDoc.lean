/-
  The document's machine in memory, its small functions; the document's arithmetic in one word.
-/
import Derived.Test.YtegkodgondlcmaaDoorCmSplit
import Derived.Test.YtegkodgondlcmaaDoorRefDo2
import Derived.Test.YtegkodgondlcmaaDoorPgRef2
import Derived.Test.YtegkodgondlcmaaDoorIsFetch
namespace Go.Proofs.YtegkodgondlcmaaDoor
open Go.RowKit FerryCrc FerryAlu
set_option linter.unusedVariables false
set_option linter.unusedSimpArgs false

/-- What the document's Do answers, for every operation. -/
theorem refDo_all (op : Int) (b c : Nat) (w : World) (h1 : 1 ≤ op) (h2 : op ≤ 15) (hb : b < 4294967296) (hc : c < 4294967296) :
    Calls Tryd.prog 34 #[.int .i64 op, .int .u32 (b : Int), .int .u32 (c : Int)] w fun e w' => (∃ (x k : Nat), e = .returned (.tuple #[.int .u32 (x : Int), .int .i64 (k : Int)]) ∧ ((k = 0 ∧ aluV op b c = some x) ∨ (k = 20 ∧ aluV op b c = none))) ∧ Below w.heap.size w w' := by
  have one : ∀ {x : Nat}, aluV op b c = some x → (Calls Tryd.prog 34 #[.int .i64 op, .int .u32 (b : Int), .int .u32 (c : Int)] w fun e w' => e = .returned (.tuple #[.int .u32 (x : Int), .int .i64 0]) ∧ Below w.heap.size w w') → Calls Tryd.prog 34 #[.int .i64 op, .int .u32 (b : Int), .int .u32 (c : Int)] w fun e w' => (∃ (x k : Nat), e = .returned (.tuple #[.int .u32 (x : Int), .int .i64 (k : Int)]) ∧ ((k = 0 ∧ aluV op b c = some x) ∨ (k = 20 ∧ aluV op b c = none))) ∧ Below w.heap.size w w' := fun hx h => h.mono (by
    rintro e w' ⟨rfl, hb⟩
    exact ⟨⟨_, 0, rfl, .inl ⟨rfl, hx⟩⟩, hb⟩)
  have two : aluV op b c = none → (Calls Tryd.prog 34 #[.int .i64 op, .int .u32 (b : Int), .int .u32 (c : Int)] w fun e w' => e = .returned (.tuple #[.int .u32 0, .int .i64 20]) ∧ Below w.heap.size w w') → Calls Tryd.prog 34 #[.int .i64 op, .int .u32 (b : Int), .int .u32 (c : Int)] w fun e w' => (∃ (x k : Nat), e = .returned (.tuple #[.int .u32 (x : Int), .int .i64 (k : Int)]) ∧ ((k = 0 ∧ aluV op b c = some x) ∨ (k = 20 ∧ aluV op b c = none))) ∧ Below w.heap.size w w' := fun hx h => h.mono (by
    rintro e w' ⟨rfl, hb⟩
    exact ⟨⟨0, 20, rfl, .inr ⟨rfl, hx⟩⟩, hb⟩)
  rcases (by omega : op = 1 ∨ op = 2 ∨ op = 3 ∨ op = 4 ∨ op = 5 ∨ op = 6 ∨ op = 7 ∨ op = 8 ∨ op = 9 ∨ op = 10 ∨ op = 11 ∨ op = 12 ∨ op = 13 ∨ op = 14 ∨ op = 15) with rfl | rfl | rfl | rfl | rfl | rfl | rfl | rfl | rfl | rfl | rfl | rfl | rfl | rfl | rfl
  · exact one rfl (refDo_add b c w hb hc)
  · exact one rfl (refDo_sub b c w hb hc)
  · exact one rfl (refDo_and b c w hb hc)
  · exact one rfl (refDo_or b c w hb hc)
  · exact one rfl (refDo_xor b c w hb hc)
  · exact one rfl (refDo_shl b c w hb hc)
  · exact one rfl (refDo_shr b c w hb hc)
  · exact one rfl (refDo_sar b c w hb hc)
  · exact one rfl (refDo_mul b c w hb hc)
  · by_cases h0 : c = 0
    · subst h0
      exact two rfl (refDo_zero10 b w hb)
    · exact one (by unfold aluV; simp [h0]) (refDo_divu b c w hb hc h0)
  · by_cases h0 : c = 0
    · subst h0
      exact two rfl (refDo_zero11 b w hb)
    · exact one (by unfold aluV; simp [h0]) (refDo_divs b c w hb hc h0)
  · by_cases h0 : c = 0
    · subst h0
      exact two rfl (refDo_zero12 b w hb)
    · exact one (by unfold aluV; simp [h0]) (refDo_remu b c w hb hc h0)
  · by_cases h0 : c = 0
    · subst h0
      exact two rfl (refDo_zero13 b w hb)
    · exact one (by unfold aluV; simp [h0]) (refDo_rems b c w hb hc h0)
  · exact one rfl (refDo_sltu b c w hb hc)
  · exact one rfl (refDo_slts b c w hb hc)
theorem refTest_all (op : Int) (b c : Nat) (w : World) (h1 : 48 ≤ op) (h2 : op ≤ 53) (hb : b < 4294967296) (hc : c < 4294967296) :
    Calls Tryd.prog 39 #[.int .i64 op, .int .u32 (b : Int), .int .u32 (c : Int)] w fun e w' => e = .returned (.tuple #[.bool (tstV op b c), .int .i64 0]) ∧ w = w' := by
  rcases (by omega : op = 48 ∨ op = 49 ∨ op = 50 ∨ op = 51 ∨ op = 52 ∨ op = 53) with rfl | rfl | rfl | rfl | rfl | rfl
  · exact refTest_eq b c w hb hc
  · exact refTest_ne b c w hb hc
  · exact refTest_ltu b c w hb hc
  · exact refTest_lts b c w hb hc
  · exact refTest_geu b c w hb hc
  · exact refTest_ges b c w hb hc

/-- The document's machine: as the program's, its last stop behind it. -/
structure DAt (w : World) (mb base : Nat) (v : Value) (m : Mc) (k s c : Int) : Prop where
  m : MAt w mb base v m
  s0 : w.cell? ⟨mb, 22, none⟩ = some (.int .i64 k)
  s1 : w.cell? ⟨mb, 23, none⟩ = some (.int .i64 s)
  s2 : w.cell? ⟨mb, 24, none⟩ = some (.int .i64 c)
theorem DAt.below {w w' : World} {mb base : Nat} {v : Value} {m : Mc} {k s c : Int} (h : DAt w mb base v m k s c) (hb : Below w.heap.size w w') : DAt w' mb base v m k s c :=
  ⟨h.m.below hb, by rw [hb.cell (p := ⟨mb, 22, none⟩) h.m.lt]; exact h.s0, by rw [hb.cell (p := ⟨mb, 23, none⟩) h.m.lt]; exact h.s1, by rw [hb.cell (p := ⟨mb, 24, none⟩) h.m.lt]; exact h.s2⟩
theorem blw_drewN (w : World) (n : Nat) : Below w.heap.size w (w.drewN n) := ⟨rfl, rfl, rfl, Nat.le_refl _, fun _ _ => rfl⟩
theorem DAt.setCell {w : World} {mb base : Nat} {v v' : Value} {m m' : Mc} {k s c : Int} (h : DAt w mb base v m k s c) {j : Nat} (hj : j < 22) (u : Value) (hm : MAt (w.setCell ⟨mb, j, none⟩ u) mb base v' m') : DAt (w.setCell ⟨mb, j, none⟩ u) mb base v' m' k s c :=
  ⟨hm, by rw [World.cell?_setCell_other _ _ _ _ (by simp <;> omega)]; exact h.s0, by rw [World.cell?_setCell_other _ _ _ _ (by simp <;> omega)]; exact h.s1, by rw [World.cell?_setCell_other _ _ _ _ (by simp <;> omega)]; exact h.s2⟩
theorem DAt.setR {w : World} {mb base : Nat} {v : Value} {m : Mc} {k s c : Int} (h : DAt w mb base v m k s c) {j r : Nat} (hj : j < 16) (h0 : j ≠ 0) (hr : r < 4294967296) : DAt (w.setCell ⟨mb, 1 + j, none⟩ (.int .u32 (r : Int))) mb base v (m.setR j r) k s c :=
  h.setCell (by omega) _ (h.m.setReg hj h0 hr)
theorem DAt.setP {w : World} {mb base : Nat} {v : Value} {m : Mc} {k s c : Int} (h : DAt w mb base v m k s c) {p : Nat} (hp : p < 4294967296) : DAt (w.setCell ⟨mb, 17, none⟩ (.int .u32 (p : Int))) mb base v (m.setP p) k s c :=
  h.setCell (by omega) _ (h.m.setPc hp)
/-- A cell behind the process is another's. -/
theorem MAt.far {w : World} {mb base : Nat} {v : Value} {m : Mc} (h : MAt w mb base v m) {j : Nat} (hj : 22 ≤ j) (u : Value) : MAt (w.setCell ⟨mb, j, none⟩ u) mb base v m := by
  have hl := proc_len h.ok
  refine ⟨⟨fun i x hx => ?_, fun i => by rw [World.frozen?_setCell]; exact h.bl.free i⟩, own_far h.own h.ne, h.ne, h.ok, h.le, by simpa [World.setCell] using h.lt, by simpa [World.setCell] using h.size⟩
  have hi : i < 22 := by
    have := (List.getElem?_eq_some_iff.1 hx).1
    simp only [List.length_cons, hl] at this
    omega
  rw [World.cell?_setCell_other _ _ _ _ (by simp <;> omega)]
  exact h.bl.cell i x hx
theorem DAt.stop {w : World} {mb base : Nat} {v : Value} {m : Mc} {k s c : Int} (h : DAt w mb base v m k s c) (k' s' c' : Int) : DAt (((w.setCell ⟨mb, 22, none⟩ (.int .i64 k')).setCell ⟨mb, 23, none⟩ (.int .i64 s')).setCell ⟨mb, 24, none⟩ (.int .i64 c')) mb base v m k' s' c' := by
  have e0 := World.cell?_setCell_same w ⟨mb, 22, none⟩ (.int .i64 k') h.s0
  have e1 : (w.setCell ⟨mb, 22, none⟩ (.int .i64 k')).cell? ⟨mb, 23, none⟩ = some (.int .i64 s) := by rw [World.cell?_setCell_other _ _ _ _ (by simp)]; exact h.s1
  have e1' := World.cell?_setCell_same _ ⟨mb, 23, none⟩ (.int .i64 s') e1
  have e2 : ((w.setCell ⟨mb, 22, none⟩ (.int .i64 k')).setCell ⟨mb, 23, none⟩ (.int .i64 s')).cell? ⟨mb, 24, none⟩ = some (.int .i64 c) := by rw [World.cell?_setCell_other _ _ _ _ (by simp), World.cell?_setCell_other _ _ _ _ (by simp)]; exact h.s2
  have e2' := World.cell?_setCell_same _ ⟨mb, 24, none⟩ (.int .i64 c') e2
  refine ⟨((h.m.far (by omega) _).far (by omega) _).far (by omega) _, ?_, ?_, e2'⟩
  · rw [World.cell?_setCell_other _ _ _ _ (by simp), World.cell?_setCell_other _ _ _ _ (by simp)]
    exact e0
  · rw [World.cell?_setCell_other _ _ _ _ (by simp)]
    exact e1'

set_option maxRecDepth 100000 in
theorem rset_any {w : World} {mb base : Nat} {v : Value} {m : Mc} {x y z : Int} (h : DAt w mb base v m x y z) (k r : Nat) (hk : k < 16) (hr : r < 4294967296) : Calls Tryd.prog 35 #[.pointer (some ⟨mb, 0, none⟩), .int .i64 (k : Int), .int .u32 (r : Int)] w fun e w' => e = .returned (.tuple #[]) ∧ DAt w' mb base v (m.setR k r) x y z ∧ Oth (some mb) w w' := by
  by_cases h0 : k = 0
  · subst h0
    have HM := hide h
    clear h
    go_enter Tryd.func35, Tryd.ntmps35
    go_wp2
    go_end0
    exact ⟨rfl, HM.out, Oth.refl _ _⟩
  · have d0 : ((k : Int) != 0) = true := by rw [bne_iff_ne]; omega
    have k1 : (k : Int) < 16 := by omega
    have c0 := h.m.reg hk
    have f0 := h.m.bl.free (1 + k)
    have HM := hide (h.setR hk h0 hr)
    have HB := hide ((Oth.refl (some mb) w).setCell (j := 1 + k) (.int .u32 (r : Int)))
    clear h
    go_enter Tryd.func35, Tryd.ntmps35
    go_wp2
    go_end0
    exact ⟨rfl, HM.out, HB.out⟩
set_option maxRecDepth 100000 in
theorem rfault_any {w : World} {mb base : Nat} {v : Value} {m : Mc} {x y z : Int} (h : DAt w mb base v m x y z) (f : Int) : Calls Tryd.prog 32 #[.pointer (some ⟨mb, 0, none⟩), .int .i64 f] w fun e w' => e = .returned (.tuple #[]) ∧ DAt w' mb base v m 2 1 f ∧ Oth (some mb) w w' := by
  have c0 := h.s0
  have c1 := h.s1
  have c2 := h.s2
  have f0 := h.m.bl.free 22
  have f1 := h.m.bl.free 23
  have f2 := h.m.bl.free 24
  have HM := hide (h.stop 2 1 f)
  have HB := hide ((((Oth.refl (some mb) w).setCell (j := 22) (.int .i64 2)).setCell (j := 23) (.int .i64 1)).setCell (j := 24) (.int .i64 f))
  clear h
  go_enter Tryd.func32, Tryd.ntmps32
  go_wp2
  go_end0
  exact ⟨rfl, HM.out, HB.out⟩
set_option maxRecDepth 100000 in
theorem rword_any (n : Int) (w : World) (h1 : -32768 ≤ n) (h2 : n ≤ 65535) : Calls Tryd.prog 33 #[.int .i64 n] w fun e w' => e = .returned (.int .u32 ((un n : Nat) : Int)) ∧ w = w' := by
  have e0 : n % 4294967296 = ((un n : Nat) : Int) := (un_cast n).symm
  by_cases hn : n < 0
  · have e1 : (n + 4294967296) % 4294967296 = ((un n : Nat) : Int) := by omega
    have HE := hide e1
    clear e0 e1
    go_enter Tryd.func33, Tryd.ntmps33
    go_wp2
    go_ret
    refine ⟨?_, rfl⟩
    rw [← HE.out]
    simp [Act.eval]
    omega
  · have hn' : 0 ≤ n := by omega
    have HE := hide e0
    clear e0 hn
    go_enter Tryd.func33, Tryd.ntmps33
    go_wp2
    go_ret
    refine ⟨?_, rfl⟩
    rw [← HE.out]
    simp [Act.eval]
    omega
set_option maxRecDepth 100000 in
theorem rsize_any (op : Int) (w : World) : Calls Tryd.prog 37 #[.int .i64 op] w fun e w' => e = .returned (.int .i64 ((szI op : Nat) : Int)) ∧ w = w' := by
  go_enter Tryd.func37, Tryd.ntmps37
  go_wp2
  all_goals
    go_ret
    refine ⟨?_, rfl⟩
    simp only [beq_iff_eq, beq_eq_false_iff_ne, ne_eq, decide_eq_true_eq, decide_eq_false_iff_not] at *
    unfold szI
    repeat' split
  all_goals first | rfl | (exfalso; omega)
end Go.Proofs.YtegkodgondlcmaaDoor
