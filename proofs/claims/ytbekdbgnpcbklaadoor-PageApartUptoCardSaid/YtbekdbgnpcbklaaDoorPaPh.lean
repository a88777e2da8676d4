/-
  The state of apart's second part: lists with marks, and the slices that were grown of them.
-/
import Derived.Test.YtbekdbgnpcbklaaDoorPaMark
import Derived.Test.YtbekdbgnpcbklaaDoorRcs
namespace Go.Proofs.YtbekdbgnpcbklaaDoor
open Go.RowKit
set_option linter.unusedVariables false
set_option linter.unusedSimpArgs false

def Sl.cell (s : Sl) : List Value := [s.v]
theorem sl1 (s : Sl) : s.cell.length = 1 := rfl
theorem sl_one (l : List Sl) : ∀ u ∈ l.flatMap Sl.cell, u.oneCell' = true := by
  intro u hu
  obtain ⟨p, _, hp⟩ := List.mem_flatMap.1 hu
  simp only [Sl.cell, List.mem_cons, List.not_mem_nil, or_false] at hp
  rw [hp]
  rfl
theorem Sl.inj {s t : Sl} (h : s.v = t.v) : s = t := by
  cases s
  cases t
  simp only [Sl.v, Value.slice.injEq] at h
  obtain ⟨rfl, rfl, rfl⟩ := h
  rfl
/-- Lists of one's own. -/
structure Lists (w : World) (B : Nat) (LL : List Sl) (MS : Nat → List Pg) : Prop where
  own : ∀ (j : Nat) (s : Sl), LL[j]? = some s → POwn w B s.v (MS j)
  ok : ∀ (j : Nat) (s : Sl), LL[j]? = some s → Oks (MS j)
  len : ∀ (j : Nat) (s : Sl), LL[j]? = some s → (MS j).length = s.n
theorem Lists.below {w w' : World} {B : Nat} {LL : List Sl} {MS : Nat → List Pg} (h : Lists w B LL MS) (hb : Below w.heap.size w w') : Lists w' B LL MS := ⟨fun j s hs => (h.own j s hs).below hb, h.ok, h.len⟩
/-- No two of them share a block. -/
def Apt (LL : List Sl) : Prop := ∀ (i j : Nat) (s t : Sl) (g : Nat), LL[i]? = some s → LL[j]? = some t → s.v.ownBlock = some g → t.v.ownBlock = some g → i = j
theorem wrap_mark {k : Nat} (h : k < 100) : wrap64 (-5 - (k : Int)) = -5 - (k : Int) := by
  rw [← IntWalk.i64_left, IntKind.wrap_i64]
  omega
/-- The colour of a block: the mark of the list that lies in it. -/
def col0 (LL : List Sl) (g : Nat) : Int :=
  match LL.findIdx? (fun s => decide (s.v.ownBlock = some g)) with
  | some k => -5 - (k : Int)
  | none => 0
theorem col0_at {LL : List Sl} (ha : Apt LL) {k g : Nat} {s : Sl} (hs : LL[k]? = some s) (hg : s.v.ownBlock = some g) : col0 LL g = -5 - (k : Int) := by
  unfold col0
  cases h : LL.findIdx? (fun s => decide (s.v.ownBlock = some g)) with
  | none =>
    have := List.findIdx?_eq_none_iff.1 h s (List.mem_of_getElem? hs)
    simp [hg] at this
  | some j =>
    obtain ⟨hj, h1, _⟩ := List.findIdx?_eq_some_iff_getElem.1 h
    have h2 := of_decide_eq_true h1
    have h3 : j = k := ha j k _ s g (List.getElem?_eq_getElem hj) hs h2 hg
    rw [h3]
theorem col0_no {LL : List Sl} {g : Nat} (h : ∀ (k : Nat) (s : Sl), LL[k]? = some s → s.v.ownBlock ≠ some g) : col0 LL g = 0 := by
  unfold col0
  have h1 : LL.findIdx? (fun s => decide (s.v.ownBlock = some g)) = none := by
    rw [List.findIdx?_eq_none_iff]
    intro s hs
    obtain ⟨k, hk⟩ := List.getElem?_of_mem hs
    exact decide_eq_false (h k s hk)
  rw [h1]

theorem infoSl : ∃ i z, Tryd.prog.info? 22 = some i ∧ i.zero = some z ∧ i.size = 1 ∧ i.bytes = 24 ∧ z.cells.size = 1 := by
  have h : (Tryd.prog.info? 22).map (fun i => (i.size, i.bytes, i.zero.map (·.cells.size))) = some (1, 24, some 1) := by kernel_rfl
  cases hi : Tryd.prog.info? 22 with
  | none => simp [hi] at h
  | some i =>
    simp only [hi, Option.map_some, Option.some.injEq, Prod.mk.injEq] at h
    obtain ⟨h1, h2, h3⟩ := h
    cases hz : i.zero with
    | none => simp [hz] at h3
    | some z => exact ⟨i, z, rfl, hz, h1, h2, by simpa [hz] using h3⟩
/-- What is left as it was: the blocks of U. -/
structure Unt (U : Nat → Prop) (w w' : World) : Prop where
  os : w'.os = w.os
  tape : w'.tape = w.tape
  output : w'.output = w.output
  size : w.heap.size ≤ w'.heap.size
  block : ∀ g, U g → w'.heap[g]? = w.heap[g]?
theorem Unt.refl (U : Nat → Prop) (w : World) : Unt U w w := ⟨rfl, rfl, rfl, Nat.le_refl _, fun _ _ => rfl⟩
theorem Unt.trans {U : Nat → Prop} {w w1 w2 : World} (h : Unt U w w1) (h2 : Unt U w1 w2) : Unt U w w2 :=
  ⟨h2.os.trans h.os, h2.tape.trans h.tape, h2.output.trans h.output, Nat.le_trans h.size h2.size, fun g hg => (h2.block g hg).trans (h.block g hg)⟩
theorem Unt.of {U : Nat → Prop} {w w' : World} {B : Nat} (h : Below B w w') (hU : ∀ g, U g → g < B) : Unt U w w' := ⟨h.os, h.tape, h.output, h.size, fun g hg => h.block g (hU g hg)⟩
theorem Unt.grown {U : Nat → Prop} {w w' : World} {row : Option Nat} (h : w.grownBy w' row) (hU : ∀ g, U g → g < w.heap.size ∧ row ≠ some g) : Unt U w w' :=
  ⟨h.os, h.tape, h.output, h.size, fun g hg => h.block g (hU g hg).1 (fun e => (hU g hg).2 e.symm)⟩
theorem Unt.set {U : Nat → Prop} (w : World) {b o : Nat} (u : Value) (hU : ¬ U b) : Unt U w (w.setCell ⟨b, o, none⟩ u) :=
  ⟨rfl, rfl, rfl, by simp [World.setCell], fun g hg => Below.heap_setCell _ _ _ _ (fun e => hU (by have e2 : g = b := e; rw [← e2]; exact hg))⟩
theorem Unt.alloc {U : Nat → Prop} (w : World) (o : Obj) (hU : ∀ g, U g → g < w.heap.size) : Unt U w (w.alloc o) := Unt.of ((Below.refl w.heap.size w).alloc (Nat.le_refl _) o) hU
theorem Gr.unt {U : Nat → Prop} {w w' : World} {col col' : Nat → Int} {m : Int} (h : Gr w w' col col' m) (hU : ∀ g, U g → g < w.heap.size ∧ col g ≠ m) : Unt U w w' :=
  ⟨h.os, h.tape, h.output, h.size, fun g hg => h.other g (hU g hg).1 (hU g hg).2⟩
structure Ph (U : Nat → Prop) (w : World) (B gL K cL : Nat) (LL : List Sl) (col : Nat → Int) (gr : Value) (GS : List Sl) : Prop where
  zero : ∀ g, w.heap.size ≤ g → col g = 0
  lists : ∀ (j : Nat) (s : Sl), LL[j]? = some s → Mk w col s (-5 - (j : Int))
  row : Rcs Sl.cell 1 w (some ⟨gL, 0, none⟩) K cL LL
  colL : col gL = 0
  gL_lt : gL < w.heap.size
  low : ∀ g, U g → col g = 0
  ult : ∀ g, U g → g < B
  hB : B ≤ w.heap.size
  grow : w.ownsRow B 22 1 gr GS.length (GS.flatMap Sl.cell)
  colG : ∀ g, gr.ownBlock = some g → col g = 0 ∧ g ≠ gL
  marks : ∀ (j : Nat) (s : Sl), GS[j]? = some s → Mk w col s (-5 - ((j / 2 : Nat) : Int))
  small : ∀ s ∈ GS, s.n ≤ 1500000
theorem ownsRow_block {w w' : World} {base : Nat} {e : TypeId} {sz : Nat} {v : Value} {n : Nat} {cs : List Value} (h : w.ownsRow base e sz v n cs) (hb : ∀ g, v.ownBlock = some g → w'.heap[g]? = w.heap[g]?) : w'.ownsRow base e sz v n cs := by
  refine ⟨h.1, ?_⟩
  rcases h.2 with e | ⟨g, cap, cur, e, hg, hh, r⟩
  · exact .inl e
  · refine .inr ⟨g, cap, cur, e, hg, ?_, r⟩
    rw [hb g (by rw [e]; rfl)]
    exact hh
theorem rcs_block {w w' : World} {g len cap : Nat} {l : List Sl} (h : Rcs Sl.cell 1 w (some ⟨g, 0, none⟩) len cap l) (hb : w'.heap[g]? = w.heap[g]?) : Rcs Sl.cell 1 w' (some ⟨g, 0, none⟩) len cap l :=
  ⟨h.size, h.row.size, h.row.fit, h.row.null, fun j v hv => by
    obtain ⟨b, o, e, hc⟩ := h.row.cell j v hv
    refine ⟨b, o, e, ?_⟩
    simp only [Option.some.injEq, Addr.mk.injEq, and_true] at e
    obtain ⟨rfl, rfl⟩ := e
    rw [World.cell?_of_block (a := ⟨g, 0 + j, none⟩) hb]
    exact hc⟩
theorem Ph.below {U : Nat → Prop} {w w' : World} {B gL K cL : Nat} {LL GS : List Sl} {col : Nat → Int} {gr : Value} (h : Ph U w B gL K cL LL col gr GS) (hb : Below w.heap.size w w') : Ph U w' B gL K cL LL col gr GS :=
  ⟨fun g hg => h.zero g (Nat.le_trans hb.size hg), fun j s hs => (h.lists j s hs).below hb (fun _ _ => rfl), h.row.below hb, h.colL, Nat.lt_of_lt_of_le h.gL_lt hb.size, h.low, h.ult, Nat.le_trans h.hB hb.size, ownsRow_below h.grow hb, h.colG, fun j s hs => (h.marks j s hs).below hb (fun _ _ => rfl), h.small⟩
theorem Ph.gr {U : Nat → Prop} {w w' : World} {B gL K cL : Nat} {LL GS : List Sl} {col col' : Nat → Int} {gr : Value} {m : Int} (h : Ph U w B gL K cL LL col gr GS) (hg : Gr w w' col col' m) (hm : m ≠ 0) : Ph U w' B gL K cL LL col' gr GS :=
  ⟨hg.zero, fun j s hs => hg.keep s _ (h.lists j s hs), rcs_block h.row (hg.other gL h.gL_lt (by rw [h.colL]; exact Ne.symm hm)), by rw [hg.cols gL h.gL_lt]; exact h.colL, Nat.lt_of_lt_of_le h.gL_lt hg.size, fun g hgB => by rw [hg.cols g (Nat.lt_of_lt_of_le (h.ult g hgB) h.hB)]; exact h.low g hgB, h.ult, Nat.le_trans h.hB hg.size,
    ownsRow_block h.grow (fun g hgr => hg.other g (World.ownsRow.lt h.grow g hgr).2 (by rw [(h.colG g hgr).1]; exact Ne.symm hm)), fun g hgr => by rw [hg.cols g (World.ownsRow.lt h.grow g hgr).2]; exact h.colG g hgr, fun j s hs => hg.keep s _ (h.marks j s hs), h.small⟩
theorem mk_ne0 (j : Nat) : (-5 - (j : Int)) ≠ 0 := by omega
/-- A cell of a block without colour is written. -/
theorem Ph.set {U : Nat → Prop} {w : World} {B gL K cL : Nat} {LL GS : List Sl} {col : Nat → Int} {gr : Value} (h : Ph U w B gL K cL LL col gr GS) {b o : Nat} {u : Value} (hb : col b = 0) (h1 : b ≠ gL) (h2 : gr.ownBlock ≠ some b) : Ph U (w.setCell ⟨b, o, none⟩ u) B gL K cL LL col gr GS := by
  have hsz : (w.setCell ⟨b, o, none⟩ u).heap.size = w.heap.size := by simp [World.setCell]
  have hbk : ∀ g, g ≠ b → (w.setCell ⟨b, o, none⟩ u).heap[g]? = w.heap[g]? := fun g hg => Below.heap_setCell _ _ _ _ hg
  exact ⟨fun g hg => h.zero g (by rw [hsz] at hg; exact hg), fun j s hs => (h.lists j s hs).far (by rw [hb]; exact Ne.symm (mk_ne0 j)), rcs_block h.row (hbk gL (Ne.symm h1)), h.colL, by rw [hsz]; exact h.gL_lt, h.low, h.ult, by rw [hsz]; exact h.hB, ownsRow_block h.grow (fun g hg => hbk g (fun e => h2 (by rw [hg, e]))), h.colG, fun j s hs => (h.marks j s hs).far (by rw [hb]; exact Ne.symm (mk_ne0 _)), h.small⟩
/-- The row of grown slices has grown. -/
theorem Ph.more {U : Nat → Prop} {w w' : World} {B gL K cL : Nat} {LL GS : List Sl} {col : Nat → Int} {gr : Value} (h : Ph U w B gL K cL LL col gr GS) {g' n' c' : Nat} {GN : List Sl} (ho : w'.ownsRow B 22 1 (.slice (some ⟨g', 0, none⟩) n' c') (GS ++ GN).length ((GS ++ GN).flatMap Sl.cell)) (hg : w.grownBy w' gr.ownBlock) (hat : gr.ownBlock = some g' ∨ w.heap.size ≤ g')
    (hN : ∀ (j : Nat) (s : Sl), GN[j]? = some s → Mk w col s (-5 - (((GS.length + j) / 2 : Nat) : Int)) ∧ s.n ≤ 1500000) : Ph U w' B gL K cL LL col (.slice (some ⟨g', 0, none⟩) n' c') (GS ++ GN) := by
  have hr : ∀ (j : Nat) (g : Nat), gr.ownBlock = some g → col g ≠ -5 - (j : Int) := fun j g hgr => by rw [(h.colG g hgr).1]; exact Ne.symm (mk_ne0 j)
  refine ⟨fun g hgs => h.zero g (Nat.le_trans hg.size hgs), fun j s hs => (h.lists j s hs).grown hg (hr j), rcs_block h.row (hg.block gL h.gL_lt (fun e => (h.colG gL e.symm).2 rfl)), h.colL, Nat.lt_of_lt_of_le h.gL_lt hg.size, h.low, h.ult, Nat.le_trans h.hB hg.size, ho, fun g hgg => ?_, fun j s hs => ?_, fun s hs => ?_⟩
  · have e : g' = g := by simpa [Value.ownBlock] using hgg
    subst e
    rcases hat with e | e
    · exact h.colG g' e
    · exact ⟨h.zero g' (by omega), by have := h.gL_lt; omega⟩
  · by_cases hj : j < GS.length
    · rw [List.getElem?_append_left hj] at hs
      exact (h.marks j s hs).grown hg (hr _)
    · rw [List.getElem?_append_right (by omega)] at hs
      have := (hN _ _ hs).1
      rw [show GS.length + (j - GS.length) = j by omega] at this
      exact this.grown hg (hr _)
  · rcases List.mem_append.1 hs with hs | hs
    · exact h.small s hs
    · obtain ⟨j, hj⟩ := List.mem_iff_getElem?.1 hs
      exact (hN j s hj).2
end Go.Proofs.YtbekdbgnpcbklaaDoor
