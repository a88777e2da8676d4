/-
  ready's leave and join, on a table that the call holds itself; ownOf.
-/
import Derived.Test.YtahcchipedppmaaGreatDoorRyDel
namespace Go.Proofs.YtahcchipedppmaaGreatDoor
open Go.RowKit
set_option linter.unusedVariables false
set_option linter.unusedSimpArgs false

theorem ownsRow_far {w : World} {base : Nat} {e : TypeId} {sz : Nat} {v : Value} {n : Nat} {cs : List Value} (h : w.ownsRow base e sz v n cs) {p : Addr} (hne : v.ownBlock ≠ some p.block) (u : Value) : (w.setCell p u).ownsRow base e sz v n cs := by
  refine ⟨h.1, ?_⟩
  rcases h.2 with hn | ⟨g, cap, cur, rfl, hb, hgg, rest⟩
  · exact .inl hn
  · refine .inr ⟨g, cap, cur, rfl, hb, ?_, rest⟩
    rw [heap_setCell_other w p g u (fun e => hne (by simp [Value.ownBlock, e]))]
    exact hgg
theorem Bl.grown {w w' : World} {g : Nat} {cs : List Value} {row : Option Nat} (h : Bl w g cs) (hg : g < w.heap.size) (hr : w.grownBy w' row) (hne : some g ≠ row) : Bl w' g cs :=
  ⟨fun j v hv => by rw [World.cell?_of_block (a := ⟨g, j, none⟩) (hr.block g hg hne)]; exact h.cell j v hv, fun j => by rw [World.frozen?_of_block (a := ⟨g, j, none⟩) (hr.block g hg hne)]; exact h.free j⟩
/-- A table that lies in block tb, with lists of the call's own that lie in other blocks. -/
structure Mine (w : World) (base tb : Nat) (v1 v2 v3 : Value) (l : List Pro) (r : List Int) (t : List Tm) : Prop where
  bl : Bl w tb [v1, v2, v3]
  tab : Tab w base v1 v2 v3 l r t
  f1 : v1.ownBlock ≠ some tb
  f2 : v2.ownBlock ≠ some tb
  f3 : v3.ownBlock ≠ some tb
  hb : base ≤ tb
  lt : tb < w.heap.size
theorem Mine.below {w w' : World} {base tb : Nat} {v1 v2 v3 : Value} {l : List Pro} {r : List Int} {t : List Tm} (h : Mine w base tb v1 v2 v3 l r t) (hb : Below w.heap.size w w') : Mine w' base tb v1 v2 v3 l r t :=
  ⟨h.bl.below h.lt hb, h.tab.below hb, h.f1, h.f2, h.f3, h.hb, Nat.lt_of_lt_of_le h.lt hb.size⟩
/-- The queue's list is another one now. -/
theorem Mine.ready {w w2 : World} {base tb : Nat} {v1 v2 v3 v2' : Value} {l : List Pro} {r r' : List Int} {t : List Tm} (h : Mine w base tb v1 v2 v3 l r t) (hg : w.grownBy w2 v2.ownBlock) (hn : IOwn w2 base v2' r') (hs : v2'.ownBlock = v2.ownBlock ∨ v2'.ownBlock = some w.heap.size) :
    Mine (w2.setCell ⟨tb, 1, none⟩ v2') base tb v1 v2' v3 l r' t ∧ Below base w (w2.setCell ⟨tb, 1, none⟩ v2') := by
  have hbase : base ≤ w.heap.size := Nat.le_trans h.hb (Nat.le_of_lt h.lt)
  have hbl := (h.bl.grown h.lt hg (fun e => h.f2 e.symm)).set (k := 1) (by simp) v2'
  have f2' : v2'.ownBlock ≠ some tb := by
    rcases hs with e | e
    · rw [e]; exact h.f2
    · rw [e]
      intro e'
      have := Option.some.inj e'
      have := h.lt
      omega
  have sep : ∀ v, v.ownBlock ≠ some w.heap.size → Sep v v2 → Sep v v2' := fun v hv hsep => by
    rcases hs with e | e
    · unfold Sep at *
      rw [e]; exact hsep
    · refine .inr ?_
      rw [e]; exact hv
  have fresh : ∀ {e : TypeId} {sz n : Nat} {v : Value} {cs : List Value}, w.ownsRow base e sz v n cs → v.ownBlock ≠ some w.heap.size := fun ho e' => by
    have := (ho.lt _ e').2
    omega
  refine ⟨⟨hbl, ⟨ownsRow_far (h.tab.p.kept hg h.tab.s12) h.f1 v2', ownsRow_far hn f2' v2', ownsRow_far (h.tab.t.kept hg h.tab.s23.symm) h.f3 v2', sep _ (fresh h.tab.p) h.tab.s12, h.tab.s13, (sep _ (fresh h.tab.t) h.tab.s23.symm).symm⟩, h.f1, f2', h.f3, h.hb, ?_⟩, ?_⟩
  · have := h.lt
    have := hg.size
    simp [World.setCell]
    omega
  · exact (((Below.refl base w).grown hg hbase (fun k hk => (h.tab.r.lt k hk).1)).setCell (p := ⟨tb, 1, none⟩) h.hb v2')

set_option maxRecDepth 100000 in
set_option maxHeartbeats 4000000 in
theorem leave_any (w : World) (base tb : Nat) (a1 : Option Addr) (n1 c1 : Nat) (a2 : Option Addr) (n2 c2 : Nat) (a3 : Option Addr) (n3 c3 : Nat) (l : List Pro) (r : List Int) (t : List Tm) (hm : Mine w base tb (.slice a1 n1 c1) (.slice a2 n2 c2) (.slice a3 n3 c3) l r t) (p : Int) (h8 : r.length ≤ 8) :
    Calls Tryz.prog 32 #[.pointer (some ⟨tb, 0, none⟩), .int .i64 p] w fun e w' => e = .returned (.tuple #[]) ∧ (∃ a n c, Mine w' base tb (.slice a1 n1 c1) (.slice a n c) (.slice a3 n3 c3) l (outOf r p) t) ∧ Below base w w' := by
  have X1 := new_below w (.cells #[.int .i64 p] 3)
  have HM := hide (hm.below X1)
  have c0 : Hid ((w.alloc (.cells #[.int .i64 p] 3)).cell? ⟨w.heap.size, 0, none⟩ = some (.int .i64 p)) := by unfold Hid; rw [World.cell?_alloc_at _ _ _ _ rfl]; rfl
  have hne : Hid ((Value.slice a2 n2 c2).ownBlock ≠ some w.heap.size) := fun e => by have := (hm.tab.r.lt _ e).2; omega
  have HX := hide (X1.mono (Nat.le_trans hm.hb (Nat.le_of_lt hm.lt)))
  clear X1 hm
  go_enter Tryz.func32, Tryz.ntmps32
  go_upto_region 1 with fail
  generalize w.alloc (.cells #[.int .i64 p] 3) = W0 at *
  have b1 := HM.out.bl.cell 1 _ rfl
  go_wp2_with fail
  refine Calls.mono (deleteFunc_any W0 base a2 n2 c2 r HM.out.tab.r p w.heap.size c0.out hne.out (by omega)) ?_
  rintro e w2 ⟨a', n', c', rfl, hi, hs, hg⟩
  have HR := hide (HM.out.ready hg hi (.inl hs))
  have g1 := (HM.out.bl.grown HM.out.lt hg (fun e => HM.out.f2 e.symm)).cell 1 _ rfl
  have f1 := (HM.out.bl.grown HM.out.lt hg (fun e => HM.out.f2 e.symm)).free 1
  clear hi hs hg b1
  go_wp2

  refine bodyPost_end (v := .tuple #[]) (results_none rfl _ _ _) rfl ?_
  exact ⟨rfl, ⟨_, _, _, HR.out.1⟩, HX.out.trans HR.out.2⟩

set_option maxRecDepth 100000 in
set_option maxHeartbeats 4000000 in
theorem join_any (w : World) (base tb : Nat) (a1 : Option Addr) (n1 c1 : Nat) (a2 : Option Addr) (n2 c2 : Nat) (a3 : Option Addr) (n3 c3 : Nat) (l : List Pro) (r : List Int) (t : List Tm) (hm : Mine w base tb (.slice a1 n1 c1) (.slice a2 n2 c2) (.slice a3 n3 c3) l r t) (p : Int) (h8 : r.length ≤ 8) :
    Calls Tryz.prog 33 #[.pointer (some ⟨tb, 0, none⟩), .int .i64 p] w fun e w' => e = .returned (.tuple #[]) ∧ (∃ a n c, Mine w' base tb (.slice a1 n1 c1) (.slice a n c) (.slice a3 n3 c3) l (r ++ [p]) t) ∧ Below base w w' := by
  have b1 := hm.bl.cell 1 _ rfl
  have X1 := new_below w (.cells #[.int .i64 p] 3)
  have HM := hide (hm.below X1)
  have HJ := hide infoInt
  have hbase : Hid (base ≤ w.heap.size) := Nat.le_trans hm.hb (Nat.le_of_lt hm.lt)
  have HX := hide (X1.mono hbase.out)
  clear X1 hm
  go_enter Tryz.func33, Tryz.ntmps33
  go_wp2_with (at_builtin; refine append_rec rfl (.tmp 8) (.tmp 10) 23 3 rfl Tryz.underlying23 HJ.out (by decide) base _ _ _ rfl HM.out.tab.r w.heap.size 1 (ci p) rfl rfl (fun i u hu => by rw [World.cell?_alloc_at _ _ _ _ (by simp)]; simpa [ci] using hu) (fun u hu => ci_one [p] u (by simpa using hu)) (by unfold maxLen; omega) (by omega) (by have := hbase.out; simp; omega) ?_; intro g7 c7 w7 ho7 hg7 hat7 hlt7; have hg8 : (w.alloc (.cells #[.int .i64 p] 3)).grownBy w7 (Value.slice a2 n2 c2).ownBlock := hg7; have hat8 : (Value.slice a2 n2 c2).ownBlock = some g7 ∨ g7 = (w.alloc (.cells #[.int .i64 p] 3)).heap.size := hat7; have ho8 : IOwn w7 base (.slice (some ⟨g7, 0, none⟩) (r.length + 1) c7) (r ++ [p]) := (by unfold IOwn; rw [List.length_append, List.flatMap_append]; exact ho7); have GB := HM.out.bl.grown HM.out.lt hg8 (fun e => HM.out.f2 e.symm); have g1 := GB.cell 1 _ rfl; have f1 := GB.free 1; have HR := hide (HM.out.ready hg8 ho8 (hat8.elim (fun e => .inl e.symm) (fun e => .inr (congrArg some e)))); clear ho7 hg7 hat7 GB hg8 hat8 ho8)
  refine bodyPost_end (v := .tuple #[]) (results_none rfl _ _ _) rfl ?_
  exact ⟨rfl, ⟨_, _, _, HR.out.1⟩, HX.out.trans HR.out.2⟩
end Go.Proofs.YtahcchipedppmaaGreatDoor
