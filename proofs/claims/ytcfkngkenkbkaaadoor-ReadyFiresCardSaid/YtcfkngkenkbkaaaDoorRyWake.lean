/-
  ready's drop and wake, on a table that the call holds itself.
-/
import Derived.Test.YtcfkngkenkbkaaaDoorRyMine
import Derived.BigRegion
namespace Go.Proofs.YtcfkngkenkbkaaaDoor
open Classical
open Go.RowKit
set_option linter.unusedVariables false
set_option linter.unusedSimpArgs false

/-- The timers' list is another one now, made since. -/
theorem Mine.timers {w w2 : World} {base tb : Nat} {v1 v2 v3 v3' : Value} {l : List Pro} {r : List Int} {t t' : List Tm} (h : Mine w base tb v1 v2 v3 l r t) (hb : Below w.heap.size w w2) (hn : TOwn w2 w.heap.size v3' t') :
    Mine (w2.setCell ⟨tb, 2, none⟩ v3') base tb v1 v2 v3' l r t' ∧ Below base w (w2.setCell ⟨tb, 2, none⟩ v3') := by
  have hbase : base ≤ w.heap.size := Nat.le_trans h.hb (Nat.le_of_lt h.lt)
  have h2 := h.below hb
  have f3' : v3'.ownBlock ≠ some tb := fun e => by have := (hn.lt _ e).1; have := h.lt; omega
  have sep : ∀ {e : TypeId} {sz n : Nat} {v : Value} {cs : List Value}, w.ownsRow base e sz v n cs → Sep v v3' := fun {e sz n v cs} ho => by
    cases hv : v.ownBlock with
    | none => exact .inl hv
    | some k => exact .inr (by rw [hv]; intro e'; have := (ho.lt k hv).2; have := (hn.lt k e'.symm).1; omega)
  refine ⟨⟨h2.bl.set (k := 2) (by simp) v3', ⟨ownsRow_far h2.tab.p h.f1 v3', ownsRow_far h2.tab.r h.f2 v3', ownsRow_far (ownsRow_weaken hn hbase) f3' v3', h.tab.s12, sep h.tab.p, sep h.tab.r⟩, h.f1, h.f2, f3', h.hb, ?_⟩, ?_⟩
  · have := h2.lt
    simpa [World.setCell] using this
  · exact (hb.mono hbase).setCell (p := ⟨tb, 2, none⟩) h.hb v3'

set_option maxRecDepth 100000 in
set_option maxHeartbeats 4000000 in
theorem drop_any {w : World} {E : Nat → Addr} (he : Er3 w E) (base tb : Nat) (a1 : Option Addr) (n1 c1 : Nat) (a2 : Option Addr) (n2 c2 : Nat) (a3 : Option Addr) (n3 c3 : Nat) (l : List Pro) (r : List Int) (t : List Tm) (hm : Mine w base tb (.slice a1 n1 c1) (.slice a2 n2 c2) (.slice a3 n3 c3) l r t) (p : Int) (h8 : t.length ≤ 8) :
    Calls Tryd.prog 44 #[.pointer (some ⟨tb, 0, none⟩), .int .i64 p] w fun e w' => ∃ v, e = .returned v ∧ Bare E v (dropE t) ∧ (∃ a n c, Mine w' base tb (.slice a1 n1 c1) (.slice a2 n2 c2) (.slice a n c) l r (dropL t p)) ∧ Below base w w' := by
  obtain ⟨a, c, e, ht⟩ := town_tms hm.tab.t
  simp only [Value.slice.injEq] at e
  obtain ⟨rfl, rfl, rfl⟩ := e
  have HT := hide ht
  have HM := hide hm
  have HE := hide he
  have b2 := hm.bl.cell 2 _ rfl
  clear ht hm he
  go_enter Tryd.func44, Tryd.ntmps44
  go_wp2_with fail
  refine Calls.mono (tdrop_any HE.out _ _ _ t HT.out p (by omega)) ?_
  rintro e w2 ⟨x, q, v, rfl, -, hv, hx, hb⟩
  obtain ⟨a', c', rfl, -⟩ := town_tms hx
  have HR := hide (HM.out.timers hb hx)
  have HV := hide hv
  have M2 := HM.out.below hb
  have g2 := M2.bl.cell 2 _ rfl
  have f2 := M2.bl.free 2
  clear hv hx hb b2 M2
  go_wp2
  go_ret
  exact ⟨_, rfl, HV.out, ⟨_, _, _, HR.out.1⟩, HR.out.2⟩
/-- What lies elsewhere is left alone; where the queue lies now. -/
structure Left (w w' : World) (tb : Nat) (v1 v2 v2' : Value) : Prop where
  blk : ∀ k, k < w.heap.size → k ≠ tb → some k ≠ v1.ownBlock → some k ≠ v2.ownBlock → w'.heap[k]? = w.heap[k]?
  nxt : v2'.ownBlock = v2.ownBlock ∨ ∃ k, v2'.ownBlock = some k ∧ w.heap.size ≤ k
theorem left_of {w w7 : World} {v2 : Value} {o : Obj} {g7 n c tb : Nat} {v1 u : Value} (hg : (w.alloc o).grownBy w7 v2.ownBlock) (hat : v2.ownBlock = some g7 ∨ g7 = (w.alloc o).heap.size) : Left w (w7.setCell ⟨tb, 1, none⟩ u) tb v1 v2 (.slice (some ⟨g7, 0, none⟩) n c) := by
  refine ⟨fun k hk h1 h2 h3 => ?_, ?_⟩
  · rw [heap_setCell_other w7 ⟨tb, 1, none⟩ k u (by first | exact h1 | exact (fun e => h1 e.symm)), hg.block k (by simp; omega) h3]
    exact Below.heap_alloc _ _ _ hk
  · rcases hat with e | e
    · exact .inl e.symm
    · refine .inr ⟨g7, rfl, ?_⟩
      rw [e]; simp
theorem ownsRow_same {w w' : World} {base : Nat} {e : TypeId} {sz : Nat} {v : Value} {n : Nat} {cs : List Value} (h : w.ownsRow base e sz v n cs) (hs : ∀ k, v.ownBlock = some k → w'.heap[k]? = w.heap[k]?) : w'.ownsRow base e sz v n cs := by
  refine ⟨h.1, ?_⟩
  rcases h.2 with hn | ⟨g, cap, cur, rfl, hb, hgg, rest⟩
  · exact .inl hn
  · exact .inr ⟨g, cap, cur, rfl, hb, by rw [hs g rfl]; exact hgg, rest⟩
set_option maxRecDepth 100000 in
set_option maxHeartbeats 4000000 in
theorem join_kept (w : World) (base tb : Nat) (a1 : Option Addr) (n1 c1 : Nat) (a2 : Option Addr) (n2 c2 : Nat) (a3 : Option Addr) (n3 c3 : Nat) (l : List Pro) (r : List Int) (t : List Tm) (hm : Mine w base tb (.slice a1 n1 c1) (.slice a2 n2 c2) (.slice a3 n3 c3) l r t) (p : Int) (h8 : r.length ≤ 1000) :
    Calls Tryd.prog 47 #[.pointer (some ⟨tb, 0, none⟩), .int .i64 p] w fun e w' => e = .returned (.tuple #[]) ∧ (∃ a n c, Mine w' base tb (.slice a1 n1 c1) (.slice a n c) (.slice a3 n3 c3) l (r ++ [p]) t ∧ Left w w' tb (.slice a1 n1 c1) (.slice a2 n2 c2) (.slice a n c)) ∧ Below base w w' := by
  have b1 := hm.bl.cell 1 _ rfl
  have X1 := new_below w (.cells #[.int .i64 p] 3)
  have HM := hide (hm.below X1)
  have HJ := hide infoInt
  have hbase : Hid (base ≤ w.heap.size) := Nat.le_trans hm.hb (Nat.le_of_lt hm.lt)
  have HX := hide (X1.mono hbase.out)
  clear X1 hm
  go_enter Tryd.func47, Tryd.ntmps47
  go_wp2_with (at_builtin; refine append_rec rfl (.tmp 8) (.tmp 10) 23 3 rfl Tryd.underlying23 HJ.out (by decide) base _ _ _ rfl HM.out.tab.r w.heap.size 1 (ci p) rfl rfl (fun i u hu => by rw [World.cell?_alloc_at _ _ _ _ (by simp)]; simpa [ci] using hu) (fun u hu => ci_one [p] u (by simpa using hu)) (by unfold maxLen; omega) (by omega) (by have := hbase.out; simp; omega) ?_; intro g7 c7 w7 ho7 hg7 hat7 hlt7; have hg8 : (w.alloc (.cells #[.int .i64 p] 3)).grownBy w7 (Value.slice a2 n2 c2).ownBlock := hg7; have hat8 : (Value.slice a2 n2 c2).ownBlock = some g7 ∨ g7 = (w.alloc (.cells #[.int .i64 p] 3)).heap.size := hat7; have ho8 : IOwn w7 base (.slice (some ⟨g7, 0, none⟩) (r.length + 1) c7) (r ++ [p]) := (by unfold IOwn; rw [List.length_append, List.flatMap_append]; exact ho7); have GB := HM.out.bl.grown HM.out.lt hg8 (fun e => HM.out.f2 e.symm); have g1 := GB.cell 1 _ rfl; have f1 := GB.free 1; have HR := hide (HM.out.ready hg8 ho8 (hat8.elim (fun e => .inl e.symm) (fun e => .inr (congrArg some e)))); have HLF := hide (left_of hg8 hat8 (tb := tb) (v1 := .slice a1 n1 c1) (u := .slice (some ⟨g7, 0, none⟩) (r.length + 1) c7) (n := r.length + 1) (c := c7)); clear ho7 hg7 hat7 GB hg8 hat8 ho8)
  refine bodyPost_end (v := .tuple #[]) (results_none rfl _ _ _) rfl ?_
  exact ⟨rfl, ⟨_, _, _, HR.out.1, HLF.out⟩, HX.out.trans HR.out.2⟩

/-- A record with one cell another. -/
theorem fl_upd {α : Type} {f : α → List Value} {sz : Nat} (h : ∀ x, (f x).length = sz) : ∀ {l : List α} {k : Nat} {x y : α} {j : Nat} {u : Value}, l[k]? = some x → j < sz → f y = (f x).set j u → (l.flatMap f).set (k * sz + j) u = (l.set k y).flatMap f
  | [], k, x, y, j, u, hk, _, _ => by simp at hk
  | z :: l, 0, x, y, j, u, hk, hj, hy => by
    simp only [List.getElem?_cons_zero, Option.some.injEq] at hk
    subst hk
    rw [List.set_cons_zero, List.flatMap_cons, List.flatMap_cons, Nat.zero_mul, Nat.zero_add, List.set_append_left _ _ (by rw [h]; exact hj), hy]
  | z :: l, k + 1, x, y, j, u, hk, hj, hy => by
    rw [List.getElem?_cons_succ] at hk
    rw [List.set_cons_succ, List.flatMap_cons, List.flatMap_cons, List.set_append_right _ _ (by rw [h, Nat.succ_mul]; omega), h, show (k + 1) * sz + j - sz = k * sz + j by rw [Nat.succ_mul]; omega, fl_upd h hk hj hy]
/-- One cell of a process of the table is another. -/
theorem Mine.put {w : World} {base tb g n1 c1 : Nat} {v2 v3 : Value} {l : List Pro} {r : List Int} {t : List Tm} (h : Mine w base tb (.slice (some ⟨g, 0, none⟩) n1 c1) v2 v3 l r t) {k j : Nat} {q q' : Pro} {u : Value} (hk : l[k]? = some q) (hj : j < 21) (hq : q'.cells = q.cells.set j u) :
    Mine (w.setCell ⟨g, k * 21 + j, none⟩ u) base tb (.slice (some ⟨g, 0, none⟩) n1 c1) v2 v3 (l.set k q') r t := by
  have far : ∀ {e : TypeId} {sz n : Nat} {v : Value} {cs : List Value}, w.ownsRow base e sz v n cs → Sep (.slice (some ⟨g, 0, none⟩) n1 c1) v → (w.setCell ⟨g, k * 21 + j, none⟩ u).ownsRow base e sz v n cs := fun ho hs =>
    ownsRow_far ho (p := ⟨g, k * 21 + j, none⟩) (fun e => by
      rcases hs with e' | e'
      · simp [Value.ownBlock] at e'
      · exact e' (by rw [e]; rfl)) u
  have hp : PrOwn (w.setCell ⟨g, k * 21 + j, none⟩ u) base (.slice (some ⟨g, 0, none⟩) n1 c1) (l.set k q') := by
    obtain ⟨a, c, e, _⟩ := prown_pros h.tab.p
    simp only [Value.slice.injEq] at e
    obtain ⟨-, e2, -⟩ := e
    subst e2
    have := (World.ownsRow.stored h.tab.p (k * 21 + j) u).1
    rw [fl_upd pro21 hk hj hq] at this
    unfold PrOwn
    rw [List.length_set]
    exact this
  refine ⟨h.bl.far (fun e => h.f1 (by rw [← e]; rfl)), ⟨hp, far h.tab.r h.tab.s12, far h.tab.t h.tab.s13, h.tab.s12, h.tab.s13, h.tab.s23⟩, h.f1, h.f2, h.f3, h.hb, ?_⟩
  have := h.lt
  simpa [World.setCell] using this
/-- A process that is ready now, with r1. -/
def wokenP (q : Pro) (x : Int) : Pro := { q with r1 := x, state := 1, wait := 0, obj := 0 }

set_option maxRecDepth 100000 in
set_option maxHeartbeats 4000000 in
theorem wake_any (w : World) (base tb : Nat) (a1 : Option Addr) (n1 c1 : Nat) (a2 : Option Addr) (n2 c2 : Nat) (a3 : Option Addr) (n3 c3 : Nat) (l : List Pro) (r : List Int) (t : List Tm) (hm : Mine w base tb (.slice a1 n1 c1) (.slice a2 n2 c2) (.slice a3 n3 c3) l r t) (k : Nat) (q : Pro) (hk : l[k]? = some q) (x : Int) (h8 : r.length ≤ 1000) (hm1 : n1 ≤ 9223372036854775807) :
    Calls Tryd.prog 41 #[.pointer (some ⟨tb, 0, none⟩), .int .i64 (k : Int), .int .u32 x] w fun e w' => e = .returned (.tuple #[]) ∧ (∃ a n c, Mine w' base tb (.slice a1 n1 c1) (.slice a n c) (.slice a3 n3 c3) (l.set k (wokenP q x)) (r ++ [(k : Int)]) t ∧ Left w w' tb (.slice a1 n1 c1) (.slice a2 n2 c2) (.slice a n c)) ∧ Below base w w' := by
  obtain ⟨a, c, e, hp⟩ := prown_pros hm.tab.p
  simp only [Value.slice.injEq] at e
  obtain ⟨rfl, rfl, rfl⟩ := e
  have hkl := (List.getElem?_eq_some_iff.1 hk).1
  obtain ⟨g, rfl⟩ : ∃ g, a1 = some ⟨g, 0, none⟩ := by
    rcases hm.tab.p.2 with ⟨e1, e2⟩ | ⟨g, cap, cur, e1, _⟩
    · simp only [Value.slice.injEq] at e1
      omega
    · simp only [Value.slice.injEq] at e1
      exact ⟨g, e1.1⟩
  have HM := hide hm
  have HK := hide hk
  have b0 := hm.bl.cell 0 _ rfl
  have hk1 : (k : Int) < (l.length : Int) := by omega
  have cf : ∀ j, j < 21 → w.cell? ⟨g, k * 21 + j, none⟩ = (q.cells)[j]? := fun j hj => by
    obtain ⟨b, off, e, hr⟩ := hp.at pro21 (by decide) hk
    simp only [Option.some.injEq, Addr.mk.injEq, and_true] at e
    obtain ⟨rfl, rfl⟩ := e
    rw [List.getElem?_eq_getElem (by rw [pro21]; exact hj)]
    have := hr j _ (List.getElem?_eq_getElem (by rw [pro21]; exact hj))
    simpa using this
  have ff : ∀ j, w.frozen? ⟨g, j, none⟩ = false := fun j => World.ownsRow.frozenAt hm.tab.p j
  have q17 := cf 17 (by decide)
  have q19 := cf 19 (by decide)
  have q20 := cf 20 (by decide)
  have q1 := cf 1 (by decide)
  simp only [Pro.cells, List.getElem?_cons_succ, List.getElem?_cons_zero] at q17 q19 q20 q1
  have f17 := ff (k * 21 + 17)
  have f19 := ff (k * 21 + 19)
  have f20 := ff (k * 21 + 20)
  have f1 := ff (k * 21 + 1)
  clear hp hk hm cf ff
  go_enter Tryd.func41, Tryd.ntmps41
  go_wp2
  go_big_region
  have hl1 := List.getElem?_eq_some_iff.1 HK.out |>.1
  have e1 : (l.set k { q with state := 1 })[k]? = some { q with state := 1 } := by rw [List.getElem?_set_self hl1]
  have e2 : (l.set k { q with state := 1, wait := 0 })[k]? = some { q with state := 1, wait := 0 } := by rw [List.getElem?_set_self hl1]
  have e3 : (l.set k { q with state := 1, wait := 0, obj := 0 })[k]? = some { q with state := 1, wait := 0, obj := 0 } := by rw [List.getElem?_set_self hl1]
  have m1 := HM.out.put (j := 17) (q' := { q with state := 1 }) (u := .int .i64 1) HK.out (by decide) rfl
  have m2 := m1.put (j := 19) (q' := { q with state := 1, wait := 0 }) (u := .int .i64 0) e1 (by decide) rfl
  rw [List.set_set] at m2
  have m3 := m2.put (j := 20) (q' := { q with state := 1, wait := 0, obj := 0 }) (u := .int .i64 0) e2 (by decide) rfl
  rw [List.set_set] at m3
  have m4 := m3.put (j := 1) (q' := wokenP q x) (u := .int .u32 x) e3 (by decide) rfl
  rw [List.set_set] at m4
  have hgb : base ≤ g := (HM.out.tab.p.lt g rfl).1
  have B4 := hide ((((((Below.refl base w).setCell (p := ⟨g, k * 21 + 17, none⟩) hgb (.int .i64 1)).setCell (p := ⟨g, k * 21 + 19, none⟩) hgb (.int .i64 0)).setCell (p := ⟨g, k * 21 + 20, none⟩) hgb (.int .i64 0)).setCell (p := ⟨g, k * 21 + 1, none⟩) hgb (.int .u32 x)).drew)
  have M5 := hide (m4.below (Below.refl _ _).drew)
  clear m1 m2 m3 m4 e1 e2 e3 q1 q17 q19 q20 f1 f17 f19 f20 b0
  have K5 : Hid (∀ j, j ≠ g → (((((w.setCell ⟨g, k * 21 + 17, none⟩ (.int .i64 1)).setCell ⟨g, k * 21 + 19, none⟩ (.int .i64 0)).setCell ⟨g, k * 21 + 20, none⟩ (.int .i64 0)).setCell ⟨g, k * 21 + 1, none⟩ (.int .u32 x)).drew).heap[j]? = w.heap[j]?) := fun j hj => by
    show (((((w.setCell ⟨g, k * 21 + 17, none⟩ (.int .i64 1)).setCell ⟨g, k * 21 + 19, none⟩ (.int .i64 0)).setCell ⟨g, k * 21 + 20, none⟩ (.int .i64 0)).setCell ⟨g, k * 21 + 1, none⟩ (.int .u32 x))).heap[j]? = w.heap[j]?
    rw [heap_setCell_other _ _ _ _ (by first | exact hj | exact (fun e => hj e.symm)), heap_setCell_other _ _ _ _ (by first | exact hj | exact (fun e => hj e.symm)), heap_setCell_other _ _ _ _ (by first | exact hj | exact (fun e => hj e.symm)), heap_setCell_other _ _ _ _ (by first | exact hj | exact (fun e => hj e.symm))]
  have S5 : Hid ((((((w.setCell ⟨g, k * 21 + 17, none⟩ (.int .i64 1)).setCell ⟨g, k * 21 + 19, none⟩ (.int .i64 0)).setCell ⟨g, k * 21 + 20, none⟩ (.int .i64 0)).setCell ⟨g, k * 21 + 1, none⟩ (.int .u32 x)).drew).heap.size = w.heap.size) := by
    unfold Hid
    simp [World.setCell, World.drew]
  generalize ((((w.setCell ⟨g, k * 21 + 17, none⟩ (.int .i64 1)).setCell ⟨g, k * 21 + 19, none⟩ (.int .i64 0)).setCell ⟨g, k * 21 + 20, none⟩ (.int .i64 0)).setCell ⟨g, k * 21 + 1, none⟩ (.int .u32 x)).drew = W5 at *
  go_wp2_with fail
  refine Calls.mono (join_kept W5 base tb _ _ _ _ _ _ _ _ _ _ _ _ M5.out (k : Int) h8) ?_
  rintro e w6 ⟨rfl, ⟨a6, n6, c6, hm6, hl6⟩, b6⟩
  have L6 : Hid (Left w w6 tb (.slice (some ⟨g, 0, none⟩) l.length c1) (.slice a2 n2 c2) (.slice a6 n6 c6)) := by
    refine ⟨fun j hj h1 h2 h3 => ?_, ?_⟩
    · rw [hl6.blk j (by rw [S5.out]; exact hj) h1 h2 h3]
      exact K5.out j (fun e => h2 (by rw [e]; rfl))
    · have := hl6.nxt
      rw [S5.out] at this
      exact this
  clear hl6
  have M6 := hide hm6
  have B6 := hide (B4.out.trans b6)
  clear hm6 b6
  go_wp2
  refine bodyPost_end (v := .tuple #[]) (results_none rfl _ _ _) rfl ?_
  exact ⟨rfl, ⟨_, _, _, M6.out, L6.out⟩, B6.out⟩
end Go.Proofs.YtcfkngkenkbkaaaDoor
