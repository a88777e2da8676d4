/-
  The words and numbers of the system calls: the program's table, find, Name, Number, Args; the document's.
-/
import Derived.Test.YtoahbemdkfmokaaGreatDoorRcs
import Derived.Test.YtoahbemdkfmokaaGreatDoorTiny
import Derived.Laws.EntriesVeiled
namespace Go.Proofs.YtoahbemdkfmokaaGreatDoor
open Go.RowKit FerryCrc
set_option linter.unusedVariables false
set_option linter.unusedSimpArgs false

/-- The calls' words, and how many registers each reads. -/
def wds : List ByteArray := [⟨#[121, 105, 101, 108, 100]⟩, ⟨#[115, 116, 111, 112]⟩, ⟨#[115, 116, 97, 114, 116]⟩, ⟨#[115, 108, 101, 101, 112]⟩, ⟨#[112, 114, 105, 111]⟩, ⟨#[116, 105, 109, 101]⟩, ⟨#[114, 97, 105, 115, 101]⟩, ⟨#[115, 101, 116]⟩, ⟨#[99, 108, 101, 97, 114]⟩, ⟨#[97, 119, 97, 105, 116]⟩, ⟨#[115, 105, 103, 110, 97, 108]⟩, ⟨#[116, 97, 107, 101]⟩, ⟨#[114, 101, 97, 100]⟩, ⟨#[119, 114, 105, 116, 101]⟩, ⟨#[112, 111, 114, 116]⟩]
def ags : List Nat := [0, 0, 1, 1, 2, 0, 1, 1, 1, 2, 1, 2, 2, 3, 2]
/-- A row of the program's table: the word, the registers' tests, what is done. -/
structure Srow where
  word : ByteArray
  a : Option Addr
  n : Nat
  c : Nat
  fn : Nat
def Srow.cells (s : Srow) : List Value := [.string s.word, .slice s.a s.n s.c, .func (.func s.fn) #[] #[]]
theorem srow3 (s : Srow) : s.cells.length = 3 := rfl
theorem wpList_bsl {P : Program} {w w' : World} {ops : Array Oper} {rest : List Oper} {o : Oper} {a : Act} {Q : Exit → Act → World → Prop} (hgd : o.guard = none) (t : TypeId) (n : Nat) (parts : Array (Nat × Operand)) (ho : o.op = .buildSlice t n parts)
    (vs : Array (Nat × Value)) (hx : (parts.map fun (i, x) => (i, a.eval x)) = vs) (v : Value) (hrun : (Instr.buildSlice t n vs).run P w = .ok v w')
    (h : wpList P ops Q rest (a.put o.dst v) w') : wpList P ops Q (o :: rest) a w := by
  refine wpList_plain hgd fun K hK => ?_
  unfold Oper.wp
  simp only [execOp, ho, hx, Sem.run_bind, hrun, Result.andThen_ok, Sem.run_pure]
  exact hK _ _ h

/-- The table's rows, where its memory begins at h. -/
def rowsOf (h : Nat) : List Srow := [⟨⟨#[121, 105, 101, 108, 100]⟩, none, 0, 0, 13⟩, ⟨⟨#[115, 116, 111, 112]⟩, none, 0, 0, 14⟩, ⟨⟨#[115, 116, 97, 114, 116]⟩, some ⟨h + 0, 0, none⟩, 1, 1, 16⟩, ⟨⟨#[115, 108, 101, 101, 112]⟩, some ⟨h + 1, 0, none⟩, 1, 1, 18⟩, ⟨⟨#[112, 114, 105, 111]⟩, some ⟨h + 2, 0, none⟩, 2, 2, 21⟩, ⟨⟨#[116, 105, 109, 101]⟩, none, 0, 0, 22⟩, ⟨⟨#[114, 97, 105, 115, 101]⟩, some ⟨h + 3, 0, none⟩, 1, 1, 24⟩, ⟨⟨#[115, 101, 116]⟩, some ⟨h + 4, 0, none⟩, 1, 1, 26⟩, ⟨⟨#[99, 108, 101, 97, 114]⟩, some ⟨h + 5, 0, none⟩, 1, 1, 27⟩, ⟨⟨#[97, 119, 97, 105, 116]⟩, some ⟨h + 6, 0, none⟩, 2, 2, 29⟩, ⟨⟨#[115, 105, 103, 110, 97, 108]⟩, some ⟨h + 7, 0, none⟩, 1, 1, 31⟩, ⟨⟨#[116, 97, 107, 101]⟩, some ⟨h + 8, 0, none⟩, 2, 2, 32⟩, ⟨⟨#[114, 101, 97, 100]⟩, some ⟨h + 9, 0, none⟩, 2, 2, 34⟩, ⟨⟨#[119, 114, 105, 116, 101]⟩, some ⟨h + 10, 0, none⟩, 3, 3, 37⟩, ⟨⟨#[112, 111, 114, 116]⟩, some ⟨h + 11, 0, none⟩, 2, 2, 39⟩]
def nameOf (n : Int) : ByteArray := if 0 ≤ n ∧ n < 15 then wds.getD n.toNat ⟨#[]⟩ else ⟨#[]⟩
def argsOf (n : Int) : Nat := if 0 ≤ n ∧ n < 15 then ags.getD n.toNat 0 else 0
theorem nameOf_at {k : Nat} {s : ByteArray} (h : wds[k]? = some s) : nameOf (k : Int) = s := by
  have hk : k < 15 := (List.getElem?_eq_some_iff.1 h).1
  unfold nameOf
  rw [if_pos (by omega), Int.toNat_natCast, List.getD_eq_getElem?_getD, h]
  rfl
theorem argsOf_at {k m : Nat} (h : ags[k]? = some m) : argsOf (k : Int) = m := by
  have hk : k < 15 := (List.getElem?_eq_some_iff.1 h).1
  unfold argsOf
  rw [if_pos (by omega), Int.toNat_natCast, List.getD_eq_getElem?_getD, h]
  rfl

set_option maxRecDepth 100000 in
set_option maxHeartbeats 4000000 in
theorem words_any (w : World) : Calls Tryz.prog 12 #[] w fun e w' => ∃ g, e = .returned (.slice (some ⟨g, 0, none⟩) 15 15) ∧ (∀ k s, wds[k]? = some s → w'.cell? ⟨g, k, none⟩ = some (.string s)) ∧ Below w.heap.size w w' := by
  go_enter Tryz.func12, Tryz.ntmps12
  go_wp2
  go_ret
  refine ⟨_, rfl, fun k s hs => ?_, (Below.refl _ _).alloc (Nat.le_refl _) _⟩
  rw [World.cell?_alloc_at _ _ _ _ rfl]
  show ((wds.map Value.string).toArray)[k]? = _
  simp [hs]

set_option maxRecDepth 100000 in
set_option maxHeartbeats 4000000 in
theorem table_any (w : World) : Calls Tryz.prog 11 #[] w fun e w' => ∃ g rows, e = .returned (.slice (some ⟨g, 0, none⟩) 15 15) ∧ Rcs Srow.cells 3 w' (some ⟨g, 0, none⟩) 15 15 rows ∧ rows.map Srow.word = wds ∧ rows.map Srow.n = ags ∧ Below w.heap.size w w' := by
  go_enter Tryz.func11, Tryz.ntmps11
  go_wp2
  go_ret
  refine ⟨_, rowsOf w.heap.size, rfl, ⟨rfl, rfl, by decide, fun e => by simp at e, fun j v hv => ⟨_, _, rfl, ?_⟩⟩, rfl, rfl, ?_⟩
  · rw [World.cell?_alloc_at _ _ _ _ (by simp)]
    show (((rowsOf w.heap.size).flatMap Srow.cells).toArray)[0 + j]? = some v
    rw [Nat.zero_add, List.getElem?_toArray]
    exact hv
  · repeat' (first | exact Below.refl _ _ | refine Below.alloc ?_ (by simp <;> omega) _)

/-- Three cells of a block that may be written. -/
structure B3 (w : World) (b : Nat) (x y z : Value) : Prop where
  c0 : w.cell? ⟨b, 0, none⟩ = some x
  c1 : w.cell? ⟨b, 1, none⟩ = some y
  c2 : w.cell? ⟨b, 2, none⟩ = some z
  f : ∀ j, w.frozen? ⟨b, j, none⟩ = false
theorem b3_alloc (w : World) (x y z : Value) (t : TypeId) : B3 (w.alloc (.cells #[x, y, z] t)) w.heap.size x y z :=
  ⟨by rw [World.cell?_alloc_at _ _ _ _ rfl]; rfl, by rw [World.cell?_alloc_at _ _ _ _ rfl]; rfl, by rw [World.cell?_alloc_at _ _ _ _ rfl]; rfl, fun j => World.frozen?_alloc_new _ _ _ _⟩
theorem B3.below {w w' : World} {b : Nat} {x y z : Value} (h : B3 w b x y z) (hb : Below w.heap.size w w') : B3 w' b x y z := by
  have hl : b < w.heap.size := block_lt_of_cell h.c0
  exact ⟨by rw [hb.cell (p := ⟨b, 0, none⟩) hl]; exact h.c0, by rw [hb.cell (p := ⟨b, 1, none⟩) hl]; exact h.c1, by rw [hb.cell (p := ⟨b, 2, none⟩) hl]; exact h.c2, fun j => by rw [hb.frozen (p := ⟨b, j, none⟩) hl]; exact h.f j⟩
theorem B3.set {w : World} {b : Nat} {x y z : Value} (h : B3 w b x y z) (u v t : Value) : B3 (((w.setCell ⟨b, 0, none⟩ u).setCell ⟨b, 1, none⟩ v).setCell ⟨b, 2, none⟩ t) b u v t := by
  have h1 : (w.setCell ⟨b, 0, none⟩ u).cell? ⟨b, 1, none⟩ = some y := by rw [World.cell?_setCell_other _ _ _ _ (by simp)]; exact h.c1
  have h2 : ((w.setCell ⟨b, 0, none⟩ u).setCell ⟨b, 1, none⟩ v).cell? ⟨b, 2, none⟩ = some z := by rw [World.cell?_setCell_other _ _ _ _ (by simp), World.cell?_setCell_other _ _ _ _ (by simp)]; exact h.c2
  refine ⟨?_, ?_, World.cell?_setCell_same _ _ _ h2, fun j => by rw [World.frozen?_setCell, World.frozen?_setCell, World.frozen?_setCell]; exact h.f j⟩
  · rw [World.cell?_setCell_other _ _ _ _ (by simp), World.cell?_setCell_other _ _ _ _ (by simp)]
    exact World.cell?_setCell_same _ _ _ h.c0
  · rw [World.cell?_setCell_other _ _ _ _ (by simp)]
    exact World.cell?_setCell_same _ _ _ h1
theorem below_three {w w' : World} {b : Nat} (u v t : Value) (h : Below w.heap.size w w') (hb : w.heap.size ≤ b) : Below w.heap.size w (((w'.setCell ⟨b, 0, none⟩ u).setCell ⟨b, 1, none⟩ v).setCell ⟨b, 2, none⟩ t) :=
  ((h.setCell (p := ⟨b, 0, none⟩) hb u).setCell (p := ⟨b, 1, none⟩) hb v).setCell (p := ⟨b, 2, none⟩) hb t

set_option maxRecDepth 100000 in
set_option maxHeartbeats 4000000 in
theorem find_any (n : Int) (w : World) : Calls Tryz.prog 10 #[.int .i64 n] w fun e w' => ∃ (s : ByteArray) (a : Option Addr) (m c : Nat) (f : Value) (q : Bool), e = .returned (.tuple #[.agg #[.string s, .slice a m c, f], .bool q]) ∧ (f = .nilFunc ∨ ∃ k, f = .func (.func k) #[] #[]) ∧ s = nameOf n ∧ m = argsOf n ∧ Below w.heap.size w w' := by
  have B0 := hide (b3_alloc w (.string ⟨#[]⟩) (.slice none 0 0) .nilFunc 30)
  have D0 : Hid (Below w.heap.size w (w.alloc (.cells #[.string ⟨#[]⟩, .slice none 0 0, .nilFunc] 30))) := (Below.refl _ _).alloc (Nat.le_refl _) _
  go_enter Tryz.func10, Tryz.ntmps10
  go_wp2_with fail
  refine Calls.mono (table_any _) ?_
  rintro e w1 ⟨g, rows, rfl, hrc, hw, hn, hb⟩
  have B1 := hide (B0.out.below hb)
  have D1 := hide (D0.out.trans (hb.mono D0.out.size))
  have HRC := hide hrc
  have HW := hide hw
  have HN := hide hn
  have b0 := B1.out.c0
  have b1 := B1.out.c1
  have b2 := B1.out.c2
  have f0 := B1.out.f 0
  have f1 := B1.out.f 1
  have f2 := B1.out.f 2
  clear hb hrc hw hn B0 D0
  by_cases h0 : n < 0
  · have d0 : decide (n < 0) = true := decide_eq_true h0
    have HA : Hid (nameOf n = ⟨#[]⟩ ∧ argsOf n = 0) := ⟨by unfold nameOf; rw [if_neg (by omega)], by unfold argsOf; rw [if_neg (by omega)]⟩
    have B2 := hide (B1.out.set (.string ⟨#[]⟩) (.slice none 0 0) .nilFunc)
    have D2 := hide (below_three (b := w.heap.size) (.string ⟨#[]⟩) (.slice none 0 0) .nilFunc D1.out (Nat.le_refl _))
    clear h0
    go_wp2
    have e0 := B2.out.c0
    have e1 := B2.out.c1
    have e2 := B2.out.c2
    (try simp only [Exit.inBlock, Exit.then])
    refine bodyPost_ret (v := .tuple #[.agg #[.string ⟨#[]⟩, .slice none 0 0, .nilFunc], .bool false]) (by simp [results, Tryz.results10, go_sem, e0, e1, e2]) rfl ?_
    exact ⟨_, _, _, _, _, _, rfl, .inl rfl, HA.out.1.symm, HA.out.2.symm, D2.out⟩
  have d0 : decide (n < 0) = false := decide_eq_false h0
  by_cases h1 : 15 ≤ n
  · have d1 : decide (15 ≤ n) = true := decide_eq_true h1
    have HA : Hid (nameOf n = ⟨#[]⟩ ∧ argsOf n = 0) := ⟨by unfold nameOf; rw [if_neg (by omega)], by unfold argsOf; rw [if_neg (by omega)]⟩
    have B2 := hide (B1.out.set (.string ⟨#[]⟩) (.slice none 0 0) .nilFunc)
    have D2 := hide (below_three (b := w.heap.size) (.string ⟨#[]⟩) (.slice none 0 0) .nilFunc D1.out (Nat.le_refl _))
    clear h0 h1
    go_wp2
    have e0 := B2.out.c0
    have e1 := B2.out.c1
    have e2 := B2.out.c2
    (try simp only [Exit.inBlock, Exit.then])
    refine bodyPost_ret (v := .tuple #[.agg #[.string ⟨#[]⟩, .slice none 0 0, .nilFunc], .bool false]) (by simp [results, Tryz.results10, go_sem, e0, e1, e2]) rfl ?_
    exact ⟨_, _, _, _, _, _, rfl, .inl rfl, HA.out.1.symm, HA.out.2.symm, D2.out⟩
  obtain ⟨k, rfl⟩ : ∃ k : Nat, n = (k : Int) := ⟨n.toNat, by omega⟩
  have hk : k < 15 := by omega
  have d1 : decide (15 ≤ (k : Int)) = false := decide_eq_false h1
  have d2 : (k : Int) < 15 := by omega
  have d3 : (0 : Int) ≤ (k : Int) := by omega
  obtain ⟨s, hs⟩ : ∃ s, rows[k]? = some s := ⟨_, List.getElem?_eq_getElem (by rw [HRC.out.size]; exact hk)⟩
  obtain ⟨b, off, hbo, hr⟩ := HRC.out.at srow3 (by decide) hs
  simp only [Option.some.injEq, Addr.mk.injEq, and_true] at hbo
  obtain ⟨rfl, rfl⟩ := hbo
  have r0 := hr 0 _ rfl
  have r1 := hr 1 _ rfl
  have r2 := hr 2 _ rfl
  simp only [Nat.add_zero, Nat.zero_add] at r0 r1 r2
  have HA : Hid (s.word = nameOf (k : Int) ∧ s.n = argsOf (k : Int)) :=
    ⟨(nameOf_at (by rw [← HW.out, List.getElem?_map, hs]; rfl)).symm, (argsOf_at (by rw [← HN.out, List.getElem?_map, hs]; rfl)).symm⟩
  have B2 := hide (B1.out.set (.string s.word) (.slice s.a s.n s.c) (.func (.func s.fn) #[] #[]))
  have D2 := hide (below_three (b := w.heap.size) (.string s.word) (.slice s.a s.n s.c) (.func (.func s.fn) #[] #[]) D1.out (Nat.le_refl _))
  clear h0 h1 hr hs hk
  go_wp2
  have e0 := B2.out.c0
  have e1 := B2.out.c1
  have e2 := B2.out.c2
  (try simp only [Exit.inBlock, Exit.then])
  refine bodyPost_ret (v := .tuple #[.agg #[.string s.word, .slice s.a s.n s.c, .func (.func s.fn) #[] #[]], .bool true]) (by simp [results, Tryz.results10, go_sem, e0, e1, e2]) rfl ?_
  exact ⟨_, _, _, _, _, _, rfl, .inr ⟨_, rfl⟩, HA.out.1, HA.out.2, D2.out⟩

set_option maxRecDepth 100000 in
set_option maxHeartbeats 4000000 in
theorem name_any (n : Int) (w : World) : Calls Tryz.prog 4 #[.int .i64 n] w fun e w' => e = .returned (.string (nameOf n)) ∧ Below w.heap.size w w' := by
  go_enter Tryz.func4, Tryz.ntmps4
  go_wp2_with fail
  refine Calls.mono (find_any n w) ?_
  rintro e w1 ⟨s, a, m, c, f, q, rfl, hf, rfl, rfl, hb⟩
  have D1 := hide hb
  have D2 : Hid (Below w.heap.size w (w1.alloc (.cells #[.string (nameOf n), .slice a (argsOf n) c, f] 30))) := hb.alloc hb.size _
  clear hb
  rcases hf with rfl | ⟨k, rfl⟩
  · go_wp2
    go_ret
    exact ⟨rfl, D2.out⟩
  · go_wp2
    go_ret
    exact ⟨rfl, D2.out⟩

set_option maxRecDepth 100000 in
set_option maxHeartbeats 4000000 in
theorem args_any (n : Int) (w : World) : Calls Tryz.prog 6 #[.int .i64 n] w fun e w' => e = .returned (.int .i64 (argsOf n : Int)) ∧ Below w.heap.size w w' := by
  go_enter Tryz.func6, Tryz.ntmps6
  go_wp2_with fail
  refine Calls.mono (find_any n w) ?_
  rintro e w1 ⟨s, a, m, c, f, q, rfl, hf, rfl, rfl, hb⟩
  have D2 : Hid (Below w.heap.size w (w1.alloc (.cells #[.string (nameOf n), .slice a (argsOf n) c, f] 30))) := hb.alloc hb.size _
  clear hb
  rcases hf with rfl | ⟨k, rfl⟩
  · go_wp2
    go_ret
    exact ⟨rfl, D2.out⟩
  · go_wp2
    go_ret
    exact ⟨rfl, D2.out⟩

def numOf (x : ByteArray) : Int := match wds.findIdx? (fun s => s.toList == x.toList) with
  | some k => (k : Int)
  | none => -1
theorem numOf_at {x s : ByteArray} {k : Nat} (hs : wds[k]? = some s) (hx : (s.toList == x.toList) = true) (hall : ∀ (j : Nat) (t : ByteArray), j < k → wds[j]? = some t → (t.toList == x.toList) = false) : numOf x = (k : Int) := by
  have hk : k < wds.length := (List.getElem?_eq_some_iff.1 hs).1
  have e : wds.findIdx? (fun s => s.toList == x.toList) = some k := by
    rw [List.findIdx?_eq_some_iff_getElem]
    refine ⟨hk, by rw [(List.getElem?_eq_some_iff.1 hs).2]; exact hx, fun j hj => ?_⟩
    rw [hall j _ hj (List.getElem?_eq_getElem (by omega))]
    simp
  unfold numOf
  rw [e]
theorem numOf_no {x : ByteArray} (hall : ∀ (j : Nat) (t : ByteArray), j < 15 → wds[j]? = some t → (t.toList == x.toList) = false) : numOf x = -1 := by
  have e : wds.findIdx? (fun s => s.toList == x.toList) = none := by
    rw [List.findIdx?_eq_none_iff]
    intro s hs
    obtain ⟨j, hj⟩ := List.mem_iff_getElem?.1 hs
    exact hall j s (List.getElem?_eq_some_iff.1 hj).1 hj
  unfold numOf
  rw [e]

set_option maxRecDepth 100000 in
set_option maxHeartbeats 4000000 in
theorem number_any (x : ByteArray) (w : World) : Calls Tryz.prog 5 #[.string x] w fun e w' => e = .returned (.int .i64 (numOf x)) ∧ Below w.heap.size w w' := by
  go_enter Tryz.func5, Tryz.ntmps5
  go_wp2_with fail
  refine Calls.mono (table_any _) ?_
  rintro e w1 ⟨g, rows, rfl, hrc, hw, hn, hb⟩
  have D1 := hide hb
  have HRC := hide hrc
  have HW := hide hw
  clear hb hrc hw hn
  go_wp2
  go_loopw [7] (fun i wr => ∃ k : Nat, k ≤ 15 ∧ i = .int .i64 (k : Int) ∧ Hid (∀ (j : Nat) (t : ByteArray), j < k → wds[j]? = some t → (t.toList == x.toList) = false) ∧ Hid (Below w.heap.size w wr) ∧ Hid (Below w1.heap.size w1 wr)) (fun i _ => 15 - (intOf i).toNat)
  case atStart => exact ⟨0, by omega, rfl, fun j t hj => by omega, D1.out, Below.refl _ _⟩
  case round =>
    obtain ⟨k, hk, rfl, hall, hbw, hb⟩ := hrel
    by_cases hlt : k < 15
    · obtain ⟨s, hs⟩ : ∃ s, rows[k]? = some s := ⟨_, List.getElem?_eq_getElem (by rw [HRC.out.size]; exact hlt)⟩
      obtain ⟨b, off, hbo, hr⟩ := (HRC.out.below hb.out).at srow3 (by decide) hs
      simp only [Option.some.injEq, Addr.mk.injEq, and_true] at hbo
      obtain ⟨rfl, rfl⟩ := hbo
      have r0 := hr 0 _ rfl
      have r1 := hr 1 _ rfl
      have r2 := hr 2 _ rfl
      simp only [Nat.add_zero, Nat.zero_add] at r0 r1 r2
      have hk1 : (k : Int) < 15 := by omega
      have HS : Hid (wds[k]? = some s.word) := by unfold Hid; rw [← HW.out, List.getElem?_map, hs]; rfl
      have HB1 : Hid (Below w.heap.size w (wr.alloc (.cells #[.string s.word, .slice s.a s.n s.c, .func (.func s.fn) #[] #[]] 30))) := hbw.out.alloc hbw.out.size _
      have HB2 : Hid (Below w1.heap.size w1 (wr.alloc (.cells #[.string s.word, .slice s.a s.n s.c, .func (.func s.fn) #[] #[]] 30))) := hb.out.alloc hb.out.size _
      clear hr hs
      cases hx : (s.word.toList == x.toList)
      · have HX := hide hx
        go_wp2
        go_roundw
        case rel =>
          refine ⟨k + 1, by omega, by go_num, fun j t hj ht => ?_, HB1.out, HB2.out⟩
          by_cases e : j = k
          · subst e
            rw [HS.out] at ht
            obtain rfl := Option.some.inj ht
            exact HX.out
          · exact hall.out j t (by omega) ht
        case measure => simp [intOf]; omega
      · have HN := hide (numOf_at HS.out hx hall.out)
        go_wp2
        go_ret
        exact ⟨by rw [HN.out]; rfl, HB1.out⟩
    · obtain rfl : k = 15 := by omega
      have HN := hide (numOf_no hall.out)
      go_wp2
      go_ret
      exact ⟨by rw [HN.out]; rfl, hbw.out⟩
end Go.Proofs.YtoahbemdkfmokaaGreatDoor
