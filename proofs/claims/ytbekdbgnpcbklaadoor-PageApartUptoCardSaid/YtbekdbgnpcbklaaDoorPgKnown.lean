/-
  The law's own small test with fixed answers; a memory that may be read everywhere.
-/
import Derived.Test.YtbekdbgnpcbklaaDoorPgOut
namespace Go.Proofs.YtbekdbgnpcbklaaDoor
open Go.RowKit FerryCrc
set_option linter.unusedVariables false

theorem wpList_bs {P : Program} {w w' : World} {ops : Array Oper} {rest : List Oper} {o : Oper} {a : Act} {Q : Exit → Act → World → Prop} (hgd : o.guard = none) (t : TypeId) (x0 x1 : Operand) (ho : o.op = .buildSlice t 2 #[(0, x0), (1, x1)])
    (v0 v1 : Value) (h0 : a.eval x0 = v0) (h1 : a.eval x1 = v1) (v : Value) (hrun : (Instr.buildSlice t 2 #[(0, v0), (1, v1)]).run P w = .ok v w')
    (h : wpList P ops Q rest (a.put o.dst v) w') : wpList P ops Q (o :: rest) a w := by
  refine wpList_plain hgd fun K hK => ?_
  unfold Oper.wp
  simp only [execOp, ho, List.map_toArray, List.map_cons, List.map_nil, h0, h1, Sem.run_bind, hrun, Result.andThen_ok, Sem.run_pure]
  exact hK _ _ h

def pk (r : Int) : Pg := ⟨r, false, List.replicate 64 0⟩
def two : List Pg := [pk 5, pk 3]
theorem pk_ok (r : Int) (h1 : -9223372036854775808 ≤ r) (h2 : r ≤ 9223372036854775807) : (pk r).Ok := ⟨h1, h2, by show (List.replicate 64 0).length = 64; decide, by show ∀ c ∈ List.replicate 64 0, c < 256; decide⟩
theorem two_ok : Oks two := by
  intro p hp
  simp only [two, List.mem_cons, List.not_mem_nil, or_false] at hp
  rcases hp with rfl | rfl
  · exact pk_ok _ (by decide) (by decide)
  · exact pk_ok _ (by decide) (by decide)
theorem build_two (w : World) : (Instr.buildSlice 22 2 #[(0, .agg (Tryd.zeroCells59.setIfInBounds 0 (.int .i64 5))), (1, .agg (Tryd.zeroCells59.setIfInBounds 0 (.int .i64 3)))]).run Tryd.prog w = .ok (.slice (some ⟨w.heap.size, 0, none⟩) 2 2) (w.alloc (.cells (flat two).toArray 59)) := by kernel_rfl
theorem pgs_two (w : World) : Pgs (w.alloc (.cells (flat two).toArray 59)) (some ⟨w.heap.size, 0, none⟩) 2 2 two := by
  refine ⟨rfl, by decide, by decide, two_ok, fun e => by simp at e, fun k p hk => ⟨_, _, rfl, fun j v hv => ?_⟩⟩
  have hj : j < 66 := by
    have := (List.getElem?_eq_some_iff.1 hv).1
    rw [(two_ok p (List.mem_of_getElem? hk)).cells] at this
    exact this
  have := range_alloc w (flat two) 59 (k * 66 + j) v (by rw [flat_get two_ok j hk hj]; exact hv)
  rw [Nat.zero_add] at this ⊢
  exact this
theorem nf_two : nfault two 64 2 1 = 0 := by decide
theorem st_two : stv two 64 2 74565 = stored two 64 2 74565 := by unfold stv; rw [if_pos nf_two]
theorem ld_two : ldv (stored two 64 2 74565) 64 4 0 = 591724544 := by kernel_rfl
theorem nl_two : nfault (stored two 64 2 74565) 64 4 0 = 0 := by kernel_rfl
theorem dirty_two : ∃ p, (stored two 64 2 74565)[1]? = some p ∧ p.cells[1]? = some (.bool true) := ⟨_, rfl, rfl⟩

theorem known_list : ∃ L : List Pg, Oks L ∧ L.length = 2 ∧ ldv L 64 4 0 = 591724544 ∧ nfault L 64 4 0 = 0 ∧ (∃ p, L[1]? = some p ∧ p.cells[1]? = some (.bool true)) ∧
    (∀ w a cap, Pgs w a 2 cap two → Calls Tryd.prog 9 #[.slice a 2 cap, .int .u32 64, .int .i64 2, .int .u32 74565] w fun e w' => ∃ x, e = .returned (.tuple #[x, .int .i64 0, .nilIface]) ∧ POwn w' w.heap.size x L ∧ Below w.heap.size w w') := by
  refine ⟨stored two 64 2 74565, stored_ok two_ok _ _ _, by rw [stored_len]; rfl, ld_two, nl_two, dirty_two, fun w a cap hs => ?_⟩
  have H1 := store_any a 2 cap two 64 2 74565 w hs (by decide) (.inr (.inl rfl)) (by decide)
  rw [st_two, nf_two] at H1
  exact H1

set_option maxRecDepth 100000 in
set_option maxHeartbeats 1000000 in
theorem known_any (w : World) : Calls Tryd.prog 4 #[] w fun e w' => e = .returned (.bool true) ∧ Below w.heap.size w w' := by
  obtain ⟨L, okL, hl2, hld, hnf, ⟨p, hp, hp1⟩, hst⟩ := known_list
  have H1 := hide (hst _ _ _ (pgs_two w))
  have D0 : Hid (Below w.heap.size w (w.alloc (.cells (flat two).toArray 59))) := (Below.refl _ _).alloc (Nat.le_refl _) _
  have HB := hide (build_two w)
  clear hst
  generalize w.alloc (.cells (flat two).toArray 59) = w0 at *
  generalize hA5 : Tryd.zeroCells59.setIfInBounds 0 (Value.int .i64 5) = A5 at *
  generalize hA3 : Tryd.zeroCells59.setIfInBounds 0 (Value.int .i64 3) = A3 at *
  go_enter Tryd.func4, Tryd.ntmps4
  go_wp2_with (first | (refine wpList_bs rfl 22 (.tmp 8) (.tmp 9) rfl (.agg A5) (.agg A3) rfl rfl _ HB.out ?_))
  clear hA5 hA3 HB
  refine Calls.mono H1.out ?_
  rintro e w1 ⟨x, rfl, ho, hb⟩
  obtain ⟨a1, c1, rfl, hpg, hform⟩ := ho.pgs okL (by omega)
  rcases hform with ⟨_, hnil⟩ | ⟨g, rfl, hg⟩
  · exfalso
    rw [hnil] at hl2
    exact absurd hl2 (by decide)
  rw [hl2] at hpg ho ⊢
  have hcell := (ho.cellOf hl2 okL hp (j := 1) (by decide)).1
  rw [hp1] at hcell
  have H2 := hide (load_any _ _ _ L 64 4 w1 hpg (by decide) (.inr (.inr rfl)))
  rw [hld, hnf] at H2
  have D1 := hide (chain D0.out hb)
  clear hp hp1 ho hpg hb hg hl2 H1 D0 hld hnf okL
  go_wp2_with fail
  refine Calls.mono H2.out ?_
  rintro e w2 ⟨rfl, rfl⟩
  go_wp2
  go_ret
  exact ⟨rfl, D1.out⟩

/-- A page that may be read. -/
def Pg.open (p : Pg) : Pg := ⟨p.rights / 2 * 2 + 1, p.dirty, p.data⟩
theorem Pg.open_ok {p : Pg} (h : p.Ok) : p.open.Ok := by
  have h1 := h.lo
  have h2 := h.hi
  exact ⟨by show _ ≤ p.rights / 2 * 2 + 1; omega, by show p.rights / 2 * 2 + 1 ≤ _; omega, h.size, h.small⟩
/-- The first k pages opened. -/
def opened (l : List Pg) (k : Nat) : List Pg := (l.take k).map Pg.open ++ l.drop k
theorem opened_len (l : List Pg) (k : Nat) : (opened l k).length = l.length := by simp [opened]; omega
theorem opened_ok {l : List Pg} (h : Oks l) (k : Nat) : Oks (opened l k) := by
  intro p hp
  rcases List.mem_append.1 hp with hp | hp
  · obtain ⟨q, hq, rfl⟩ := List.mem_map.1 hp
    exact Pg.open_ok (h q (List.mem_of_mem_take hq))
  · exact h p (List.mem_of_mem_drop hp)
theorem opened_succ {l : List Pg} {k : Nat} {p : Pg} (hp : l[k]? = some p) : (opened l k).set k p.open = opened l (k + 1) ∧ (opened l k)[k]? = some p := by
  have hk : k < l.length := (List.getElem?_eq_some_iff.1 hp).1
  have hlt : (List.map Pg.open (l.take k)).length = k := by simp; omega
  unfold opened
  constructor
  · rw [List.set_append_right _ _ (by omega), hlt, Nat.sub_self, List.take_add_one, hp, List.drop_eq_getElem_cons hk]
    have he : l[k] = p := by rw [List.getElem?_eq_getElem hk] at hp; exact Option.some.inj hp
    simp [he]
  · rw [List.getElem?_append_right (by omega), hlt, Nat.sub_self, List.getElem?_drop, Nat.add_zero, hp]
theorem cells_open (p : Pg) : p.open.cells = p.cells.set 0 (.int .i64 (p.rights / 2 * 2 + 1)) := by simp [Pg.cells, Pg.row, Pg.open]

end Go.Proofs.YtbekdbgnpcbklaaDoor
