/-
  Pages as memory holds them: 66 cells each: rights, mark, 64 bytes; the document's Copy.
-/
import Derived.Test.YtbekdbgnpcbklaaDoorPgMem
namespace Go.Proofs.YtbekdbgnpcbklaaDoor
open Go.RowKit FerryCrc
set_option linter.unusedVariables false

/-- A page: its rights, its mark, its bytes. -/
structure Pg where
  rights : Int
  dirty : Bool
  data : List Nat
def Pg.row (p : Pg) : List Value := p.data.map bv
def Pg.cells (p : Pg) : List Value := .int .i64 p.rights :: .bool p.dirty :: p.row
structure Pg.Ok (p : Pg) : Prop where
  lo : -9223372036854775808 ≤ p.rights
  hi : p.rights ≤ 9223372036854775807
  size : p.data.length = 64
  small : ∀ c ∈ p.data, c < 256
theorem Pg.Ok.row {p : Pg} (h : p.Ok) : p.row.length = 64 := by simp [Pg.row, h.size]
theorem Pg.Ok.cells {p : Pg} (h : p.Ok) : p.cells.length = 66 := by simp [Pg.cells, h.row]
theorem Pg.one (p : Pg) : ∀ u ∈ p.cells, u.oneCell' = true := by
  intro u hu
  simp only [Pg.cells, List.mem_cons] at hu
  rcases hu with rfl | rfl | hu
  · rfl
  · rfl
  · exact bv_one _ u hu
def Oks (l : List Pg) : Prop := ∀ p ∈ l, p.Ok
theorem Oks.take {l : List Pg} (h : Oks l) (k : Nat) : Oks (l.take k) := fun p hp => h p (List.mem_of_mem_take hp)
/-- The cells of a list of pages. -/
def flat (l : List Pg) : List Value := l.flatMap Pg.cells
theorem flat_len {l : List Pg} (h : Oks l) : (flat l).length = l.length * 66 := by
  induction l with
  | nil => rfl
  | cons p l ih =>
    have hp := (h p (by simp)).cells
    have := ih (fun q hq => h q (by simp [hq]))
    simp only [flat, List.flatMap_cons, List.length_append, List.length_cons] at this ⊢
    omega
theorem flat_get {l : List Pg} (h : Oks l) : ∀ {k : Nat} {p : Pg} (j : Nat), l[k]? = some p → j < 66 → (flat l)[k * 66 + j]? = p.cells[j]? := by
  induction l with
  | nil => intro k p j hp; simp at hp
  | cons q l ih =>
    intro k p j hp hj
    have hq := (h q (by simp)).cells
    simp only [flat, List.flatMap_cons]
    cases k with
    | zero =>
      simp at hp
      subst hp
      rw [List.getElem?_append_left (by omega), Nat.zero_mul, Nat.zero_add]
    | succ k =>
      rw [List.getElem?_append_right (by omega), show (k + 1) * 66 + j - q.cells.length = k * 66 + j by omega]
      exact ih (fun x hx => h x (by simp [hx])) j (by simpa using hp) hj
theorem flat_one (l : List Pg) : ∀ u ∈ flat l, u.oneCell' = true := by
  intro u hu
  obtain ⟨p, _, hp⟩ := List.mem_flatMap.1 hu
  exact p.one u hp
theorem flat_snoc (l : List Pg) (p : Pg) : flat (l ++ [p]) = flat l ++ p.cells := by simp [flat]
theorem flat_set {l : List Pg} (h : Oks l) : ∀ {k : Nat} {p q : Pg} (j : Nat) (u : Value), l[k]? = some p → j < 66 → q.cells = p.cells.set j u → (flat l).set (k * 66 + j) u = flat (l.set k q) := by
  induction l with
  | nil => intro k p q j u hp; simp at hp
  | cons x l ih =>
    intro k p q j u hp hj hq
    have hx := (h x (by simp)).cells
    cases k with
    | zero =>
      simp at hp
      subst hp
      simp only [flat, List.flatMap_cons, List.set_cons_zero, Nat.zero_mul, Nat.zero_add]
      rw [List.set_append_left _ _ (by omega), hq]
    | succ k =>
      simp only [flat, List.flatMap_cons, List.set_cons_succ]
      rw [List.set_append_right _ _ (by omega), show (k + 1) * 66 + j - x.cells.length = k * 66 + j by omega]
      have := ih (fun y hy => h y (by simp [hy])) j u (by simpa using hp) hj hq
      simp only [flat] at this
      rw [this]

/-- The pages that a slice shows in a world. -/
structure Pgs (w : World) (a : Option Addr) (len cap : Nat) (l : List Pg) : Prop where
  size : l.length = len
  most : len ≤ 1759218604391
  fit : len ≤ cap
  ok : Oks l
  null : a = none → len = 0 ∧ cap = 0
  cell : ∀ k p, l[k]? = some p → ∃ b off, a = some ⟨b, off, none⟩ ∧ w.rangeAt b (off + k * 66) p.cells

theorem range_below {w w' : World} {b o : Nat} {cs : List Value} (h : w.rangeAt b o cs) (hb : Below w.heap.size w w') : w'.rangeAt b o cs := fun j v hv => by
  have hc := h j v hv
  rw [hb.cell (p := ⟨b, o + j, none⟩) (block_lt_of_cell hc)]
  exact hc
theorem Pgs.below {w w' : World} {a : Option Addr} {len cap : Nat} {l : List Pg} (h : Pgs w a len cap l) (hb : Below w.heap.size w w') : Pgs w' a len cap l :=
  ⟨h.size, h.most, h.fit, h.ok, h.null, fun k p hk => by
    obtain ⟨b, off, e, hr⟩ := h.cell k p hk
    exact ⟨b, off, e, range_below hr hb⟩⟩
/-- A slice of pages of the call's own memory, from block 'base' on. -/
def POwn (w : World) (base : Nat) (v : Value) (l : List Pg) : Prop := w.ownsRow base 59 66 v l.length (flat l)

theorem POwn.below {w w' : World} {base : Nat} {v : Value} {L : List Pg} (h : POwn w base v L) (hb : Below w.heap.size w w') : POwn w' base v L := by
  refine ⟨h.1, ?_⟩
  rcases h.2 with e | ⟨g, cap, cur, e, hg, hh, r⟩
  · exact .inl e
  · refine .inr ⟨g, cap, cur, e, hg, ?_, r⟩
    rw [hb.block g (Array.getElem?_eq_some_iff.1 hh).1]
    exact hh
theorem POwn.weaken {w : World} {base base' : Nat} {v : Value} {L : List Pg} (h : POwn w base v L) (hb : base' ≤ base) : POwn w base' v L := by
  refine ⟨h.1, ?_⟩
  rcases h.2 with e | ⟨g, cap, cur, e, hg, r⟩
  · exact .inl e
  · exact .inr ⟨g, cap, cur, e, Nat.le_trans hb hg, r⟩
/-- What a slice of the call's own shows. -/
theorem POwn.pgs {w : World} {base : Nat} {v : Value} {l : List Pg} (h : POwn w base v l) (ok : Oks l) (hm : l.length ≤ 1759218604391) :
    ∃ a c, v = .slice a l.length c ∧ Pgs w a l.length c l ∧ ((a = none ∧ l = []) ∨ ∃ g, a = some ⟨g, 0, none⟩ ∧ base ≤ g) := by
  rcases h.2 with ⟨e, hn⟩ | ⟨g, cap, cur, e, hg, hh, hnc, hcm, hcs, htake⟩
  · have hl : l = [] := List.length_eq_zero_iff.1 hn
    subst hl
    exact ⟨none, 0, e, ⟨rfl, by decide, by decide, ok, fun _ => ⟨rfl, rfl⟩, fun k p hk => by simp at hk⟩, .inl ⟨rfl, rfl⟩⟩
  · subst e
    refine ⟨_, cap, rfl, ⟨rfl, hm, hnc, ok, fun e => by simp at e, fun k p hk => ⟨g, 0, rfl, fun j v hv => ?_⟩⟩, .inr ⟨g, rfl, hg⟩⟩
    have hkl : k < l.length := (List.getElem?_eq_some_iff.1 hk).1
    have hj : j < 66 := by
      have := (List.getElem?_eq_some_iff.1 hv).1
      rw [(ok p (List.mem_of_getElem? hk)).cells] at this
      exact this
    have := World.ownsRow.cellAt h (k * 66 + j) (by omega)
    rw [Nat.zero_add, this, flat_get ok j hk hj]
    exact hv

theorem infoPage : ∃ i z, Tryd.prog.info? 59 = some i ∧ i.zero = some z ∧ i.size = 66 ∧ i.bytes = 80 ∧ z.cells.size = 66 := by
  have h : (Tryd.prog.info? 59).map (fun i => (i.size, i.bytes, i.zero.map (·.cells.size))) = some (66, 80, some 66) := by kernel_rfl
  cases hi : Tryd.prog.info? 59 with
  | none => simp [hi] at h
  | some i =>
    simp only [hi, Option.map_some, Option.some.injEq, Prod.mk.injEq] at h
    obtain ⟨h1, h2, h3⟩ := h
    cases hz : i.zero with
    | none => simp [hz] at h3
    | some z => exact ⟨i, z, rfl, hz, h1, h2, by simpa [hz] using h3⟩
theorem sizePage : (Tryd.prog.info? 59).map (·.size) = some 66 := by kernel_rfl
theorem sizeData : (Tryd.prog.info? 57).map (·.size) = some 64 := by kernel_rfl

/-- append of one page that lies in a block of its own. -/
theorem append_pg {w : World} {ops : Array Oper} {rest : List Oper} {o : Oper} {act : Act} {Q : Exit → Act → World → Prop} (hgd : o.guard = none) (s x : Operand)
    (ho : o.op = .call { callee := .builtin .append, args := #[s, x], argTypes := #[22, 22] })
    (base : Nat) (v : Value) (xs : List Pg) (hs : act.eval s = v) (hown : POwn w base v xs)
    (g c : Nat) (p : Pg) (hx : act.eval x = .slice (some ⟨g, 0, none⟩) 1 c) (hp : p.Ok) (hc : w.rangeAt g 0 p.cells)
    (h63 : xs.length < 1759218604391) (hbase : base ≤ w.heap.size)
    (h : ∀ v' w', POwn w' base v' (xs ++ [p]) → w.grownBy w' v.ownBlock → wpList Tryd.prog ops Q rest (act.put o.dst v') w') : wpList Tryd.prog ops Q (o :: rest) act w := by
  obtain ⟨i, z, hi, hz, hsz, hby, hzs⟩ := infoPage
  refine wpList_append_own w hgd s x 22 ho base 59 i z 66 80 Tryd.underlying22 hi hz hsz hby hzs (by decide) v xs.length (flat xs) hs hown ⟨g, 0, none⟩ 1 c p.cells hx (by rw [hp.cells]) ?_ p.one (by unfold maxLen; omega) (by omega) hbase ?_
  · intro j u hu
    rw [add_none]
    exact hc j u hu
  · intro v' w' h1 h2 h3
    refine h v' w' ?_ h2
    unfold POwn
    rw [List.length_append, flat_snoc]
    exact h1

theorem range_alloc (w : World) (cs : List Value) (t : TypeId) : (w.alloc (.cells cs.toArray t)).rangeAt w.heap.size 0 cs := fun j v hv => by
  rw [World.cell?_alloc_at _ _ _ _ rfl]
  simpa using hv

set_option maxRecDepth 100000 in
set_option maxHeartbeats 400000 in
theorem refCopy_any (a : Option Addr) (len cap : Nat) (l : List Pg) (w : World) (hs : Pgs w a len cap l) :
    Calls Tryd.prog 5 #[.slice a len cap] w fun e w' => ∃ v, e = .returned v ∧ POwn w' w.heap.size v l ∧ Below w.heap.size w w' := by
  have hm := hs.most
  have HS := hide hs
  clear hs
  go_enter Tryd.func5, Tryd.ntmps5
  go_wp2
  go_loopw [3, 4] (fun o i wr => ∃ k : Nat, k ≤ len ∧ i = .int .i64 k ∧ Hid (POwn wr w.heap.size o (l.take k)) ∧ Hid (Below w.heap.size w wr)) (fun _ i _ => len - (intOf i).toNat)
  case atStart => exact ⟨0, by omega, rfl, World.ownsRow_nil _ _ _ _, Below.refl _ _⟩
  case round =>
    obtain ⟨k, hk, rfl, hown, hb⟩ := hrel
    by_cases hlt : k < len
    · obtain ⟨p, hp⟩ : ∃ p, l[k]? = some p := ⟨_, List.getElem?_eq_getElem (by rw [HS.out.size]; exact hlt)⟩
      obtain ⟨b, off, rfl, hr⟩ := HS.out.cell k p hp
      have HR := hide (range_below hr hb.out)
      have hpo : p.Ok := HS.out.ok p (List.mem_of_getElem? hp)
      have HP := hide hpo
      have HT : Hid (l.take (k + 1) = l.take k ++ [p]) := by unfold Hid; rw [List.take_add_one, hp]; rfl
      have HTL : Hid ((l.take k).length < 1759218604391) := by unfold Hid; rw [List.length_take]; omega
      have HI := hide infoPage
      clear hr hp hpo
      go_wp2_with (first
        | (refine wpList_load_mid rfl 59 (.tmp 14) rfl b (off + k * 66) rfl p.cells _ HR.out Tryd.underlying59 rfl (by rw [HP.out.cells]; exact sizePage) ?_)
        | (obtain ⟨i, z, hi, hz, hsz, _, _⟩ := HI.out; refine wpList_build1 rfl 22 (.tmp 15) rfl p.cells rfl 59 i z Tryd.underlying22 hi hz (by rw [HP.out.cells]; exact hsz) (by rw [HP.out.cells]; decide) (by rw [HP.out.cells]; decide) ?_; clear hi hz hsz)
        | (at_builtin; refine append_pg rfl (.tmp 11) (.tmp 16) rfl w.heap.size _ (l.take k) rfl (hown.out.below ((Below.refl _ _).alloc (Nat.le_refl _) _)) wr.heap.size 1 p rfl HP.out (range_alloc _ _ _) HTL.out (by simp; have := hb.out.size; omega) ?_; intro v' w1 hown1 hgrow1))
      have hb1 : Hid (Below w.heap.size w w1) := (hb.out.alloc hb.out.size _).grown hgrow1 (by simp; have := hb.out.size; omega) (fun j e => (World.ownsRow.lt hown.out j e).1)
      go_roundw
      case rel => exact ⟨k + 1, by omega, by go_num, by rw [HT.out]; exact hown1, hb1⟩
      case measure => simp [intOf]; omega
    · obtain rfl : k = len := by omega
      have HT : Hid (l.take k = l) := by unfold Hid; rw [← HS.out.size, List.take_length]
      go_wp2
      go_ret
      exact ⟨_, rfl, by rw [← HT.out]; exact hown.out, hb.out⟩
end Go.Proofs.YtbekdbgnpcbklaaDoor
