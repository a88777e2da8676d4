/-
  Lists of plans, ports, messages and reports, as memory holds them.
-/
import Derived.Test.YtgcodajiehfloaaDoorPtChk
import Derived.Test.YtgcodajiehfloaaDoorRcs
namespace Go.Proofs.YtgcodajiehfloaaDoor
open Go.RowKit
set_option linter.unusedVariables false
set_option linter.unusedSimpArgs false

structure Plv where
  k : Int
  s : Int
  d : Int
  r : Int
def Plv.cells (p : Plv) : List Value := [.int .i64 p.k, .int .i64 p.s, .int .i64 p.d, .int .i64 p.r]
def Plv.err (p : Plv) : Nat := planErr p.k p.s p.d p.r
theorem plv4 (p : Plv) : p.cells.length = 4 := rfl
structure Mgv where
  port : Int
  data : ByteArray
def Mgv.cells (m : Mgv) : List Value := [.int .i64 m.port, .string m.data]
theorem mgv2 (m : Mgv) : m.cells.length = 2 := rfl
theorem mgv_one (l : List Mgv) : ∀ u ∈ l.flatMap Mgv.cells, u.oneCell' = true := by
  intro u hu
  obtain ⟨p, _, hp⟩ := List.mem_flatMap.1 hu
  simp only [Mgv.cells, List.mem_cons, List.not_mem_nil, or_false] at hp
  rcases hp with rfl | rfl <;> rfl
/-- A report of a lost message, by the number of its port. -/
def repc (n : Int) : List Value := [.int .i64 3, .int .i64 (-1), .int .u32 (n % 4294967296), .int .u32 0]
theorem repc4 (n : Int) : (repc n).length = 4 := rfl
theorem repc_one (l : List Int) : ∀ u ∈ l.flatMap repc, u.oneCell' = true := by
  intro u hu
  obtain ⟨p, _, hp⟩ := List.mem_flatMap.1 hu
  simp only [repc, List.mem_cons, List.not_mem_nil, or_false] at hp
  rcases hp with rfl | rfl | rfl | rfl <;> rfl

/-- A port, and where its messages lie. -/
structure Pr where
  a : Option Addr
  cap : Nat
  msgs : List ByteArray
  age : Int
abbrev Key := List ByteArray × Int
def Pr.key (p : Pr) : Key := (p.msgs, p.age)
def Pr.cells (p : Pr) : List Value := [.slice p.a p.msgs.length p.cap, .int .i64 p.age]
theorem pr2 (p : Pr) : p.cells.length = 2 := rfl
theorem pr_one (l : List Pr) : ∀ u ∈ l.flatMap Pr.cells, u.oneCell' = true := by
  intro u hu
  obtain ⟨p, _, hp⟩ := List.mem_flatMap.1 hu
  simp only [Pr.cells, List.mem_cons, List.not_mem_nil, or_false] at hp
  rcases hp with rfl | rfl <;> rfl
def Pr.Shows (w : World) (p : Pr) : Prop := Sts w p.a p.msgs.length p.cap p.msgs
/-- The port's messages don't lie in this block. -/
def Pr.off (g : Option Nat) (p : Pr) : Prop := p.msgs ≠ [] → ∀ b o, p.a = some ⟨b, o, none⟩ → some b ≠ g
theorem Sts.grown {w w' : World} {g : Option Nat} {a : Option Addr} {n c : Nat} {l : List ByteArray} (h : Sts w a n c l) (hg : w.grownBy w' g) (ho : l ≠ [] → ∀ b o, a = some ⟨b, o, none⟩ → some b ≠ g) : Sts w' a n c l :=
  ⟨h.size, h.most, h.small, h.row.size, h.row.fit, h.row.null, fun j v hv => by
    obtain ⟨b, o, e, hc⟩ := h.row.cell j v hv
    exact ⟨b, o, e, hg.cell hc (ho (fun e => by subst e; simp at hv) b o e)⟩⟩
theorem Pr.Shows.grown {w w' : World} {g : Option Nat} {p : Pr} (h : p.Shows w) (hg : w.grownBy w' g) (ho : p.off g) : p.Shows w' := Sts.grown h hg ho
theorem Pr.Shows.below {w w' : World} {p : Pr} (h : p.Shows w) (hb : Below w.heap.size w w') : p.Shows w' := Sts.below h hb
/-- All lies below the heap's end. -/
theorem Pr.Shows.fresh {w : World} {p : Pr} (h : p.Shows w) {n : Nat} (hn : w.heap.size ≤ n) : p.off (some n) := by
  intro hne b o e heq
  obtain ⟨s, hs⟩ : ∃ s, p.msgs[0]? = some s := by
    cases hm : p.msgs with
    | nil => exact absurd hm hne
    | cons s _ => exact ⟨s, rfl⟩
  obtain ⟨b', o', e', hc⟩ := h.cell hs
  rw [e] at e'
  simp only [Option.some.injEq, Addr.mk.injEq, and_true] at e' heq
  obtain ⟨rfl, rfl⟩ := e'
  have : b < w.heap.size := block_lt_of_cell hc
  omega
theorem SLk.off {w : World} {base g : Nat} {a : Option Addr} {c n : Nat} {l : List ByteArray} {age : Int} (h : SLk w base (.slice a n c) l) (hg : g < base) : (⟨a, c, l, age⟩ : Pr).off (some g) := by
  intro hne b o e heq
  rcases h with h | ⟨h, _⟩
  · have e' : a = some ⟨b, o, none⟩ := e
    subst e'
    have := (World.ownsRow.lt h b rfl).1
    simp at heq
    omega
  · exact hne (List.map_eq_nil_iff.1 h)
theorem off_none (p : Pr) : p.off none := fun _ _ _ _ h => by simp at h

/-- The ports that a slice shows. -/
structure Prs (w : World) (a : Option Addr) (len cap : Nat) (l : List Pr) : Prop where
  rcs : Rcs Pr.cells 2 w a len cap l
  shows_ : ∀ p ∈ l, p.Shows w
theorem Prs.below {w w' : World} {a : Option Addr} {len cap : Nat} {l : List Pr} (h : Prs w a len cap l) (hb : Below w.heap.size w w') : Prs w' a len cap l := ⟨h.rcs.below hb, fun p hp => (h.shows_ p hp).below hb⟩
/-- Ports of the call's own, from block 'base' on. -/
structure PrOwn (w : World) (base : Nat) (v : Value) (l : List Pr) : Prop where
  row : w.ownsRow base 26 2 v l.length (l.flatMap Pr.cells)
  shows_ : ∀ p ∈ l, p.Shows w
  far : ∀ p ∈ l, p.off v.ownBlock
/-- They don't lie in this block, nor do their messages. -/
structure PrOff (g : Option Nat) (v : Value) (l : List Pr) : Prop where
  row : v.ownBlock = none ∨ v.ownBlock ≠ g
  each : ∀ p ∈ l, p.off g
theorem PrOwn.grown {w w' : World} {base : Nat} {v : Value} {l : List Pr} {g : Option Nat} (h : PrOwn w base v l) (hg : w.grownBy w' g) (ho : PrOff g v l) : PrOwn w' base v l :=
  ⟨h.row.kept hg ho.row, fun p hp => (h.shows_ p hp).grown hg (ho.each p hp), h.far⟩
theorem PrOwn.below {w w' : World} {base : Nat} {v : Value} {l : List Pr} (h : PrOwn w base v l) (hb : Below w.heap.size w w') : PrOwn w' base v l :=
  ⟨ownsRow_below h.row hb, fun p hp => (h.shows_ p hp).below hb, h.far⟩
theorem PrOwn.weaken {w : World} {base base' : Nat} {v : Value} {l : List Pr} (h : PrOwn w base v l) (hb : base' ≤ base) : PrOwn w base' v l := ⟨ownsRow_weaken h.row hb, h.shows_, h.far⟩
theorem PrOwn.fresh {w : World} {base : Nat} {v : Value} {l : List Pr} (h : PrOwn w base v l) {n : Nat} (hn : w.heap.size ≤ n) : PrOff (some n) v l :=
  ⟨.inr fun e => by have := (h.row.lt n e).2; omega, fun p hp => (h.shows_ p hp).fresh hn⟩
theorem prown_nil (w : World) (base : Nat) : PrOwn w base (.slice none 0 0) [] := ⟨World.ownsRow_nil _ _ _ _, fun p hp => by simp at hp, fun p hp => by simp at hp⟩
theorem PrOwn.prs {w : World} {base : Nat} {v : Value} {l : List Pr} (h : PrOwn w base v l) : ∃ a c, v = .slice a l.length c ∧ Prs w a l.length c l := by
  obtain ⟨a, c, e, hr⟩ := RLk.row (.inl h.row)
  exact ⟨a, c, e, ⟨rfl, hr⟩, h.shows_⟩
/-- A port is laid into its place. -/
theorem PrOwn.put {w : World} {base G cap n : Nat} {l : List Pr} (h : PrOwn w base (.slice (some ⟨G, 0, none⟩) n cap) l) (hn : l.length = n) {k : Nat} {p q : Pr} (hk : l[k]? = some p) (hq : q.Shows w) (hf : q.off (some G)) :
    (∃ u, w.cell? ⟨G, k * 2, none⟩ = some u) ∧ (∃ u, w.cell? ⟨G, k * 2 + 1, none⟩ = some u) ∧ w.frozen? ⟨G, k * 2, none⟩ = false ∧ w.frozen? ⟨G, k * 2 + 1, none⟩ = false ∧
    PrOwn ((w.setCell ⟨G, k * 2, none⟩ (.slice q.a q.msgs.length q.cap)).setCell ⟨G, k * 2 + 1, none⟩ (.int .i64 q.age)) base (.slice (some ⟨G, 0, none⟩) n cap) (l.set k q) ∧
    w.grownBy ((w.setCell ⟨G, k * 2, none⟩ (.slice q.a q.msgs.length q.cap)).setCell ⟨G, k * 2 + 1, none⟩ (.int .i64 q.age)) (some G) := by
  subst hn
  have hkl : k < l.length := (List.getElem?_eq_some_iff.1 hk).1
  obtain ⟨h1, g1⟩ := World.ownsRow.stored h.row (k * 2) (.slice q.a q.msgs.length q.cap)
  obtain ⟨h2, g2⟩ := World.ownsRow.stored h1 (k * 2 + 1) (.int .i64 q.age)
  have gg : w.grownBy ((w.setCell ⟨G, k * 2, none⟩ (.slice q.a q.msgs.length q.cap)).setCell ⟨G, k * 2 + 1, none⟩ (.int .i64 q.age)) (some G) :=
    ⟨rfl, rfl, rfl, Nat.le_trans g1.size g2.size, fun j hj hne => by rw [g2.block j (Nat.lt_of_lt_of_le hj g1.size) hne, g1.block j hj hne]⟩
  have c0 := World.ownsRow.cellAt h.row (k * 2) (by omega)
  have c1 := World.ownsRow.cellAt h.row (k * 2 + 1) (by omega)
  rw [fl_get pr2 1 hk (by decide)] at c1
  have e0 := fl_get pr2 0 hk (by decide)
  rw [Nat.add_zero] at e0
  rw [e0] at c0
  rw [fl_two pr2 hk (y := q) rfl] at h2
  refine ⟨⟨_, c0⟩, ⟨_, c1⟩, World.ownsRow.frozenAt h.row _, World.ownsRow.frozenAt h.row _, ⟨by rw [List.length_set]; exact h2, fun x hx => ?_, fun x hx => ?_⟩, gg⟩
  · rcases List.mem_or_eq_of_mem_set hx with hx | rfl
    · exact (h.shows_ x hx).grown gg (h.far x hx)
    · exact hq.grown gg hf
  · rcases List.mem_or_eq_of_mem_set hx with hx | rfl
    · exact h.far x hx
    · exact hf
theorem PrOff.set {g : Option Nat} {v : Value} {l : List Pr} (h : PrOff g v l) {k : Nat} {q : Pr} (hq : q.off g) : PrOff g v (l.set k q) :=
  ⟨h.row, fun x hx => by
    rcases List.mem_or_eq_of_mem_set hx with hx | rfl
    · exact h.each x hx
    · exact hq⟩

theorem infoPort : ∃ i z, Tryd.prog.info? 26 = some i ∧ i.zero = some z ∧ i.size = 2 ∧ i.bytes = 32 ∧ z.cells.size = 2 := by
  have h : (Tryd.prog.info? 26).map (fun i => (i.size, i.bytes, i.zero.map (·.cells.size))) = some (2, 32, some 2) := by kernel_rfl
  cases hi : Tryd.prog.info? 26 with
  | none => simp [hi] at h
  | some i =>
    simp only [hi, Option.map_some, Option.some.injEq, Prod.mk.injEq] at h
    obtain ⟨h1, h2, h3⟩ := h
    cases hz : i.zero with
    | none => simp [hz] at h3
    | some z => exact ⟨i, z, rfl, hz, h1, h2, by simpa [hz] using h3⟩
theorem infoMsg : ∃ i z, Tryd.prog.info? 53 = some i ∧ i.zero = some z ∧ i.size = 2 ∧ i.bytes = 24 ∧ z.cells.size = 2 := by
  have h : (Tryd.prog.info? 53).map (fun i => (i.size, i.bytes, i.zero.map (·.cells.size))) = some (2, 24, some 2) := by kernel_rfl
  cases hi : Tryd.prog.info? 53 with
  | none => simp [hi] at h
  | some i =>
    simp only [hi, Option.map_some, Option.some.injEq, Prod.mk.injEq] at h
    obtain ⟨h1, h2, h3⟩ := h
    cases hz : i.zero with
    | none => simp [hz] at h3
    | some z => exact ⟨i, z, rfl, hz, h1, h2, by simpa [hz] using h3⟩
theorem infoRep : ∃ i z, Tryd.prog.info? 65 = some i ∧ i.zero = some z ∧ i.size = 4 ∧ i.bytes = 24 ∧ z.cells.size = 4 := by
  have h : (Tryd.prog.info? 65).map (fun i => (i.size, i.bytes, i.zero.map (·.cells.size))) = some (4, 24, some 4) := by kernel_rfl
  cases hi : Tryd.prog.info? 65 with
  | none => simp [hi] at h
  | some i =>
    simp only [hi, Option.map_some, Option.some.injEq, Prod.mk.injEq] at h
    obtain ⟨h1, h2, h3⟩ := h
    cases hz : i.zero with
    | none => simp [hz] at h3
    | some z => exact ⟨i, z, rfl, hz, h1, h2, by simpa [hz] using h3⟩
theorem infoPlan : ∃ i z, Tryd.prog.info? 23 = some i ∧ i.zero = some z ∧ i.size = 4 ∧ i.bytes = 32 ∧ z.cells.size = 4 := by
  have h : (Tryd.prog.info? 23).map (fun i => (i.size, i.bytes, i.zero.map (·.cells.size))) = some (4, 32, some 4) := by kernel_rfl
  cases hi : Tryd.prog.info? 23 with
  | none => simp [hi] at h
  | some i =>
    simp only [hi, Option.map_some, Option.some.injEq, Prod.mk.injEq] at h
    obtain ⟨h1, h2, h3⟩ := h
    cases hz : i.zero with
    | none => simp [hz] at h3
    | some z => exact ⟨i, z, rfl, hz, h1, h2, by simpa [hz] using h3⟩

/-- append of one record that lies in a block of its own, to a list of the call's own. -/
theorem append_rec {w : World} {ops : Array Oper} {rest : List Oper} {o : Oper} {act : Act} {Q : Exit → Act → World → Prop} (hgd : o.guard = none) (s x : Operand) (t e : TypeId)
    (ho : o.op = .call { callee := .builtin .append, args := #[s, x], argTypes := #[t, t] }) (ht : Tryd.prog.underlying t = some (.slice e))
    {size bytes : Nat} (hi : ∃ i z, Tryd.prog.info? e = some i ∧ i.zero = some z ∧ i.size = size ∧ i.bytes = bytes ∧ z.cells.size = size) (h0 : 0 < size)
    (base : Nat) (v : Value) (n : Nat) (xs : List Value) (hs : act.eval s = v) (hown : w.ownsRow base e size v n xs)
    (g c : Nat) (cs : List Value) (hx : act.eval x = .slice (some ⟨g, 0, none⟩) 1 c) (hl : cs.length = size) (hc : ∀ j u, cs[j]? = some u → w.cell? ⟨g, j, none⟩ = some u) (one : ∀ u ∈ cs, u.oneCell' = true)
    (h63 : n + 1 ≤ maxLen) (hby : (n + 1) * bytes ≤ 140737488355328) (hbase : base ≤ w.heap.size)
    (h : ∀ g cap w', w'.ownsRow base e size (.slice (some ⟨g, 0, none⟩) (n + 1) cap) (n + 1) (xs ++ cs) → w.grownBy w' v.ownBlock → (v.ownBlock = some g ∨ g = w.heap.size) → g < w'.heap.size → wpList Tryd.prog ops Q rest (act.put o.dst (.slice (some ⟨g, 0, none⟩) (n + 1) cap)) w') : wpList Tryd.prog ops Q (o :: rest) act w := by
  obtain ⟨i, z, hi, hz, hsz, hb, hzs⟩ := hi
  refine wpList_append_lies w hgd s x t ho base e i z size bytes ht hi hz hsz hb hzs h0 v n xs hs hown ⟨g, 0, none⟩ 1 c cs hx (by rw [hl, Nat.one_mul]) ?_ one (by decide) h63 hby hbase _ rfl h
  intro j u hu
  rw [add_lit', Nat.zero_add]
  exact hc j u hu
end Go.Proofs.YtgcodajiehfloaaDoor
