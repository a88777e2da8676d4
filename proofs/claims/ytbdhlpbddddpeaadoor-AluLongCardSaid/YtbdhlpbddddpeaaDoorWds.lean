/-
  Words of 32 bits that a slice shows in memory, and slices of the call's own that are appended to.
-/
import Derived.Test.YtbdhlpbddddpeaaDoorAluWide0
import Derived.Laws.Rows
import Derived.Deep.WholeRow
import Derived.Laws.AppendOwnNone
import Derived.LoopTactic
namespace Go.Proofs.YtbdhlpbddddpeaaDoor
open Go.RowKit FerryAlu
set_option linter.unusedVariables false

/-- The words that a slice shows in a world. -/
structure Wds (w : World) (a : Option Addr) (len cap : Nat) (l : List Nat) : Prop where
  size : l.length = len
  most : 4 * len ≤ 140737488355328
  fit : len ≤ cap
  small : ∀ c ∈ l, c < 4294967296
  null : a = none → len = 0 ∧ cap = 0
  cell : ∀ k, k < len → ∃ b off, a = some ⟨b, off, none⟩ ∧ ∃ c, l[k]? = some c ∧ w.cell? ⟨b, off + k, none⟩ = some (.int .u32 (c : Int))

theorem Wds.below {w w' : World} {a : Option Addr} {len cap : Nat} {l : List Nat} (h : Wds w a len cap l) (hb : Below w.heap.size w w') : Wds w' a len cap l :=
  ⟨h.size, h.most, h.fit, h.small, h.null, fun k hk => by
    obtain ⟨b, off, ha, c, hl, hc⟩ := h.cell k hk
    refine ⟨b, off, ha, c, hl, ?_⟩
    rw [hb.cell (p := ⟨b, off + k, none⟩) (block_lt_of_cell hc)]
    exact hc⟩

theorem Wds.take {w : World} {a : Option Addr} {len cap : Nat} {l : List Nat} (h : Wds w a len cap l) (n : Nat) (hn : n ≤ len) : Wds w a n cap (l.take n) := by
  refine ⟨by rw [List.length_take, h.size]; omega, by have := h.most; omega, by have := h.fit; omega, fun c hc => h.small c (List.mem_of_mem_take hc), fun e => by have := h.null e; omega, fun k hk => ?_⟩
  obtain ⟨b, off, ha, c, hl, hc⟩ := h.cell k (by omega)
  exact ⟨b, off, ha, c, by rw [List.getElem?_take, if_pos hk, hl], hc⟩
theorem Wds.drop {w : World} {b off len cap : Nat} {l : List Nat} (h : Wds w (some ⟨b, off, none⟩) len cap l) (n : Nat) (hn : n ≤ len) : Wds w (some ⟨b, off + n, none⟩) (len - n) (cap - n) (l.drop n) := by
  refine ⟨by rw [List.length_drop, h.size], by have := h.most; omega, by have := h.fit; omega, fun c hc => h.small c (List.mem_of_mem_drop hc), fun e => by simp at e, fun k hk => ?_⟩
  obtain ⟨b', off', ha, c, hl, hc⟩ := h.cell (n + k) (by omega)
  simp only [Option.some.injEq, Addr.mk.injEq, and_true] at ha
  obtain ⟨rfl, rfl⟩ := ha
  exact ⟨b, off + n, rfl, c, by rw [List.getElem?_drop, hl], by rw [Nat.add_assoc]; exact hc⟩

/-- A word as a cell holds it. -/
def wv (c : Nat) : Value := .int .u32 (c : Int)
/-- A slice of the call's own memory, from block 'base' on, that holds these words. -/
def OwnW (w : World) (base : Nat) (v : Value) (l : List Nat) : Prop := w.ownsRow base 22 1 v l.length (l.map wv)

theorem add_none (b off i : Nat) : (⟨b, off, none⟩ : Addr).add i = ⟨b, off + i, none⟩ := by
  unfold Addr.add
  split <;> simp_all

theorem OwnW.bts {w : World} {base g n cap : Nat} {l : List Nat} (h : OwnW w base (.slice (some ⟨g, 0, none⟩) n cap) l) (hn : l.length = n) (hm : 4 * n ≤ 140737488355328) (hs : ∀ c ∈ l, c < 4294967296) :
    Wds w (some ⟨g, 0, none⟩) n cap l := by
  subst hn
  have hfit : l.length ≤ cap := by
    rcases h.2 with ⟨e, _⟩ | ⟨g', cap', cur, e, _, _, hnc, _⟩
    · simp at e
    · simp only [Value.slice.injEq, true_and] at e
      omega
  refine ⟨rfl, hm, hfit, hs, fun e => by simp at e, fun k hk => ⟨g, 0, rfl, l[k], by simp [hk], ?_⟩⟩
  have := World.ownsRow.cellAt h k (by omega)
  rw [Nat.zero_add, this]
  simp [hk, wv]

theorem ownW_empty (w : World) : OwnW (w.alloc (.cells #[] 22)) w.heap.size (.slice (some ⟨w.heap.size, 0, none⟩) 0 0) [] :=
  World.ownsRow_lit w #[] 0 (Nat.le_refl _) (by decide) rfl

theorem ownW_form {w : World} {base : Nat} {v : Value} {l : List Nat} (h : OwnW w base v l) (hv : v ≠ .slice none 0 0) : ∃ g c, v = .slice (some ⟨g, 0, none⟩) l.length c ∧ base ≤ g := by
  rcases h.2 with ⟨e, _⟩ | ⟨g, cap, cur, e, hg, _⟩
  · exact absurd e hv
  · exact ⟨g, cap, e, hg⟩

theorem wv_one (l : List Nat) : ∀ u ∈ l.map wv, u.oneCell' = true := by
  intro u hu
  obtain ⟨c, _, rfl⟩ := List.mem_map.1 hu
  rfl

theorem grownW_refl (w : World) (r : Option Nat) : w.grownBy w r := ⟨rfl, rfl, rfl, Nat.le_refl _, fun _ _ _ => rfl⟩

theorem info32 : (Tryd.prog.info? 22).map (fun i => (i.zero, i.size, i.bytes)) = some (some (.int .u32 0), 1, 4) := by kernel_rfl

/-- append of whatever word slice to a slice of the call's own. -/
theorem append_wds {w : World} {ops : Array Oper} {rest : List Oper} {o : Oper} {act : Act} {Q : Exit → Act → World → Prop} (hgd : o.guard = none) (s x : Operand)
    (ho : o.op = .call { callee := .builtin .append, args := #[s, x], argTypes := #[42, 42] })
    (base : Nat) (v : Value) (xs : List Nat) (hs : act.eval s = v) (hown : OwnW w base v xs)
    (a : Option Addr) (m c : Nat) (l : List Nat) (hx : act.eval x = .slice a m c) (hb : Wds w a m c l)
    (h63 : 4 * (xs.length + m) ≤ 140737488355328) (hbase : base ≤ w.heap.size)
    (h : ∀ v' w', OwnW w' base v' (xs ++ l) → w.grownBy w' v.ownBlock → (v' = .slice none 0 0 ↔ v = .slice none 0 0 ∧ m = 0) → wpList Tryd.prog ops Q rest (act.put o.dst v') w') : wpList Tryd.prog ops Q (o :: rest) act w := by
  obtain ⟨i0, hi, hz0, hz1, hz2⟩ := info_parts info32
  match a, hx, hb with
  | none, hx, hb =>
    obtain ⟨rfl, rfl⟩ := hb.null rfl
    have hl : l = [] := List.length_eq_zero_iff.1 hb.size
    subst hl
    refine wpList_append_own_none hgd s x 42 ho base 22 i0 1 Tryd.underlying42 hi v xs.length (xs.map wv) hs hown hx ?_
    exact h v w (by simpa using hown) (grownW_refl _ _) (by simp)
  | some ad, hx, hb =>
    have hsz := hb.size
    subst hsz
    refine wpList_append_own w hgd s x 42 ho base 22 i0 (.int .u32 0) 1 4 Tryd.underlying42 hi hz0 hz1 hz2 rfl (by decide) v xs.length (xs.map wv) hs hown ad l.length c (l.map wv) hx (by simp) ?_ (wv_one l) (by unfold maxLen; omega) (by omega) hbase ?_
    · intro j u hu
      have hj : j < l.length := by
        have := (List.getElem?_eq_some_iff.1 hu).1
        simpa using this
      obtain ⟨b, off, ha, c', hl', hc'⟩ := hb.cell j hj
      simp only [Option.some.injEq] at ha
      subst ha
      rw [add_none, hc']
      simp [hl', wv] at hu
      rw [← hu]
    · intro v' w' h1 h2 h3
      refine h v' w' ?_ h2 h3
      unfold OwnW
      rw [List.length_append, List.map_append]
      exact h1

/-- The words that a slice shows in a world, by their index. -/
structure Wf (w : World) (a : Option Addr) (n : Nat) (A : Nat → Nat) : Prop where
  most : 4 * n ≤ 140737488355328
  small : ∀ k, k < n → A k < 4294967296
  cell : ∀ k, k < n → ∃ b off, a = some ⟨b, off, none⟩ ∧ w.cell? ⟨b, off + k, none⟩ = some (.int .u32 (A k : Int))
theorem Wf.below {w w' : World} {a : Option Addr} {n : Nat} {A : Nat → Nat} (h : Wf w a n A) (hb : Below w.heap.size w w') : Wf w' a n A :=
  ⟨h.most, h.small, fun k hk => by
    obtain ⟨b, off, ha, hc⟩ := h.cell k hk
    refine ⟨b, off, ha, ?_⟩
    rw [hb.cell (p := ⟨b, off + k, none⟩) (block_lt_of_cell hc)]
    exact hc⟩
theorem Wf.congr {w : World} {a : Option Addr} {n : Nat} {A B : Nat → Nat} (h : Wf w a n A) (e : ∀ k, k < n → A k = B k) : Wf w a n B :=
  ⟨h.most, fun k hk => by rw [← e k hk]; exact h.small k hk, fun k hk => by rw [← e k hk]; exact h.cell k hk⟩
/-- The first k values of a function, as a list. -/
def upto (S : Nat → Nat) (k : Nat) : List Nat := (List.range k).map S
theorem upto_length (S : Nat → Nat) (k : Nat) : (upto S k).length = k := by simp [upto]
theorem upto_next (S : Nat → Nat) (k : Nat) : upto S (k + 1) = upto S k ++ [S k] := by simp [upto, List.range_succ]
theorem own_wf {w : World} {base : Nat} {v : Value} {S : Nat → Nat} {n : Nat} (h : OwnW w base v (upto S n)) (hm : 4 * n ≤ 140737488355328) (hs : ∀ k, k < n → S k < 4294967296) :
    ∃ a cap, v = .slice a n cap ∧ Wf w a n S := by
  by_cases hv : v = .slice none 0 0
  · subst hv
    have hn : n = 0 := by
      rcases h.2 with h2 | ⟨g, cap, cur, e, _⟩
      · have h3 := h2.2
        rw [upto_length] at h3
        exact h3
      · simp at e
    subst hn
    exact ⟨none, 0, rfl, hm, hs, fun k hk => absurd hk (by omega)⟩
  · obtain ⟨g, c, rfl, hg⟩ := ownW_form h hv
    unfold OwnW at h
    rw [upto_length] at h ⊢
    refine ⟨some ⟨g, 0, none⟩, c, rfl, hm, hs, fun k hk => ⟨g, 0, rfl, ?_⟩⟩
    have := World.ownsRow.cellAt h k (by omega)
    rw [Nat.zero_add, this]
    simp [upto, wv, hk]
end Go.Proofs.YtbdhlpbddddpeaaDoor
