/-
  What the walks share: facts kept from the walk, the bit operations on 32 bits as numbers, the bytes that a slice shows.
-/
import Derived.Test.YthcmeboepedelaaDoorTiny
import Derived.Test.YthcmeboepedelaaDoorBits
import Derived.WalkKit
import Derived.WalkSpells
import Derived.WalkLawsBesides
import Derived.Laws.BitsAllLaws
import Derived.Laws.Rows
import Derived.Deep.WholeRow
import Derived.Laws.AppendOwnNone
import Derived.Outline
namespace Go.Proofs.YthcmeboepedelaaDoor
open Go.RowKit FerryCrc

theorem and1 (r : Nat) (h : r < 4294967296) : bits .and .u32 (r : Int) 1 = ((r % 2 : Nat) : Int) := by
  have := u32_and_nat r 1 h (by decide)
  rw [Nat.and_one_is_mod] at this
  exact this
theorem and_bit {m k : Nat} {t : Bool} (h : m < 4294967296) (g : m.testBit k = t) : bits .and .u32 ((m : Int) / 2 ^ k) 1 = ((t.toNat : Nat) : Int) := by
  have e : ((m : Int) / 2 ^ k) = ((m / 2 ^ k : Nat) : Int) := by simp
  have hlt : m / 2 ^ k < 4294967296 := Nat.lt_of_le_of_lt (Nat.div_le_self _ _) h
  rw [e, and1 _ hlt, ← g, Nat.testBit_eq_decide_div_mod_eq]
  rcases Nat.mod_two_eq_zero_or_one (m / 2 ^ k) with h | h <;> simp [h]
theorem way_one {r : Nat} (h : r < 4294967296) (g : (bits .and .u32 (r : Int) 1 == 1) = true) : r % 2 = 1 := by
  rw [and1 r h] at g
  have := beq_iff_eq.1 g
  omega
theorem way_zero {r : Nat} (h : r < 4294967296) (g : (bits .and .u32 (r : Int) 1 == 1) = false) : ¬ r % 2 = 1 := by
  rw [and1 r h] at g
  have := beq_eq_false_iff_ne.1 g
  omega
theorem half (r : Nat) : ((r : Int) / 2) = ((r / 2 : Nat) : Int) := by omega
theorem val_one {r : Nat} (h : r < 4294967296) (g : r % 2 = 1) : bits .xor .u32 ((r : Int) / 2) 3988292384 = ((bit1 r : Nat) : Int) := by
  rw [half]
  have := u32_xor_nat (r / 2) poly (by omega) (by decide)
  unfold bit1
  rw [if_pos g]
  exact this
theorem val_zero {r : Nat} (g : ¬ r % 2 = 1) : ((r : Int) / 2) = ((bit1 r : Nat) : Int) := by
  unfold bit1
  rw [if_neg g, half]

theorem conv_xor {r c : Nat} (h : r < 4294967296) (hc : c < 256) : bits .xor .u32 (r : Int) (c : Int) = ((r ^^^ c : Nat) : Int) :=
  u32_xor_nat r c h (by omega)

theorem below_setRow {B g : Nat} {a w : World} (hg : B ≤ g) (cs : Array Value) (h : Below B a w) : Below B a (w.setRow g cs) :=
  h.trans ⟨rfl, rfl, rfl, by simp, fun k hk => setRow_other w g k cs (by omega)⟩
/-- The bytes that a slice shows in a world. -/
structure Bts (w : World) (a : Option Addr) (len cap : Nat) (l : List Nat) : Prop where
  size : l.length = len
  most : len ≤ 140737488355328
  fit : len ≤ cap
  small : ∀ c ∈ l, c < 256
  null : a = none → len = 0 ∧ cap = 0
  cell : ∀ k, k < len → ∃ b off, a = some ⟨b, off, none⟩ ∧ ∃ c, l[k]? = some c ∧ w.cell? ⟨b, off + k, none⟩ = some (.int .u8 (c : Int))

theorem Bts.below {w w' : World} {a : Option Addr} {len cap : Nat} {l : List Nat} (h : Bts w a len cap l) (hb : Below w.heap.size w w') : Bts w' a len cap l :=
  ⟨h.size, h.most, h.fit, h.small, h.null, fun k hk => by
    obtain ⟨b, off, ha, c, hl, hc⟩ := h.cell k hk
    refine ⟨b, off, ha, c, hl, ?_⟩
    rw [hb.cell (p := ⟨b, off + k, none⟩) (block_lt_of_cell hc)]
    exact hc⟩

theorem Bts.take {w : World} {a : Option Addr} {len cap : Nat} {l : List Nat} (h : Bts w a len cap l) (n : Nat) (hn : n ≤ len) : Bts w a n cap (l.take n) := by
  refine ⟨by rw [List.length_take, h.size]; omega, by have := h.most; omega, by have := h.fit; omega, fun c hc => h.small c (List.mem_of_mem_take hc), fun e => by have := h.null e; omega, fun k hk => ?_⟩
  obtain ⟨b, off, ha, c, hl, hc⟩ := h.cell k (by omega)
  exact ⟨b, off, ha, c, by rw [List.getElem?_take, if_pos hk, hl], hc⟩
theorem Bts.drop {w : World} {b off len cap : Nat} {l : List Nat} (h : Bts w (some ⟨b, off, none⟩) len cap l) (n : Nat) (hn : n ≤ len) : Bts w (some ⟨b, off + n, none⟩) (len - n) (cap - n) (l.drop n) := by
  refine ⟨by rw [List.length_drop, h.size], by have := h.most; omega, by have := h.fit; omega, fun c hc => h.small c (List.mem_of_mem_drop hc), fun e => by simp at e, fun k hk => ?_⟩
  obtain ⟨b', off', ha, c, hl, hc⟩ := h.cell (n + k) (by omega)
  simp only [Option.some.injEq, Addr.mk.injEq, and_true] at ha
  obtain ⟨rfl, rfl⟩ := ha
  exact ⟨b, off + n, rfl, c, by rw [List.getElem?_drop, hl], by rw [Nat.add_assoc]; exact hc⟩

/-- A byte as a cell holds it. -/
def bv (c : Nat) : Value := .int .u8 (c : Int)
/-- A slice of the call's own memory, from block 'base' on, that holds these bytes. -/
def Own (w : World) (base : Nat) (v : Value) (l : List Nat) : Prop := w.ownsRow base 5 1 v l.length (l.map bv)

theorem add_none (b off i : Nat) : (⟨b, off, none⟩ : Addr).add i = ⟨b, off + i, none⟩ := by
  unfold Addr.add
  split <;> simp_all

theorem Own.bts {w : World} {base g n cap : Nat} {l : List Nat} (h : Own w base (.slice (some ⟨g, 0, none⟩) n cap) l) (hn : l.length = n) (hm : n ≤ 140737488355328) (hs : ∀ c ∈ l, c < 256) :
    Bts w (some ⟨g, 0, none⟩) n cap l := by
  subst hn
  have hfit : l.length ≤ cap := by
    rcases h.2 with ⟨e, _⟩ | ⟨g', cap', cur, e, _, _, hnc, _⟩
    · simp at e
    · simp only [Value.slice.injEq, true_and] at e
      omega
  refine ⟨rfl, hm, hfit, hs, fun e => by simp at e, fun k hk => ⟨g, 0, rfl, l[k], by simp [hk], ?_⟩⟩
  have := World.ownsRow.cellAt h k (by omega)
  rw [Nat.zero_add, this]
  simp [hk, bv]

theorem own_empty (w : World) : Own (w.alloc (.cells #[] 5)) w.heap.size (.slice (some ⟨w.heap.size, 0, none⟩) 0 0) [] :=
  World.ownsRow_lit w #[] 0 (Nat.le_refl _) (by decide) rfl

theorem own_form {w : World} {base : Nat} {v : Value} {l : List Nat} (h : Own w base v l) (hv : v ≠ .slice none 0 0) : ∃ g c, v = .slice (some ⟨g, 0, none⟩) l.length c ∧ base ≤ g := by
  rcases h.2 with ⟨e, _⟩ | ⟨g, cap, cur, e, hg, _⟩
  · exact absurd e hv
  · exact ⟨g, cap, e, hg⟩

theorem bv_one (l : List Nat) : ∀ u ∈ l.map bv, u.oneCell' = true := by
  intro u hu
  obtain ⟨c, _, rfl⟩ := List.mem_map.1 hu
  rfl

theorem grown_refl (w : World) (r : Option Nat) : w.grownBy w r := ⟨rfl, rfl, rfl, Nat.le_refl _, fun _ _ _ => rfl⟩

theorem info8 : (Tryd.prog.info? 5).map (fun i => (i.zero, i.size, i.bytes)) = some (some (.int .u8 0), 1, 1) := by kernel_rfl

/-- append of whatever byte slice to a slice of the call's own. -/
theorem append_bts {w : World} {ops : Array Oper} {rest : List Oper} {o : Oper} {act : Act} {Q : Exit → Act → World → Prop} (hgd : o.guard = none) (s x : Operand)
    (ho : o.op = .call { callee := .builtin .append, args := #[s, x], argTypes := #[70, 70] })
    (base : Nat) (v : Value) (xs : List Nat) (hs : act.eval s = v) (hown : Own w base v xs)
    (a : Option Addr) (m c : Nat) (l : List Nat) (hx : act.eval x = .slice a m c) (hb : Bts w a m c l)
    (h63 : xs.length + m ≤ 140737488355328) (hbase : base ≤ w.heap.size)
    (h : ∀ v' w', Own w' base v' (xs ++ l) → w.grownBy w' v.ownBlock → (v' = .slice none 0 0 ↔ v = .slice none 0 0 ∧ m = 0) → wpList Tryd.prog ops Q rest (act.put o.dst v') w') : wpList Tryd.prog ops Q (o :: rest) act w := by
  obtain ⟨i0, hi, hz0, hz1, hz2⟩ := info_parts info8
  match a, hx, hb with
  | none, hx, hb =>
    obtain ⟨rfl, rfl⟩ := hb.null rfl
    have hl : l = [] := List.length_eq_zero_iff.1 hb.size
    subst hl
    refine wpList_append_own_none hgd s x 70 ho base 5 i0 1 Tryd.underlying70 hi v xs.length (xs.map bv) hs hown hx ?_
    exact h v w (by simpa using hown) (grown_refl _ _) (by simp)
  | some ad, hx, hb =>
    have hsz := hb.size
    subst hsz
    refine wpList_append_own w hgd s x 70 ho base 5 i0 (.int .u8 0) 1 1 Tryd.underlying70 hi hz0 hz1 hz2 rfl (by decide) v xs.length (xs.map bv) hs hown ad l.length c (l.map bv) hx (by simp) ?_ (bv_one l) (by unfold maxLen; omega) (by omega) hbase ?_
    · intro j u hu
      have hj : j < l.length := by
        have := (List.getElem?_eq_some_iff.1 hu).1
        simpa using this
      obtain ⟨b, off, ha, c', hl', hc'⟩ := hb.cell j hj
      simp only [Option.some.injEq] at ha
      subst ha
      rw [add_none, hc']
      simp [hl', bv] at hu
      rw [← hu]
    · intro v' w' h1 h2 h3
      refine h v' w' ?_ h2 h3
      unfold Own
      rw [List.length_append, List.map_append]
      exact h1

theorem mvs_next {r k c : Nat} {l : List Nat} (hl : l[k]? = some c) : mvs r (l.take (k + 1)) = mv (mvs r (l.take k)) c := by
  rw [List.take_add_one, hl]
  exact mvs_snoc _ _ _

theorem mvs_upto_lt {r k : Nat} {l : List Nat} (h : r < 4294967296) (hl : ∀ c ∈ l, c < 256) : mvs r (l.take k) < 4294967296 :=
  mvs_lt h (fun c hc => hl c (List.mem_of_mem_take hc))

theorem not_xor {r : Nat} (h : r < 4294967296) : bits .xor .u32 IntKind.u32.max (r : Int) = ((r ^^^ 4294967295 : Nat) : Int) := by
  have := u32_xor_nat 4294967295 r (by decide) h
  rw [Nat.xor_comm] at this
  exact this
theorem xor_not {r : Nat} (h : r < 4294967296) : bits .xor .u32 (r : Int) 4294967295 = ((r ^^^ 4294967295 : Nat) : Int) :=
  u32_xor_nat r 4294967295 h (by decide)
theorem not_lt {r : Nat} (h : r < 4294967296) : r ^^^ 4294967295 < 4294967296 := xor_lt32 h (by decide)


end Go.Proofs.YthcmeboepedelaaDoor
