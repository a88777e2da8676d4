/-
  The plain mathematics of the check sum, over natural numbers: one bit's move, eight of them, and that the table's way is the bit's way. No Go in it.
  Small words that all walks use: a fact kept from the walk, equal endings, one step behind another.
  More of the plain mathematics: bytes as one number, lowest byte first; the sum as moves of that number; a turned bit; that one burst never leaves the sum as it was.
  What the walks share: facts kept from the walk, the bit operations on 32 bits as numbers, the bytes that a slice shows.
  Worlds that differ in one block alone (and in what was made since).
  Numbers: single bits of an int of 64 bits, bytes as a number.
-/
import Derived.Test.YtegkodgondlcmaaDoorRows
import Derived.WalkKit
import Derived.WalkSpells
import Derived.WalkLawsBesides
import Derived.Laws.BitsAllLaws
import Derived.Laws.Rows
import Derived.Outline
import Derived.Deep.WholeRow
import Derived.Laws.AppendOwnNone
import Derived.Laws.BitsLemmas
namespace FerryCrc

def poly : Nat := 3988292384
def bit1 (r : Nat) : Nat := if r % 2 = 1 then (r / 2) ^^^ poly else r / 2
def bitsN : Nat → Nat → Nat
  | 0, r => r
  | n + 1, r => bitsN n (bit1 r)
def mv (r c : Nat) : Nat := bitsN 8 (r ^^^ c)
def mvs (r : Nat) (l : List Nat) : Nat := l.foldl mv r
def tab (i : Nat) : Nat := bitsN 8 i

theorem bitsN_succ (n r : Nat) : bitsN (n + 1) r = bit1 (bitsN n r) := by
  induction n generalizing r with
  | zero => rfl
  | succ n ih => rw [bitsN, ih]; rfl

theorem xor_lt32 {a b : Nat} (ha : a < 4294967296) (hb : b < 4294967296) : a ^^^ b < 4294967296 :=
  Nat.xor_lt_two_pow (n := 32) ha hb

theorem bit1_lt {r : Nat} (h : r < 4294967296) : bit1 r < 4294967296 := by
  unfold bit1
  split
  · exact xor_lt32 (by omega) (by decide)
  · omega

theorem bitsN_lt {n r : Nat} (h : r < 4294967296) : bitsN n r < 4294967296 := by
  induction n generalizing r with
  | zero => exact h
  | succ n ih => exact ih (bit1_lt h)

theorem mv_lt {r c : Nat} (h : r < 4294967296) (hc : c < 256) : mv r c < 4294967296 :=
  bitsN_lt (xor_lt32 h (by omega))

theorem mvs_lt {r : Nat} {l : List Nat} (h : r < 4294967296) (hl : ∀ c ∈ l, c < 256) : mvs r l < 4294967296 := by
  induction l generalizing r with
  | nil => exact h
  | cons c l ih => exact ih (mv_lt h (hl c (by simp))) (fun x hx => hl x (by simp [hx]))

theorem xor_mod2 (a b : Nat) : (a ^^^ b) % 2 = (a % 2 + b % 2) % 2 := by
  have h : ((a ^^^ b) % 2 = 1) ↔ ¬ ((a % 2 = 1) ↔ (b % 2 = 1)) := Nat.xor_mod_two_eq_one
  omega

theorem bit1_xor (a b : Nat) : bit1 (a ^^^ b) = bit1 a ^^^ bit1 b := by
  unfold bit1
  rw [Nat.xor_div_two, xor_mod2]
  rcases Nat.mod_two_eq_zero_or_one a with ha | ha <;> rcases Nat.mod_two_eq_zero_or_one b with hb | hb <;> simp [ha, hb]
  · rw [Nat.xor_assoc]
  · rw [Nat.xor_assoc, Nat.xor_assoc, Nat.xor_comm poly]
  · rw [Nat.xor_assoc, Nat.xor_comm poly (b / 2 ^^^ poly), Nat.xor_assoc, Nat.xor_self, Nat.xor_zero]

theorem bitsN_xor (n a b : Nat) : bitsN n (a ^^^ b) = bitsN n a ^^^ bitsN n b := by
  induction n generalizing a b with
  | zero => rfl
  | succ n ih => rw [bitsN, bitsN, bitsN, bit1_xor, ih]

theorem bit1_two (m : Nat) : bit1 (2 * m) = m := by
  unfold bit1
  rw [if_neg (by omega)]
  omega

theorem bitsN_pow (n m : Nat) : bitsN n (2 ^ n * m) = m := by
  induction n with
  | zero => simp [bitsN]
  | succ n ih => rw [bitsN, Nat.pow_succ, show 2 ^ n * 2 * m = 2 * (2 ^ n * m) by rw [Nat.mul_comm (2 ^ n) 2, Nat.mul_assoc], bit1_two, ih]

theorem low_high (r : Nat) : r = (r % 256) ^^^ (256 * (r / 256)) := by
  apply Nat.eq_of_testBit_eq
  intro i
  rw [Nat.testBit_xor, show (256 : Nat) = 2 ^ 8 by decide, Nat.testBit_mod_two_pow, Nat.testBit_two_pow_mul, Nat.testBit_div_two_pow]
  by_cases h : i < 8
  · simp [h, show ¬ 8 ≤ i by omega]
  · simp [h, show 8 ≤ i by omega]

theorem tab_way (r c : Nat) : tab ((r % 256) ^^^ c) ^^^ (r / 256) = mv r c := by
  unfold tab mv
  have e : r ^^^ c = ((r % 256) ^^^ c) ^^^ (2 ^ 8 * (r / 256)) := by
    have h := low_high r
    rw [Nat.xor_assoc, Nat.xor_comm c, ← Nat.xor_assoc]
    show r ^^^ c = (r % 256 ^^^ 256 * (r / 256)) ^^^ c
    rw [← h]
  rw [e, bitsN_xor 8 (r % 256 ^^^ c), bitsN_pow]

theorem mvs_snoc (r : Nat) (l : List Nat) (c : Nat) : mvs r (l ++ [c]) = mv (mvs r l) c := by
  simp [mvs]

end FerryCrc
namespace Go.Proofs.YtegkodgondlcmaaDoor
open Go.RowKit FerryCrc

theorem hide {p : Prop} (h : p) : Hid p := h
theorem ret_int {k : IntKind} {a b : Int} (h : a = b) : Ending.returned (.int k a) = .returned (.int k b) := by rw [h]

theorem ret_bool {a b : Bool} (h : a = b) : Ending.returned (.bool a) = .returned (.bool b) := by rw [h]

theorem chain {w w1 w2 : World} (h : Below w.heap.size w w1) (k : Below w1.heap.size w1 w2) : Below w.heap.size w w2 := h.trans (k.mono h.size)

end Go.Proofs.YtegkodgondlcmaaDoor
namespace FerryCrc

def num : List Nat → Nat
  | [] => 0
  | c :: l => c ^^^ (num l <<< 8)

theorem bitsN_add (m n r : Nat) : bitsN (m + n) r = bitsN n (bitsN m r) := by
  induction m generalizing r with
  | zero => simp [bitsN]
  | succ m ih => rw [show m + 1 + n = (m + n) + 1 by omega, bitsN, ih]; rfl

theorem bitsN_shift (n m : Nat) : bitsN n (m <<< n) = m := by
  rw [Nat.shiftLeft_eq, Nat.mul_comm]
  exact bitsN_pow n m

theorem mvs_num (r : Nat) (l : List Nat) : mvs r l = bitsN (8 * l.length) (r ^^^ num l) := by
  induction l generalizing r with
  | nil => simp [mvs, bitsN, num]
  | cons c l ih =>
    have h : mvs r (c :: l) = mvs (mv r c) l := rfl
    rw [h, ih, List.length_cons, show 8 * (l.length + 1) = 8 + 8 * l.length by omega, bitsN_add]
    congr 1
    rw [num, ← Nat.xor_assoc, bitsN_xor, bitsN_shift]
    rfl

theorem bit1_zero {r : Nat} (h : r < 4294967296) (e : bit1 r = 0) : r = 0 := by
  unfold bit1 at e
  split at e
  · have h1 : r / 2 = poly := by
      have := congrArg (fun x => x ^^^ poly) e
      simpa [Nat.xor_assoc] using this
    have h2 : poly = 3988292384 := rfl
    omega
  · omega

theorem bitsN_zero {n r : Nat} (h : r < 4294967296) (e : bitsN n r = 0) : r = 0 := by
  induction n generalizing r with
  | zero => exact e
  | succ n ih => exact bit1_zero h (ih (bit1_lt h) e)

/-- The bytes with bit p turned. -/
def flipB (l : List Nat) (p : Nat) : List Nat := l.set (p / 8) (l[p / 8]?.getD 0 ^^^ 2 ^ (p % 8))

theorem flip_length (l : List Nat) (p : Nat) : (flipB l p).length = l.length := by simp [flipB]

theorem pow_lt8 (p : Nat) : 2 ^ (p % 8) < 2 ^ 8 := Nat.pow_lt_pow_right (by decide) (by omega)

theorem flip_small {l : List Nat} {p : Nat} (h : ∀ c ∈ l, c < 256) : ∀ c ∈ flipB l p, c < 256 := by
  intro c hc
  unfold flipB at hc
  rcases List.mem_or_eq_of_mem_set hc with hc | hc
  · exact h c hc
  · subst hc
    have h0 : l[p / 8]?.getD 0 < 2 ^ 8 := by
      cases e : l[p / 8]? with
      | none => simp
      | some x => exact h x (List.mem_of_getElem? e)
    exact Nat.xor_lt_two_pow h0 (pow_lt8 p)

theorem num_flip (l : List Nat) (p : Nat) (hp : p < 8 * l.length) : num (flipB l p) = num l ^^^ 2 ^ p := by
  induction l generalizing p with
  | nil => simp at hp
  | cons c l ih =>
    by_cases h : p < 8
    · have e1 : p / 8 = 0 := by omega
      have e2 : p % 8 = p := by omega
      simp [flipB, e1, e2, num]
      rw [Nat.xor_assoc, Nat.xor_comm (2 ^ p), ← Nat.xor_assoc]
    · have e1 : p / 8 = (p - 8) / 8 + 1 := by omega
      have e2 : p % 8 = (p - 8) % 8 := by omega
      have e3 : flipB (c :: l) p = c :: flipB l (p - 8) := by simp [flipB, e1, e2]
      have e4 : 2 ^ p = (2 ^ (p - 8)) <<< 8 := by
        rw [Nat.shiftLeft_eq, ← Nat.pow_add]
        congr 1
        omega
      rw [e3, num, ih (p - 8) (by simp at hp; omega), num, Nat.shiftLeft_xor_distrib, e4, Nat.xor_assoc]

/-- The bytes with the first k bits of the mask turned, from bit 'at' on. -/
def turnTo (l : List Nat) (pos mask : Nat) : Nat → List Nat
  | 0 => l
  | k + 1 => if mask.testBit k then flipB (turnTo l pos mask k) (pos + k) else turnTo l pos mask k

theorem turnTo_length (l : List Nat) (pos mask k : Nat) : (turnTo l pos mask k).length = l.length := by
  induction k with
  | zero => rfl
  | succ k ih => rw [turnTo]; split <;> simp [flip_length, ih]

theorem turnTo_small {l : List Nat} (pos mask k : Nat) (h : ∀ c ∈ l, c < 256) : ∀ c ∈ turnTo l pos mask k, c < 256 := by
  induction k with
  | zero => exact h
  | succ k ih => rw [turnTo]; split; exact flip_small ih; exact ih

theorem mod_succ_bit (m k : Nat) : m % 2 ^ (k + 1) = (m % 2 ^ k) ^^^ (if m.testBit k then 2 ^ k else 0) := by
  apply Nat.eq_of_testBit_eq
  intro i
  rw [Nat.testBit_xor, Nat.testBit_mod_two_pow, Nat.testBit_mod_two_pow]
  by_cases h : m.testBit k
  · rw [if_pos h, Nat.testBit_two_pow]
    by_cases e : k = i
    · subst e; simp [h]
    · by_cases h1 : i < k
      · simp [h1, show i < k + 1 by omega, e]
      · simp [h1, show ¬ i < k + 1 by omega, e]
  · rw [if_neg h]
    by_cases e : i = k
    · subst e; simp at h; simp [h]
    · by_cases h1 : i < k
      · simp [h1, show i < k + 1 by omega]
      · simp [h1, show ¬ i < k + 1 by omega]

theorem num_turnTo (l : List Nat) (pos mask k : Nat) (h : ∀ i, i < k → mask.testBit i = true → pos + i < 8 * l.length) :
    num (turnTo l pos mask k) = num l ^^^ ((mask % 2 ^ k) <<< pos) := by
  induction k with
  | zero => simp [turnTo, Nat.mod_one]
  | succ k ih =>
    have ih' := ih (fun i hi => h i (by omega))
    rw [turnTo, mod_succ_bit, Nat.shiftLeft_xor_distrib]
    by_cases hb : mask.testBit k
    · rw [if_pos hb, if_pos hb, num_flip _ _ (by rw [turnTo_length]; exact h k (by omega) hb), ih', Nat.xor_assoc]
      congr 2
      rw [Nat.shiftLeft_eq, ← Nat.pow_add, Nat.add_comm]
    · rw [if_neg hb, if_neg hb, ih']
      simp

def sumOf (l : List Nat) : Nat := mvs 4294967295 l ^^^ 4294967295
def moreOf (r : Nat) (l : List Nat) : Nat := mvs (r ^^^ 4294967295) l ^^^ 4294967295

theorem xor_cancel {a b c : Nat} (h : a ^^^ c = b ^^^ c) : a = b := by
  have := congrArg (fun x => x ^^^ c) h
  simpa [Nat.xor_assoc] using this

/-- Two lists that differ by one burst have unlike sums. -/
theorem apart {l l' : List Nat} {pos mask : Nat} (hl : l'.length = l.length) (hn : num l' = num l ^^^ (mask <<< pos)) (h0 : mask ≠ 0) (hm : mask < 4294967296) (hp : pos ≤ 8 * l.length) :
    sumOf l' ≠ sumOf l := by
  intro e
  have e1 := xor_cancel e
  rw [mvs_num, mvs_num, hl, hn, ← Nat.xor_assoc, bitsN_xor] at e1
  have e2 : bitsN (8 * l.length) (mask <<< pos) = 0 := by
    have := congrArg (fun x => bitsN (8 * l.length) (4294967295 ^^^ num l) ^^^ x) e1
    simp only [← Nat.xor_assoc, Nat.xor_self, Nat.zero_xor] at this
    exact this
  rw [show 8 * l.length = pos + (8 * l.length - pos) by omega, bitsN_add, bitsN_shift] at e2
  exact h0 (bitsN_zero hm e2)

end FerryCrc
namespace Go.Proofs.YtegkodgondlcmaaDoor
open Go.RowKit FerryCrc

theorem and1 (r : Nat) (h : r < 4294967296) : bits .and .u32 (r : Int) 1 = ((r % 2 : Nat) : Int) := by
  have := u32_and_nat r 1 h (by decide)
  rw [Nat.and_one_is_mod] at this
  exact this
theorem and_bit {m k : Nat} {t : Bool} (h : m < 4294967296) (g : m.testBit k = t) : bits .and .u32 ((m : Int) / 2 ^ k) 1 = ((t.toNat : Nat) : Int) := by
  have e : ((m : Int) / 2 ^ k) = ((m / 2 ^ k : Nat) : Int) := by simp
  have hlt : m / 2 ^ k < 4294967296 := Nat.lt_of_le_of_lt (Nat.div_le_self _ _) h
  rw [e, and1 _ hlt, ← g, Nat.testBit_eq_decide_div_mod_eq]
  rcases Nat.mod_two_eq_zero_or_one (m / 2 ^ k) with h | h <;> simp [h]
theorem way_one {r : Nat} (h : r < 4294967296) (g : (bits .and .u32 (r : Int) 1 == 1) = true) : r % 2 = 1 := by
  rw [and1 r h] at g
  have := beq_iff_eq.1 g
  omega
theorem way_zero {r : Nat} (h : r < 4294967296) (g : (bits .and .u32 (r : Int) 1 == 1) = false) : ¬ r % 2 = 1 := by
  rw [and1 r h] at g
  have := beq_eq_false_iff_ne.1 g
  omega
theorem half (r : Nat) : ((r : Int) / 2) = ((r / 2 : Nat) : Int) := by omega
theorem val_one {r : Nat} (h : r < 4294967296) (g : r % 2 = 1) : bits .xor .u32 ((r : Int) / 2) 3988292384 = ((bit1 r : Nat) : Int) := by
  rw [half]
  have := u32_xor_nat (r / 2) poly (by omega) (by decide)
  unfold bit1
  rw [if_pos g]
  exact this
theorem val_zero {r : Nat} (g : ¬ r % 2 = 1) : ((r : Int) / 2) = ((bit1 r : Nat) : Int) := by
  unfold bit1
  rw [if_neg g, half]

theorem conv_xor {r c : Nat} (h : r < 4294967296) (hc : c < 256) : bits .xor .u32 (r : Int) (c : Int) = ((r ^^^ c : Nat) : Int) :=
  u32_xor_nat r c h (by omega)

theorem below_setRow {B g : Nat} {a w : World} (hg : B ≤ g) (cs : Array Value) (h : Below B a w) : Below B a (w.setRow g cs) :=
  h.trans ⟨rfl, rfl, rfl, by simp, fun k hk => setRow_other w g k cs (by omega)⟩
/-- The bytes that a slice shows in a world. -/
structure Bts (w : World) (a : Option Addr) (len cap : Nat) (l : List Nat) : Prop where
  size : l.length = len
  most : len ≤ 140737488355328
  fit : len ≤ cap
  small : ∀ c ∈ l, c < 256
  null : a = none → len = 0 ∧ cap = 0
  cell : ∀ k, k < len → ∃ b off, a = some ⟨b, off, none⟩ ∧ ∃ c, l[k]? = some c ∧ w.cell? ⟨b, off + k, none⟩ = some (.int .u8 (c : Int))

theorem Bts.below {w w' : World} {a : Option Addr} {len cap : Nat} {l : List Nat} (h : Bts w a len cap l) (hb : Below w.heap.size w w') : Bts w' a len cap l :=
  ⟨h.size, h.most, h.fit, h.small, h.null, fun k hk => by
    obtain ⟨b, off, ha, c, hl, hc⟩ := h.cell k hk
    refine ⟨b, off, ha, c, hl, ?_⟩
    rw [hb.cell (p := ⟨b, off + k, none⟩) (block_lt_of_cell hc)]
    exact hc⟩

theorem Bts.take {w : World} {a : Option Addr} {len cap : Nat} {l : List Nat} (h : Bts w a len cap l) (n : Nat) (hn : n ≤ len) : Bts w a n cap (l.take n) := by
  refine ⟨by rw [List.length_take, h.size]; omega, by have := h.most; omega, by have := h.fit; omega, fun c hc => h.small c (List.mem_of_mem_take hc), fun e => by have := h.null e; omega, fun k hk => ?_⟩
  obtain ⟨b, off, ha, c, hl, hc⟩ := h.cell k (by omega)
  exact ⟨b, off, ha, c, by rw [List.getElem?_take, if_pos hk, hl], hc⟩
theorem Bts.drop {w : World} {b off len cap : Nat} {l : List Nat} (h : Bts w (some ⟨b, off, none⟩) len cap l) (n : Nat) (hn : n ≤ len) : Bts w (some ⟨b, off + n, none⟩) (len - n) (cap - n) (l.drop n) := by
  refine ⟨by rw [List.length_drop, h.size], by have := h.most; omega, by have := h.fit; omega, fun c hc => h.small c (List.mem_of_mem_drop hc), fun e => by simp at e, fun k hk => ?_⟩
  obtain ⟨b', off', ha, c, hl, hc⟩ := h.cell (n + k) (by omega)
  simp only [Option.some.injEq, Addr.mk.injEq, and_true] at ha
  obtain ⟨rfl, rfl⟩ := ha
  exact ⟨b, off + n, rfl, c, by rw [List.getElem?_drop, hl], by rw [Nat.add_assoc]; exact hc⟩

/-- A byte as a cell holds it. -/
def bv (c : Nat) : Value := .int .u8 (c : Int)
/-- A slice of the call's own memory, from block 'base' on, that holds these bytes. -/
def Own (w : World) (base : Nat) (v : Value) (l : List Nat) : Prop := w.ownsRow base 5 1 v l.length (l.map bv)

theorem add_none (b off i : Nat) : (⟨b, off, none⟩ : Addr).add i = ⟨b, off + i, none⟩ := by
  unfold Addr.add
  split <;> simp_all

theorem Own.bts {w : World} {base g n cap : Nat} {l : List Nat} (h : Own w base (.slice (some ⟨g, 0, none⟩) n cap) l) (hn : l.length = n) (hm : n ≤ 140737488355328) (hs : ∀ c ∈ l, c < 256) :
    Bts w (some ⟨g, 0, none⟩) n cap l := by
  subst hn
  have hfit : l.length ≤ cap := by
    rcases h.2 with ⟨e, _⟩ | ⟨g', cap', cur, e, _, _, hnc, _⟩
    · simp at e
    · simp only [Value.slice.injEq, true_and] at e
      omega
  refine ⟨rfl, hm, hfit, hs, fun e => by simp at e, fun k hk => ⟨g, 0, rfl, l[k], by simp [hk], ?_⟩⟩
  have := World.ownsRow.cellAt h k (by omega)
  rw [Nat.zero_add, this]
  simp [hk, bv]

theorem own_empty (w : World) : Own (w.alloc (.cells #[] 5)) w.heap.size (.slice (some ⟨w.heap.size, 0, none⟩) 0 0) [] :=
  World.ownsRow_lit w #[] 0 (Nat.le_refl _) (by decide) rfl

theorem own_form {w : World} {base : Nat} {v : Value} {l : List Nat} (h : Own w base v l) (hv : v ≠ .slice none 0 0) : ∃ g c, v = .slice (some ⟨g, 0, none⟩) l.length c ∧ base ≤ g := by
  rcases h.2 with ⟨e, _⟩ | ⟨g, cap, cur, e, hg, _⟩
  · exact absurd e hv
  · exact ⟨g, cap, e, hg⟩

theorem bv_one (l : List Nat) : ∀ u ∈ l.map bv, u.oneCell' = true := by
  intro u hu
  obtain ⟨c, _, rfl⟩ := List.mem_map.1 hu
  rfl

theorem grown_refl (w : World) (r : Option Nat) : w.grownBy w r := ⟨rfl, rfl, rfl, Nat.le_refl _, fun _ _ _ => rfl⟩

theorem info8 : (Tryd.prog.info? 5).map (fun i => (i.zero, i.size, i.bytes)) = some (some (.int .u8 0), 1, 1) := by kernel_rfl

/-- append of whatever byte slice to a slice of the call's own. -/
theorem append_bts {w : World} {ops : Array Oper} {rest : List Oper} {o : Oper} {act : Act} {Q : Exit → Act → World → Prop} (hgd : o.guard = none) (s x : Operand)
    (ho : o.op = .call { callee := .builtin .append, args := #[s, x], argTypes := #[69, 69] })
    (base : Nat) (v : Value) (xs : List Nat) (hs : act.eval s = v) (hown : Own w base v xs)
    (a : Option Addr) (m c : Nat) (l : List Nat) (hx : act.eval x = .slice a m c) (hb : Bts w a m c l)
    (h63 : xs.length + m ≤ 140737488355328) (hbase : base ≤ w.heap.size)
    (h : ∀ v' w', Own w' base v' (xs ++ l) → w.grownBy w' v.ownBlock → (v' = .slice none 0 0 ↔ v = .slice none 0 0 ∧ m = 0) → wpList Tryd.prog ops Q rest (act.put o.dst v') w') : wpList Tryd.prog ops Q (o :: rest) act w := by
  obtain ⟨i0, hi, hz0, hz1, hz2⟩ := info_parts info8
  match a, hx, hb with
  | none, hx, hb =>
    obtain ⟨rfl, rfl⟩ := hb.null rfl
    have hl : l = [] := List.length_eq_zero_iff.1 hb.size
    subst hl
    refine wpList_append_own_none hgd s x 69 ho base 5 i0 1 Tryd.underlying69 hi v xs.length (xs.map bv) hs hown hx ?_
    exact h v w (by simpa using hown) (grown_refl _ _) (by simp)
  | some ad, hx, hb =>
    have hsz := hb.size
    subst hsz
    refine wpList_append_own w hgd s x 69 ho base 5 i0 (.int .u8 0) 1 1 Tryd.underlying69 hi hz0 hz1 hz2 rfl (by decide) v xs.length (xs.map bv) hs hown ad l.length c (l.map bv) hx (by simp) ?_ (bv_one l) (by unfold maxLen; omega) (by omega) hbase ?_
    · intro j u hu
      have hj : j < l.length := by
        have := (List.getElem?_eq_some_iff.1 hu).1
        simpa using this
      obtain ⟨b, off, ha, c', hl', hc'⟩ := hb.cell j hj
      simp only [Option.some.injEq] at ha
      subst ha
      rw [add_none, hc']
      simp [hl', bv] at hu
      rw [← hu]
    · intro v' w' h1 h2 h3
      refine h v' w' ?_ h2 h3
      unfold Own
      rw [List.length_append, List.map_append]
      exact h1

theorem mvs_next {r k c : Nat} {l : List Nat} (hl : l[k]? = some c) : mvs r (l.take (k + 1)) = mv (mvs r (l.take k)) c := by
  rw [List.take_add_one, hl]
  exact mvs_snoc _ _ _

theorem mvs_upto_lt {r k : Nat} {l : List Nat} (h : r < 4294967296) (hl : ∀ c ∈ l, c < 256) : mvs r (l.take k) < 4294967296 :=
  mvs_lt h (fun c hc => hl c (List.mem_of_mem_take hc))

theorem not_xor {r : Nat} (h : r < 4294967296) : bits .xor .u32 IntKind.u32.max (r : Int) = ((r ^^^ 4294967295 : Nat) : Int) := by
  have := u32_xor_nat 4294967295 r (by decide) h
  rw [Nat.xor_comm] at this
  exact this
theorem xor_not {r : Nat} (h : r < 4294967296) : bits .xor .u32 (r : Int) 4294967295 = ((r ^^^ 4294967295 : Nat) : Int) :=
  u32_xor_nat r 4294967295 h (by decide)
theorem not_lt {r : Nat} (h : r < 4294967296) : r ^^^ 4294967295 < 4294967296 := xor_lt32 h (by decide)


end Go.Proofs.YtegkodgondlcmaaDoor
namespace Go.Proofs.YtegkodgondlcmaaDoor
open Go.RowKit FerryCrc
set_option linter.unusedVariables false

/-- All blocks but o are as they were. -/
structure Oth (o : Option Nat) (w w' : World) : Prop where
  os : w'.os = w.os
  tape : w'.tape = w.tape
  output : w'.output = w.output
  size : w.heap.size ≤ w'.heap.size
  block : ∀ k, k < w.heap.size → o ≠ some k → w'.heap[k]? = w.heap[k]?
theorem Oth.refl (o : Option Nat) (w : World) : Oth o w w := ⟨rfl, rfl, rfl, Nat.le_refl _, fun _ _ _ => rfl⟩
theorem Oth.setCell {g j : Nat} {a w : World} (h : Oth (some g) a w) (u : Value) : Oth (some g) a (w.setCell ⟨g, j, none⟩ u) :=
  ⟨h.os, h.tape, h.output, by simpa [World.setCell] using h.size, fun k hk hn => (heap_setCell_other w ⟨g, j, none⟩ k u (fun e => hn (by rw [e]))).trans (h.block k hk hn)⟩
theorem Oth.trans {o : Option Nat} {a b c : World} (h : Oth o a b) (k : Oth o b c) : Oth o a c :=
  ⟨k.os.trans h.os, k.tape.trans h.tape, k.output.trans h.output, Nat.le_trans h.size k.size, fun j hj hn => (k.block j (Nat.lt_of_lt_of_le hj h.size) hn).trans (h.block j hj hn)⟩
theorem Oth.ofBelow {o : Option Nat} {w w' : World} (h : Below w.heap.size w w') : Oth o w w' := ⟨h.os, h.tape, h.output, h.size, fun k hk _ => h.block k hk⟩
theorem Oth.below {o : Option Nat} {w w' : World} {B : Nat} (h : Oth o w w') (hB : B ≤ w.heap.size) (hS : ∀ k, o = some k → B ≤ k) : Below B w w' :=
  ⟨h.os, h.tape, h.output, h.size, fun k hk => h.block k (by omega) (fun e => by have := hS k e; omega)⟩
theorem Oth.cell {o : Option Nat} {w w' : World} {p : Addr} (h : Oth o w w') (hp : p.block < w.heap.size) (hn : o ≠ some p.block) : w'.cell? p = w.cell? p := by
  have := h.block p.block hp hn
  simp only [World.cell?, this]
theorem Oth.frozen {o : Option Nat} {w w' : World} {p : Addr} (h : Oth o w w') (hp : p.block < w.heap.size) (hn : o ≠ some p.block) : w'.frozen? p = w.frozen? p := by
  have := h.block p.block hp hn
  simp only [World.frozen?, this]
/-- All blocks but one, and the one in which a value's row lies, are as they were. -/
structure Mfr (mb : Nat) (v : Value) (w w' : World) : Prop where
  os : w'.os = w.os
  tape : w'.tape = w.tape
  output : w'.output = w.output
  size : w.heap.size ≤ w'.heap.size
  block : ∀ k, k < w.heap.size → k ≠ mb → v.ownBlock ≠ some k → w'.heap[k]? = w.heap[k]?
theorem Mfr.refl (mb : Nat) (v : Value) (w : World) : Mfr mb v w w := ⟨rfl, rfl, rfl, Nat.le_refl _, fun _ _ _ _ => rfl⟩
theorem Mfr.trans {mb : Nat} {v : Value} {a b c : World} (h : Mfr mb v a b) (k : Mfr mb v b c) : Mfr mb v a c :=
  ⟨k.os.trans h.os, k.tape.trans h.tape, k.output.trans h.output, Nat.le_trans h.size k.size, fun j hj h1 h2 => (k.block j (Nat.lt_of_lt_of_le hj h.size) h1 h2).trans (h.block j hj h1 h2)⟩
theorem Mfr.setCell {mb j : Nat} {v : Value} {a w : World} (h : Mfr mb v a w) (u : Value) : Mfr mb v a (w.setCell ⟨mb, j, none⟩ u) :=
  ⟨h.os, h.tape, h.output, by simpa [World.setCell] using h.size, fun k hk h1 h2 => (heap_setCell_other w ⟨mb, j, none⟩ k u h1).trans (h.block k hk h1 h2)⟩
theorem Mfr.ofBelow {mb : Nat} {v : Value} {w w' : World} (h : Below w.heap.size w w') : Mfr mb v w w' := ⟨h.os, h.tape, h.output, h.size, fun k hk _ _ => h.block k hk⟩
theorem Mfr.ofMb {mb : Nat} {v : Value} {w w' : World} (h : Oth (some mb) w w') : Mfr mb v w w' := ⟨h.os, h.tape, h.output, h.size, fun k hk h1 _ => h.block k hk (fun e => h1 (by injection e with e; exact e.symm))⟩
theorem Mfr.ofOwn {mb : Nat} {v : Value} {w w' : World} (h : Oth v.ownBlock w w') : Mfr mb v w w' := ⟨h.os, h.tape, h.output, h.size, fun k hk _ h2 => h.block k hk h2⟩
theorem Mfr.below {mb B : Nat} {v : Value} {w w' : World} (h : Mfr mb v w w') (hB : B ≤ w.heap.size) (hm : B ≤ mb) (hv : ∀ k, v.ownBlock = some k → B ≤ k) : Below B w w' :=
  ⟨h.os, h.tape, h.output, h.size, fun k hk => h.block k (by omega) (by omega) (fun e => by have := hv k e; omega)⟩
theorem Mfr.cell {mb : Nat} {v : Value} {w w' : World} {p : Addr} (h : Mfr mb v w w') (hp : p.block < w.heap.size) (h1 : p.block ≠ mb) (h2 : v.ownBlock ≠ some p.block) : w'.cell? p = w.cell? p := by
  have := h.block p.block hp h1 h2
  simp only [World.cell?, this]
theorem Mfr.frozen {mb : Nat} {v : Value} {w w' : World} {p : Addr} (h : Mfr mb v w w') (hp : p.block < w.heap.size) (h1 : p.block ≠ mb) (h2 : v.ownBlock ≠ some p.block) : w'.frozen? p = w.frozen? p := by
  have := h.block p.block hp h1 h2
  simp only [World.frozen?, this]
theorem Mfr.drew {mb : Nat} {v : Value} {a w : World} (h : Mfr mb v a w) : Mfr mb v a w.drew := ⟨h.os, h.tape, h.output, h.size, h.block⟩
end Go.Proofs.YtegkodgondlcmaaDoor
namespace Go.Proofs.YtegkodgondlcmaaDoor
open Go.RowKit FerryCrc

/-- Is bit k of the number 1? -/
def rbit (r : Int) (k : Nat) : Bool := decide (r / 2 ^ k % 2 = 1)

theorem and_key (r : Int) (k : Nat) (hk : k < 63) : (BitVec.ofInt 64 r &&& BitVec.ofInt 64 ((2 ^ k : Nat) : Int)).toNat = (r % ((2 ^ 64 : Nat) : Int)).toNat / 2 ^ k % 2 * 2 ^ k := by
  have h2 : (BitVec.ofInt 64 ((2 ^ k : Nat) : Int)).toNat = 2 ^ k := by
    rw [BitVec.ofInt_natCast, BitVec.toNat_ofNat]
    exact Nat.mod_eq_of_lt (Nat.pow_lt_pow_right (by decide) (by omega))
  rw [BitVec.toNat_and, BitVec.toNat_ofInt, h2, nat_bit]
theorem i64_and1 (r : Int) : bits .and .i64 r 1 = r % 2 := by
  have key := and_key r 0 (by decide)
  show IntKind.i64.wrap ((BitVec.ofInt 64 r &&& BitVec.ofInt 64 1).toNat : Nat) = _
  rw [show ((2 ^ 0 : Nat) : Int) = 1 from rfl] at key
  rw [key, IntKind.wrap_i64]
  omega
theorem i64_and2 (r : Int) : bits .and .i64 r 2 = r / 2 % 2 * 2 := by
  have key := and_key r 1 (by decide)
  show IntKind.i64.wrap ((BitVec.ofInt 64 r &&& BitVec.ofInt 64 2).toNat : Nat) = _
  rw [show ((2 ^ 1 : Nat) : Int) = 2 from rfl] at key
  rw [key, IntKind.wrap_i64]
  omega
theorem i64_and4 (r : Int) : bits .and .i64 r 4 = r / 4 % 2 * 4 := by
  have key := and_key r 2 (by decide)
  show IntKind.i64.wrap ((BitVec.ofInt 64 r &&& BitVec.ofInt 64 4).toNat : Nat) = _
  rw [show ((2 ^ 2 : Nat) : Int) = 4 from rfl] at key
  rw [key, IntKind.wrap_i64]
  omega
theorem nat_or1 (x : Nat) : x ||| 1 = x / 2 * 2 + 1 := by
  have h : x / 2 * 2 ||| 1 = x / 2 * 2 + 1 := nat_join 1 (x / 2 * 2) 1 (by omega) (by decide)
  rcases Nat.mod_two_eq_zero_or_one x with e | e
  · rw [← h, show x / 2 * 2 = x by omega]
  · have h3 : x = x / 2 * 2 ||| 1 := by omega
    conv => lhs; rw [h3]
    rw [Nat.or_assoc, show (1 ||| 1 : Nat) = 1 from rfl, h]
theorem i64_or1 (r : Int) (h1 : -9223372036854775808 ≤ r) (h2 : r ≤ 9223372036854775807) : bits .or .i64 r 1 = r / 2 * 2 + 1 := by
  have key : (BitVec.ofInt 64 r ||| BitVec.ofInt 64 1).toNat = (r % ((2 ^ 64 : Nat) : Int)).toNat / 2 * 2 + 1 := by
    rw [BitVec.toNat_or, BitVec.toNat_ofInt, show (BitVec.ofInt 64 1).toNat = 1 by decide, nat_or1]
  show IntKind.i64.wrap ((BitVec.ofInt 64 r ||| BitVec.ofInt 64 1).toNat : Nat) = _
  rw [key, IntKind.wrap_i64]
  omega

/-- The number that bytes write, the first the highest. -/
def num (l : List Nat) : Nat := l.foldl (fun v c => v * 256 + c) 0
theorem num_snoc (l : List Nat) (c : Nat) : num (l ++ [c]) = num l * 256 + c := by simp [num]
theorem num_from : ∀ (l : List Nat) (v : Nat), (∀ c ∈ l, c < 256) → l.foldl (fun v c => v * 256 + c) v < (v + 1) * 256 ^ l.length := by
  intro l
  induction l with
  | nil => intro v _; simp
  | cons c l ih =>
    intro v h
    have h1 := ih (v * 256 + c) (fun x hx => h x (by simp [hx]))
    have h2 := h c (by simp)
    rw [List.foldl_cons, List.length_cons, Nat.pow_succ]
    refine Nat.lt_of_lt_of_le h1 ?_
    rw [Nat.mul_comm (256 ^ l.length) 256, ← Nat.mul_assoc]
    exact Nat.mul_le_mul_right _ (by omega)
theorem num_lt (l : List Nat) (h : ∀ c ∈ l, c < 256) : num l < 256 ^ l.length := by
  have := num_from l 0 h
  simpa [num] using this
end Go.Proofs.YtegkodgondlcmaaDoor
