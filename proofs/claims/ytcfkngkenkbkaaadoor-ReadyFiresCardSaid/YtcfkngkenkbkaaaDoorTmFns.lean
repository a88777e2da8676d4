/-
  timer's Sort and Set; slices.Clone; the law's copied.
-/
import Derived.Test.YtcfkngkenkbkaaaDoorTmForm
import Derived.Test.YtcfkngkenkbkaaaDoorTmSame
namespace Go.Proofs.YtcfkngkenkbkaaaDoor
open Classical
open Go.RowKit
set_option linter.unusedVariables false
set_option linter.unusedSimpArgs false

theorem bare0 {E : Nat → Addr} {v : Value} (h : Bare E v 0) : v = .nilIface := by
  rcases h with ⟨h, _⟩ | ⟨h, _⟩
  · exact h
  · omega
/-- append of whatever row to a row of the call's own. -/
theorem append_list {w : World} {ops : Array Oper} {rest : List Oper} {o : Oper} {act : Act} {Q : Exit → Act → World → Prop} (hgd : o.guard = none) (s x : Operand) (t e : TypeId)
    (ho : o.op = .call { callee := .builtin .append, args := #[s, x], argTypes := #[t, t] }) (ht : Tryd.prog.underlying t = some (.slice e))
    {size bytes : Nat} (hi : ∃ i z, Tryd.prog.info? e = some i ∧ i.zero = some z ∧ i.size = size ∧ i.bytes = bytes ∧ z.cells.size = size) (h0 : 0 < size)
    (base : Nat) (v : Value) (n : Nat) (xs : List Value) (hs : act.eval s = v) (hv : w.ownsRow base e size v n xs)
    (a : Option Addr) (m c : Nat) (cs : List Value) (hx : act.eval x = .slice a m c) (hr : Row w a m c size cs) (one : ∀ u ∈ cs, u.oneCell' = true)
    (b1 : n + m ≤ maxLen) (b2 : (n + m) * bytes ≤ 140737488355328) (hbase : base ≤ w.heap.size)
    (h : ∀ v' w', w'.ownsRow base e size v' (n + m) (xs ++ cs) → Below base w w' → wpList Tryd.prog ops Q rest (act.put o.dst v') w') : wpList Tryd.prog ops Q (o :: rest) act w := by
  obtain ⟨i, z, h2, h3, h4, h5, h6⟩ := hi
  by_cases hm : m = 0
  · subst hm
    obtain rfl : cs = [] := List.length_eq_zero_iff.1 (by simpa using hr.size)
    obtain ⟨b, cap, rfl, hb⟩ := RLk.row (.inl hv)
    refine wpList_append_empty hgd s x t ho e i ht h2 b a n cap c hb.fit hs hx ?_
    exact h _ w (by simpa using hv) (Below.refl _ _)
  · match a, hx, hr with
    | none, hx, hr => exact absurd (hr.null rfl).1 hm
    | some ad, hx, hr =>
      have hcell : ∀ j u, cs[j]? = some u → w.cell? (ad.add j) = some u := fun j u hu => by
        obtain ⟨b, off, ha, hc⟩ := hr.cell j u hu
        simp only [Option.some.injEq] at ha
        subst ha
        rw [add_lit']
        exact hc
      refine wpList_append_own w hgd s x t ho base e i z size bytes ht h2 h3 h4 h5 h6 h0 v n xs hs hv ad m c cs hx hr.size hcell one b1 b2 hbase ?_
      intro v' w' k1 k2 _
      exact h v' w' k1 ((Below.refl _ _).grown k2 hbase (fun j e => (World.ownsRow.lt hv j e).1))

theorem clone_any (w : World) (a : Option Addr) (len cap : Nat) (l : List Tm) (hs : Tms w a len cap l) (hm : len ≤ 1048576) :
    Calls Tryd.prog 76 #[.slice a len cap] w fun e w' => ∃ v, e = .returned v ∧ TOwn w' w.heap.size v l ∧ Below w.heap.size w w' := by
  have HS := hide hs
  have hl := hs.size
  have HI := hide infoTimer
  have hq := fun w' => eql_slice_nil (P := Tryd.prog) w' 24 68 a len cap Tryd.underlying24
  have BE := hide (new_below w (.cells #[] 68))
  cases a with
  | none =>
    obtain ⟨rfl, rfl⟩ := hs.row.null rfl
    obtain rfl : l = [] := List.length_eq_zero_iff.1 hl
    clear hs
    simp only [Option.isNone_none] at hq
    go_enter Tryd.func76, Tryd.ntmps76
    go_wp2
    go_ret
    exact ⟨_, rfl, town_nil _ _, Below.refl _ _⟩
  | some ad =>
    clear hs
    simp only [Option.isNone_some] at hq
    go_enter Tryd.func76, Tryd.ntmps76
    go_wp2_with (at_builtin; refine append_list rfl (.tmp 5) (.tmp 6) 24 68 rfl Tryd.underlying24 HI.out (by decide) w.heap.size _ 0 [] rfl (World.ownsRow_lit w #[] 0 (Nat.le_refl _) (by decide) rfl) (some ad) len cap (l.flatMap Tm.cells) rfl ((HS.out.below BE.out).row) (tm_one l) (by unfold maxLen; omega) (by omega) BE.out.size ?_; intro v2 w2 h2 b2)
    rw [List.nil_append, Nat.zero_add, ← hl] at h2
    have H2 := hide h2
    have B2 := hide (BE.out.trans b2)
    clear h2 b2
    go_wp2
    go_ret
    exact ⟨_, rfl, H2.out, B2.out⟩

/-- What Sort answers. -/
def sortE (l : List Tm) [Decidable (InR l 8)] [Decidable (Nod l)] : Nat := if ¬ InR l 8 then 4 else if ¬ Nod l then 12 else 0
def sortL (l : List Tm) [Decidable (InR l 8)] [Decidable (Nod l)] : List Tm := if InR l 8 ∧ Nod l then srt l else []
/-- What Set answers. -/
abbrev SetOk (p d : Int) : Prop := 0 ≤ p ∧ p < 8 ∧ 0 ≤ d ∧ d ≤ 1010000
def setE (l : List Tm) (p d : Int) [Decidable (Form l 8)] : Nat := if ¬ Form l 8 then 9 else if ¬ SetOk p d then 12 else 0
def setL (l : List Tm) (p d : Int) [Decidable (Form l 8)] : List Tm := if Form l 8 ∧ SetOk p d then srt (others l p ++ [⟨p, d⟩]) else []
end Go.Proofs.YtcfkngkenkbkaaaDoor
