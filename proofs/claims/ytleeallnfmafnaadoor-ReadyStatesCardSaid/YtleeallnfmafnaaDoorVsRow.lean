/-
  Rows with their keys; a state's lists as rows.
-/
import Derived.Test.YtleeallnfmafnaaDoorVsClone
namespace Go.Proofs.YtleeallnfmafnaaDoor.Vv
open Classical
open Go.RowKit FerryCrc
set_option linter.unusedVariables false
set_option linter.unusedSimpArgs false

/-- The cells that a slice shows, and their keys, piece by piece. -/
structure Kr (w : World) (t : TypeId) (sz byt : Nat) (a : Option Addr) (len cap : Nat) (cs : List Value) (K : List (List Lit)) : Prop where
  row : Row w a len cap sz cs
  size : K.length = len
  most : len * byt ≤ 140737488355328
  one : ∀ u ∈ cs, u.oneCell' = true
  keys : ∀ k l, K[k]? = some l → ∃ D, Tryd.prog.keyLits D t ((cs.drop (k * sz)).take sz) = some l
theorem Kr.below {w w' : World} {t : TypeId} {sz byt : Nat} {a : Option Addr} {len cap : Nat} {cs : List Value} {K : List (List Lit)} (h : Kr w t sz byt a len cap cs K) (hb : Below w.heap.size w w') : Kr w' t sz byt a len cap cs K :=
  ⟨h.row.below hb, h.size, h.most, h.one, h.keys⟩
theorem Kr.kv {w : World} {t : TypeId} {sz byt : Nat} {a : Option Addr} {len cap : Nat} {cs : List Value} {K : List (List Lit)} (h : Kr w t sz byt a len cap cs K) (h0 : 0 < sz) (hb : 0 < byt) : Kv w t sz a len K := by
  refine ⟨h.size, Nat.le_trans (Nat.le_mul_of_pos_right _ hb) h.most, fun k l hl => ?_⟩
  have hk : k < len := by rw [← h.size]; exact (List.getElem?_eq_some_iff.1 hl).1
  have hc := h.row.size
  have hle : k * sz + sz ≤ len * sz := by
    have := Nat.mul_le_mul_right sz hk
    rw [Nat.succ_mul] at this
    exact this
  obtain ⟨D, hD⟩ := h.keys k l hl
  have hget : cs[k * sz]? = some (cs[k * sz]'(by omega)) := List.getElem?_eq_getElem _
  obtain ⟨b, off, rfl, _⟩ := h.row.cell _ _ hget
  refine ⟨b, off, _, D, rfl, fun j v hv => ?_, by rw [List.length_take, List.length_drop]; omega, hD⟩
  rw [List.getElem?_take] at hv
  split at hv
  · rw [List.getElem?_drop] at hv
    obtain ⟨b', off', e, hc'⟩ := h.row.cell _ _ hv
    simp only [Option.some.injEq, Addr.mk.injEq, and_true] at e
    obtain ⟨rfl, rfl⟩ := e
    rw [Nat.add_assoc]
    exact hc'
  · cases hv
/-- A clone has the same keys. -/
theorem Kr.clone {w w' : World} {t e : TypeId} {sz byt base : Nat} {a : Option Addr} {len cap : Nat} {cs : List Value} {K : List (List Lit)} {v : Value} (h : Kr w t sz byt a len cap cs K) (hv : w'.ownsRow base e sz v len cs) : ∃ a' c', v = .slice a' len c' ∧ Kr w' t sz byt a' len c' cs K := by
  obtain ⟨a', c', rfl, hr⟩ := RLk.row (.inl hv)
  exact ⟨a', c', rfl, hr, h.size, h.most, h.one, h.keys⟩
/-- The ports that a slice shows, as rows. -/
structure Pr2 (w : World) (a : Option Addr) (len cap : Nat) (cs : List Value) (L : List (Int × List (List Lit))) : Prop where
  row : Row w a len cap 2 cs
  size : L.length = len
  most : len * 32 ≤ 140737488355328
  one : ∀ u ∈ cs, u.oneCell' = true
  keys : ∀ k p, L[k]? = some p → ∃ x n c rs, cs[k * 2]? = some (.slice x n c) ∧ cs[k * 2 + 1]? = some (.int .i64 p.1) ∧ Kr w 9 1 16 x n c rs p.2
theorem Pr2.below {w w' : World} {a : Option Addr} {len cap : Nat} {cs : List Value} {L : List (Int × List (List Lit))} (h : Pr2 w a len cap cs L) (hb : Below w.heap.size w w') : Pr2 w' a len cap cs L :=
  ⟨h.row.below hb, h.size, h.most, h.one, fun k p hp => by
    obtain ⟨x, n, c, rs, h1, h2, h3⟩ := h.keys k p hp
    exact ⟨x, n, c, rs, h1, h2, h3.below hb⟩⟩
theorem Pr2.pv {w : World} {a : Option Addr} {len cap : Nat} {cs : List Value} {L : List (Int × List (List Lit))} (h : Pr2 w a len cap cs L) : Pv w a len L := by
  refine ⟨h.size, by have := h.most; omega, fun k p hp => ?_⟩
  obtain ⟨x, n, c, rs, h1, h2, h3⟩ := h.keys k p hp
  obtain ⟨b, off, rfl, g1⟩ := h.row.cell _ _ h1
  obtain ⟨b', off', e, g2⟩ := h.row.cell _ _ h2
  simp only [Option.some.injEq, Addr.mk.injEq, and_true] at e
  obtain ⟨rfl, rfl⟩ := e
  refine ⟨b, off, x, n, c, rfl, fun j v hv => ?_, h3.kv (by decide) (by decide)⟩
  match j, hv with
  | 0, hv => simp only [List.getElem?_cons_zero, Option.some.injEq] at hv; subst hv; exact g1
  | 1, hv => simp only [List.getElem?_cons_succ, List.getElem?_cons_zero, Option.some.injEq] at hv; subst hv; rw [Nat.add_assoc]; exact g2
  | j + 2, hv => simp at hv
/-- The k-th port's messages laid anew. -/
theorem Pr2.set {w w' : World} {a : Option Addr} {len cap : Nat} {cs : List Value} {L : List (Int × List (List Lit))} {k : Nat} {p : Int × List (List Lit)} {x : Option Addr} {n c : Nat} {rs : List Value} (h : Pr2 w a len cap cs L) (hp : L[k]? = some p)
    (hrow : Row w' a len cap 2 (cs.set (k * 2) (.slice x n c))) (hk : Kr w' 9 1 16 x n c rs p.2) (hold : ∀ j q, L[j]? = some q → j ≠ k → ∀ x n c rs, cs[j * 2]? = some (.slice x n c) → Kr w 9 1 16 x n c rs q.2 → Kr w' 9 1 16 x n c rs q.2) :
    Pr2 w' a len cap (cs.set (k * 2) (.slice x n c)) L := by
  refine ⟨hrow, h.size, h.most, fun u hu => ?_, fun j q hq => ?_⟩
  · rcases List.mem_or_eq_of_mem_set hu with hu | rfl
    · exact h.one u hu
    · rfl
  · obtain ⟨x', n', c', rs', h1, h2, h3⟩ := h.keys j q hq
    have hlen : k * 2 < cs.length := by
      have : k < len := by rw [← h.size]; exact (List.getElem?_eq_some_iff.1 hp).1
      rw [h.row.size]
      omega
    by_cases hj : j = k
    · subst hj
      obtain rfl : p = q := Option.some.inj (hp.symm.trans hq)
      refine ⟨x, n, c, rs, by simp [hlen], ?_, hk⟩
      rw [List.getElem?_set_ne (by omega)]
      exact h2
    · refine ⟨x', n', c', rs', ?_, ?_, hold j q hq hj x' n' c' rs' h1 h3⟩
      · rw [List.getElem?_set_ne (by omega)]
        exact h1
      · rw [List.getElem?_set_ne (by omega)]
        exact h2
end Go.Proofs.YtleeallnfmafnaaDoor.Vv
