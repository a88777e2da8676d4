/-
  The cursor of package wire: Next.
-/
import Derived.Test.YtohoncgkekiihaaDoorCuBody
import Derived.Test.YtohoncgkekiihaaDoorCuBad
import Derived.OwnWalk
namespace Go.Proofs.YtohoncgkekiihaaDoor
open Go.RowKit FerryCrc
set_option linter.unusedVariables false
set_option linter.unusedSimpArgs false

/-- No record begins at p: the error's number and its place. -/
def Stk (L : List Nat) (p bd i q : Nat) : Prop :=
  (bd - p < 3 ∧ i = 1 ∧ q = p) ∨ (3 ≤ bd - p ∧ L[p]? = some 0 ∧ i = 3 ∧ q = p) ∨ (3 ≤ bd - p ∧ L[p]? ≠ some 0 ∧ bd - (p + 3) < nbe (cut L (p + 1) 2) ∧ i = 5 ∧ q = p + 1)
/-- A record with that tag and that length begins at p. -/
def Rec (L : List Nat) (p bd t n : Nat) : Prop := 3 ≤ bd - p ∧ L[p]? = some t ∧ t ≠ 0 ∧ nbe (cut L (p + 1) 2) = n ∧ n ≤ bd - (p + 3)
theorem stk_or_rec {L : List Nat} {p bd : Nat} (h : bd ≤ L.length) : (∃ i q, Stk L p bd i q) ∨ ∃ t n, Rec L p bd t n := by
  by_cases h3 : bd - p < 3
  · exact .inl ⟨1, p, .inl ⟨h3, rfl, rfl⟩⟩
  · obtain ⟨t, ht⟩ : ∃ t, L[p]? = some t := ⟨_, List.getElem?_eq_getElem (by omega)⟩
    by_cases h0 : t = 0
    · subst h0
      exact .inl ⟨3, p, .inr (.inl ⟨by omega, ht, rfl, rfl⟩)⟩
    · by_cases hn : bd - (p + 3) < nbe (cut L (p + 1) 2)
      · exact .inl ⟨5, p + 1, .inr (.inr ⟨by omega, by rw [ht]; simp; exact h0, hn, rfl, rfl⟩)⟩
      · exact .inr ⟨t, _, by omega, ht, h0, rfl, by omega⟩

/-- The three errors that Next answers. -/
structure E3 (w : World) (E : Nat → Addr) : Prop where
  v1 : w.cell? ⟨1, 0, none⟩ = some (sent (E 1))
  v3 : w.cell? ⟨3, 0, none⟩ = some (sent (E 3))
  v5 : w.cell? ⟨5, 0, none⟩ = some (sent (E 5))
theorem E3.below {w w' : World} {E : Nat → Addr} (h : E3 w E) (hb : Below w.heap.size w w') : E3 w' E := ⟨cell_below h.v1 hb, cell_below h.v3 hb, cell_below h.v5 hb⟩
theorem Errs.three {w : World} {E : Nat → Addr} (h : Errs w E) : E3 w E := ⟨h.v1, h.v3, h.v5⟩

set_option maxRecDepth 100000 in
theorem next_bad {E : Nat → Addr} (c g len p bd i q : Nat) (L : List Nat) (w : World) (h : Cur w c g len p bd L) (he : E3 w E) (hst : Stk L p bd i q) :
    Calls Tryd.prog 51 #[.pointer (some ⟨c, 0, none⟩)] w fun e w' => ∃ ev, e = .returned (.tuple #[.int .i64 0, .pointer none, ev]) ∧ AtErr w' w.heap.size ev (E i) (q : Int) ∧ Below w.heap.size w w' := by
  have key : ∀ (i q : Nat), (Calls Tryd.prog 78 #[.pointer (some ⟨c, 0, none⟩)] w fun e w' => ∃ ev, e = .returned (.tuple #[.int .i64 0, ev]) ∧ AtErr w' w.heap.size ev (E i) (q : Int) ∧ Below w.heap.size w w') →
      Calls Tryd.prog 51 #[.pointer (some ⟨c, 0, none⟩)] w fun e w' => ∃ ev, e = .returned (.tuple #[.int .i64 0, .pointer none, ev]) ∧ AtErr w' w.heap.size ev (E i) (q : Int) ∧ Below w.heap.size w w' := by
    intro i q hc
    have HC := hide hc
    clear hc
    go_enter Tryd.func51, Tryd.ntmps51
    go_wp2_with fail
    refine Calls.mono HC.out ?_
    rintro e w1 ⟨ev, rfl, ha, hb⟩
    have HA := hide ha
    have HB := hide hb
    obtain ⟨b, _, rfl, _⟩ := ha
    clear hb
    go_wp2
    go_ret3
    exact ⟨_, rfl, HA.out, HB.out⟩
  rcases hst with ⟨h1, rfl, rfl⟩ | ⟨h1, h2, rfl, rfl⟩ | ⟨h1, h2, h3, rfl, rfl⟩
  · exact key 1 q (tag_short c g len q bd L (E 1) w h he.v1 h1)
  · exact key 3 q (tag_zero c g len q bd L (E 3) w h he.v3 h1 h2)
  · obtain ⟨t, ht⟩ : ∃ t, L[p]? = some t := ⟨_, List.getElem?_eq_getElem (by have := h.most; have := h.bts.size; omega)⟩
    have HC := hide (tag_ok c g len p bd L t w h h1 ht (fun e => h2 (by rw [ht, e])))
    have HD := hide (fun w2 (k : Cur w2 c g len p bd L) (k5 : w2.cell? ⟨5, 0, none⟩ = some (sent (E 5))) => body_bad c g len p bd L (E 5) w2 k k5 (by omega) h3)
    have H := hide h
    have V := hide he.v5
    clear key h he h1 h2 h3 ht
    go_enter Tryd.func51, Tryd.ntmps51
    go_wp2_with fail
    refine Calls.mono HC.out ?_
    rintro e w1 ⟨rfl, hb⟩
    have HB := hide hb
    clear hb
    go_wp2_with fail
    refine Calls.mono (HD.out w1 (H.out.below HB.out) (cell_below V.out HB.out)) ?_
    rintro e w2 ⟨ev, rfl, ha, hb⟩
    have HA := hide ha
    have HB2 := hide hb
    obtain ⟨b, _, rfl, _⟩ := ha
    clear hb
    go_wp2
    go_ret3
    exact ⟨_, rfl, HA.out.wk HB.out.size, chain HB.out HB2.out⟩

set_option maxRecDepth 100000 in
theorem next_ok (c g len p bd t n : Nat) (L : List Nat) (w : World) (h : Cur w c g len p bd L) (hr : Rec L p bd t n) :
    Calls Tryd.prog 51 #[.pointer (some ⟨c, 0, none⟩)] w fun e w' => ∃ k, w.heap.size ≤ k ∧ e = .returned (.tuple #[.int .i64 (t : Int), .pointer (some ⟨k, 0, none⟩), .nilIface]) ∧ Cur w' c g len (p + 3 + n) bd L ∧ Cur w' k g len (p + 3) (p + 3 + n) L ∧ Frm (fun k => k = c) w w' := by
  obtain ⟨h1, h2, h3, rfl, h5⟩ := hr
  have HC := hide (tag_ok c g len p bd L t w h h1 h2 h3)
  have HD := hide (fun w2 (k : Cur w2 c g len p bd L) => body_ok c g len p bd L w2 k (by omega) h5)
  have H := hide h
  clear h h1 h2 h3 h5
  generalize nbe (cut L (p + 1) 2) = n at *
  go_enter Tryd.func51, Tryd.ntmps51
  go_wp2_with fail
  refine Calls.mono HC.out ?_
  rintro e w1 ⟨rfl, hb⟩
  have HB := hide hb
  clear hb
  go_wp2_with fail
  refine Calls.mono (HD.out w1 (H.out.below HB.out)) ?_
  rintro e w2 ⟨rfl, q1, q2, q3⟩
  have H1 := hide q1
  have H2 := hide q2
  have H3 := hide q3
  clear q1 q2 q3
  go_wp2
  go_ret3
  exact ⟨w1.heap.size, HB.out.size, rfl, H1.out, H2.out, (Frm.ofBelow HB.out).trans H3.out (fun j _ t => t)⟩
end Go.Proofs.YtohoncgkekiihaaDoor
