/-
  The boxes of the document's copy under way, and its ports.
-/
import Derived.Test.YtkjbcnlhallcdaaVsBox
import Derived.Test.YtkjbcnlhallcdaaVsCopy
import Derived.Test.YtkjbcnlhallcdaaRgK
import Derived.Deep.AppendLies
namespace Go.Proofs.Ytkjbcnlhallcdaa
open Go.RowKit FerryCrc
set_option linter.unusedVariables false
set_option linter.unusedSimpArgs false

/-- The state's box, the answer's, the copy's, and the rows that were made, all below block X. -/
structure Ic (w0 w : World) (X : Nat) (S C : List Value) (R : List (Option Addr × Nat × Nat × Nat × List Value)) : Prop where
  low : Below w0.heap.size w0 w
  room : w0.heap.size + 3 ≤ X
  top : X ≤ w.heap.size
  src : Bl w w0.heap.size S
  an : Bl w (w0.heap.size + 1) [.int .i64 0, .int .i64 0, .int .i64 0, .slice none 0 0, .slice none 0 0, .slice none 0 0, .slice none 0 0, .slice none 0 0, .slice none 0 0, .slice none 0 0]
  cb : Bl w (w0.heap.size + 1 + 1) C
  all : ∀ r ∈ R, Lg w (w0.heap.size + 3) X r.1 r.2.1 r.2.2.1 r.2.2.2.1 r.2.2.2.2
theorem bl_sameC {w w' : World} {g : Nat} {cs : List Value} (h : Bl w g cs) (hw : w'.heap[g]? = w.heap[g]?) : Bl w' g cs :=
  ⟨fun j v hv => (World.cell?_of_block (w := w) (a := ⟨g, j, none⟩) hw).trans (h.cell j v hv), fun j => (World.frozen?_of_block (w := w) (a := ⟨g, j, none⟩) hw).trans (h.free j)⟩
theorem Ic.grown {w0 w w' : World} {X : Nat} {S C : List Value} {R : List (Option Addr × Nat × Nat × Nat × List Value)} {row : Option Nat} (h : Ic w0 w X S C R) (hg : w.grownBy w' row) (hr : ∀ g, row = some g → X ≤ g) : Ic w0 w' X S C R := by
  have h1 := h.room
  have h2 := h.top
  have h3 := hg.size
  have hb : ∀ b, b < X → w'.heap[b]? = w.heap[b]? := fun b hb => hg.block b (by omega) (fun e => by have := hr b e.symm; omega)
  refine ⟨⟨hg.os.trans h.low.os, hg.tape.trans h.low.tape, hg.output.trans h.low.output, Nat.le_trans h.low.size h3, fun b hb' => (hb b (by omega)).trans (h.low.block b hb')⟩, h1, by omega, bl_sameC h.src (hb _ (by omega)), bl_sameC h.an (hb _ (by omega)), bl_sameC h.cb (hb _ (by omega)), fun r hr' => ?_⟩
  have hl := h.all r hr'
  exact ⟨hl.row.same (fun ad e _ => hb _ (hl.at_ ad e).2), hl.at_⟩
theorem below_grownC {w w' : World} (h : Below w.heap.size w w') : w.grownBy w' none := ⟨h.os, h.tape, h.output, h.size, fun k hk _ => h.block k hk⟩
theorem Ic.call {w0 w w' : World} {X : Nat} {S C : List Value} {R : List (Option Addr × Nat × Nat × Nat × List Value)} (h : Ic w0 w X S C R) (hb : Below w.heap.size w w') : Ic w0 w' X S C R := h.grown (below_grownC hb) (fun g e => by simp at e)
theorem Ic.drew {w0 w : World} {X : Nat} {S C : List Value} {R : List (Option Addr × Nat × Nat × Nat × List Value)} (h : Ic w0 w X S C R) : Ic w0 w.drew X S C R := h.call (Below.refl _ _).drew
theorem Ic.more {w0 w w' : World} {X : Nat} {S C : List Value} {R : List (Option Addr × Nat × Nat × Nat × List Value)} (h : Ic w0 w X S C R) (hb : Below w.heap.size w w') {e : TypeId} {sz n c : Nat} {a : Option Addr} {cs : List Value} (ho : w'.ownsRow w.heap.size e sz (.slice a n c) n cs) : Ic w0 w' w'.heap.size S C ((a, n, c, sz, cs) :: R) := by
  have h2 := h.call hb
  have h3 := h.room
  have h4 := h.top
  have h5 := h2.top
  refine ⟨h2.low, by omega, Nat.le_refl _, h2.src, h2.an, h2.cb, fun r hr => ?_⟩
  rcases List.mem_cons.1 hr with rfl | hr
  · have := own_lg ho
    exact ⟨this.row, fun ad e => ⟨Nat.le_trans (by omega) (this.at_ ad e).1, (this.at_ ad e).2⟩⟩
  · exact (h2.all r hr).up h5
theorem Ic.c {w0 w : World} {X : Nat} {S C : List Value} {R : List (Option Addr × Nat × Nat × Nat × List Value)} (h : Ic w0 w X S C R) {k : Nat} (hk : k < C.length) (u : Value) : Ic w0 (w.setCell ⟨w0.heap.size + 1 + 1, k, none⟩ u) X S (C.set k u) R := by
  have h1 := h.room
  have h2 := h.top
  exact ⟨h.low.setCell (p := ⟨w0.heap.size + 1 + 1, k, none⟩) (by show w0.heap.size ≤ w0.heap.size + 1 + 1; omega) u, h1, by simpa [World.setCell] using h2, h.src.far (by omega), h.an.far (by omega), h.cb.set hk u, fun r hr => (h.all r hr).set (p := ⟨w0.heap.size + 1 + 1, k, none⟩) (.inl (by show w0.heap.size + 1 + 1 < _; omega)) u⟩
theorem ic_boxes (w : World) (S : List Value) : Ic w (((w.alloc (.cells S.toArray 29)).alloc (.cells #[.int .i64 0, .int .i64 0, .int .i64 0, .slice none 0 0, .slice none 0 0, .slice none 0 0, .slice none 0 0, .slice none 0 0, .slice none 0 0, .slice none 0 0] 29)).alloc (.cells S.toArray 29)) (w.heap.size + 3) S S [] := by
  have X1 := one_below w (.cells S.toArray 29)
  have X2 := one_below (w.alloc (.cells S.toArray 29)) (.cells #[.int .i64 0, .int .i64 0, .int .i64 0, .slice none 0 0, .slice none 0 0, .slice none 0 0, .slice none 0 0, .slice none 0 0, .slice none 0 0, .slice none 0 0] 29)
  have X3 := one_below ((w.alloc (.cells S.toArray 29)).alloc (.cells #[.int .i64 0, .int .i64 0, .int .i64 0, .slice none 0 0, .slice none 0 0, .slice none 0 0, .slice none 0 0, .slice none 0 0, .slice none 0 0, .slice none 0 0] 29)) (.cells S.toArray 29)
  have B1 := bl_alloc w S.toArray 29
  have B2 := bl_alloc (w.alloc (.cells S.toArray 29)) #[.int .i64 0, .int .i64 0, .int .i64 0, .slice none 0 0, .slice none 0 0, .slice none 0 0, .slice none 0 0, .slice none 0 0, .slice none 0 0, .slice none 0 0] 29
  have B3 := bl_alloc ((w.alloc (.cells S.toArray 29)).alloc (.cells #[.int .i64 0, .int .i64 0, .int .i64 0, .slice none 0 0, .slice none 0 0, .slice none 0 0, .slice none 0 0, .slice none 0 0, .slice none 0 0, .slice none 0 0] 29)) S.toArray 29
  have e1 : (w.alloc (.cells S.toArray 29)).heap.size = w.heap.size + 1 := by simp
  have e2 : ((w.alloc (.cells S.toArray 29)).alloc (.cells #[.int .i64 0, .int .i64 0, .int .i64 0, .slice none 0 0, .slice none 0 0, .slice none 0 0, .slice none 0 0, .slice none 0 0, .slice none 0 0, .slice none 0 0] 29)).heap.size = w.heap.size + 2 := by simp
  refine ⟨chain (chain X1 X2) X3, Nat.le_refl _, by simp, ?_, ?_, ?_, fun r hr => by simp at hr⟩
  · have := (B1.below (by simp) X2).below (by rw [e2]; omega) X3
    simpa using this
  · have := B2.below (by simp) X3
    rw [e1] at this
    exact this
  · rw [e2] at B3
    simpa using B3

/-- Ports copied so far: their row is the call's own, their texts lie from M on, in other blocks. -/
def Pd (w : World) (M : Nat) (v : Value) (n : Nat) (L : List (Int × List (List Lit))) : Prop :=
  ∃ CS, w.ownsRow M 55 2 v n CS ∧ (∀ u ∈ CS, u.oneCell' = true) ∧ L.length = n ∧ ∀ k p, L[k]? = some p → ∃ x m d rs, CS[k * 2]? = some (.slice x m d) ∧ CS[k * 2 + 1]? = some (.int .i64 p.1) ∧ Kr w 9 1 16 x m d rs p.2 ∧ ∀ ad, x = some ad → M ≤ ad.block ∧ ad.block < w.heap.size ∧ some ad.block ≠ v.ownBlock
theorem pd_nil (w : World) (M : Nat) : Pd w M (.slice none 0 0) 0 [] := ⟨[], World.ownsRow_nil _ _ _ _, fun u hu => by simp at hu, rfl, fun k p hp => by simp at hp⟩
theorem Pd.below {w w' : World} {M : Nat} {v : Value} {n : Nat} {L : List (Int × List (List Lit))} (h : Pd w M v n L) (hb : Below w.heap.size w w') : Pd w' M v n L := by
  obtain ⟨CS, h1, h2, h3, h4⟩ := h
  refine ⟨CS, ownsRow_below h1 hb, h2, h3, fun k p hp => ?_⟩
  obtain ⟨x, m, d, rs, g1, g2, g3, g4⟩ := h4 k p hp
  exact ⟨x, m, d, rs, g1, g2, g3.below hb, fun ad e => ⟨(g4 ad e).1, Nat.lt_of_lt_of_le (g4 ad e).2.1 hb.size, (g4 ad e).2.2⟩⟩
theorem Pd.box {w : World} {M : Nat} {v : Value} {n : Nat} {L : List (Int × List (List Lit))} (h : Pd w M v n L) {p : Addr} (hp : p.block < M) (u : Value) : Pd (w.setCell p u) M v n L := by
  obtain ⟨CS, q1, q2, q3, q4⟩ := h
  refine ⟨CS, ownsRow_setCell_below q1 hp u, q2, q3, fun k p hp => ?_⟩
  obtain ⟨x, m, d, rs, g1, g2, g3, g4⟩ := q4 k p hp
  refine ⟨x, m, d, rs, g1, g2, g3.at_ (g3.row.set_far (fun ad e hm => by have := (g4 ad e).1; omega) u), fun ad e => ?_⟩
  have := g4 ad e
  simpa [World.setCell] using this
theorem Pd.push {w w' : World} {M : Nat} {v : Value} {n : Nat} {L : List (Int × List (List Lit))} {CS : List Value} {p : Int × List (List Lit)} {x : Option Addr} {m d g cap : Nat} {rs : List Value} (hM : M ≤ w.heap.size) (h1 : w.ownsRow M 55 2 v n CS) (h2 : ∀ u ∈ CS, u.oneCell' = true) (h3 : L.length = n)
    (h4 : ∀ k p, L[k]? = some p → ∃ x m d rs, CS[k * 2]? = some (.slice x m d) ∧ CS[k * 2 + 1]? = some (.int .i64 p.1) ∧ Kr w 9 1 16 x m d rs p.2 ∧ ∀ ad, x = some ad → M ≤ ad.block ∧ ad.block < w.heap.size ∧ some ad.block ≠ v.ownBlock)
    (hk : Kr w 9 1 16 x m d rs p.2) (hx : ∀ ad, x = some ad → M ≤ ad.block ∧ ad.block < w.heap.size ∧ some ad.block ≠ v.ownBlock)
    (ho : w'.ownsRow M 55 2 (.slice (some ⟨g, 0, none⟩) (n + 1) cap) (n + 1) (CS ++ [.slice x m d, .int .i64 p.1])) (hg : w.grownBy w' v.ownBlock) (hgg : v.ownBlock = some g ∨ g = w.heap.size) : Pd w' M (.slice (some ⟨g, 0, none⟩) (n + 1) cap) (n + 1) (L ++ [p]) := by
  have hl : CS.length = n * 2 := h1.1
  have key : ∀ {x m d rs K}, Kr w 9 1 16 x m d rs K → (∀ ad, x = some ad → M ≤ ad.block ∧ ad.block < w.heap.size ∧ some ad.block ≠ v.ownBlock) → Kr w' 9 1 16 x m d rs K ∧ ∀ ad, x = some ad → M ≤ ad.block ∧ ad.block < w'.heap.size ∧ some ad.block ≠ (Value.slice (some ⟨g, 0, none⟩) (n + 1) cap).ownBlock := fun hk hx =>
    ⟨hk.at_ (hk.row.same fun ad e _ => hg.block _ (hx ad e).2.1 (hx ad e).2.2), fun ad e => ⟨(hx ad e).1, Nat.lt_of_lt_of_le (hx ad e).2.1 hg.size, fun e2 => by
      simp only [Value.ownBlock, Option.some.injEq] at e2
      rcases hgg with h | h
      · exact (hx ad e).2.2 (by rw [h, e2])
      · have := (hx ad e).2.1; omega⟩⟩
  refine ⟨CS ++ [.slice x m d, .int .i64 p.1], ho, fun u hu => ?_, by simp [h3], fun k q hq => ?_⟩
  · rcases List.mem_append.1 hu with hu | hu
    · exact h2 u hu
    · simp only [List.mem_cons, List.not_mem_nil, or_false] at hu
      rcases hu with rfl | rfl <;> rfl
  · by_cases hkn : k < n
    · rw [List.getElem?_append_left (by omega)] at hq
      obtain ⟨x', m', d', rs', g1, g2, g3, g4⟩ := h4 k q hq
      obtain ⟨k1, k2⟩ := key g3 g4
      exact ⟨x', m', d', rs', by rw [List.getElem?_append_left (by omega)]; exact g1, by rw [List.getElem?_append_left (by omega)]; exact g2, k1, k2⟩
    · rw [List.getElem?_append_right (by omega)] at hq
      obtain rfl : k = n := by
        have := (List.getElem?_eq_some_iff.1 hq).1
        simp at this
        omega
      rw [h3, Nat.sub_self] at hq
      obtain rfl := Option.some.inj hq
      obtain ⟨k1, k2⟩ := key hk hx
      refine ⟨x, m, d, rs, ?_, ?_, k1, k2⟩
      · rw [List.getElem?_append_right (by omega), show k * 2 - CS.length = 0 by omega]; rfl
      · rw [List.getElem?_append_right (by omega), show k * 2 + 1 - CS.length = 1 by omega]; rfl
theorem Pd.pr2 {w W : World} {M : Nat} {a : Option Addr} {n c : Nat} {L : List (Int × List (List Lit))} (h : Pd w M (.slice a n c) n L) (hm : n * 32 ≤ 140737488355328) (hw : ∀ b, M ≤ b → W.heap[b]? = w.heap[b]?) : ∃ cs, Pr2 W a n c cs L := by
  obtain ⟨CS, q1, q2, q3, q4⟩ := h
  refine ⟨CS, (own_lg q1).same (Nat.le_refl _) hw, q3, hm, q2, fun k p hp => ?_⟩
  obtain ⟨x, m, d, rs, g1, g2, g3, g4⟩ := q4 k p hp
  exact ⟨x, m, d, rs, g1, g2, g3.at_ (g3.row.same fun ad e hm => hw _ (g4 ad e).1)⟩
end Go.Proofs.Ytkjbcnlhallcdaa
