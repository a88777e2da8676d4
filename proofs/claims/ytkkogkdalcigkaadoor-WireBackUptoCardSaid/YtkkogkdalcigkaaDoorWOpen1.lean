/-
  What the law's own open stands on: lists of pointers, a string's bytes laid anew.
-/
import Derived.Test.YtkkogkdalcigkaaDoorWOpen0
import Derived.Test.YtkkogkdalcigkaaDoorLow
import Derived.Deep.CutBlock
import Derived.Deep.DeepCutAuto
import Derived.Deep.Cut
namespace Go.Proofs.YtkkogkdalcigkaaDoor
open Go.RowKit FerryCrc
set_option linter.unusedVariables false
set_option linter.unusedSimpArgs false

theorem own_some {w : World} {base n : Nat} {v : Value} {l : List Nat} (h : Own w base v l) (hl : l.length = n) (h0 : 0 < n) : ∃ g c, v = .slice (some ⟨g, 0, none⟩) n c ∧ base ≤ g ∧ n ≤ c := by
  subst hl
  rcases h.2 with ⟨e, hn⟩ | ⟨g, cap, cur, e, hg, _, hnc, _⟩
  · omega
  · exact ⟨g, cap, e, hg, hnc⟩
def ptr (c : Nat) : Value := .pointer (some ⟨c, 0, none⟩)
/-- The law's two lists of cursors. -/
structure Csr (w : World) (B : Nat) (v1 v2 : Value) (cs ds : List Nat) : Prop where
  two : Two w B v1 v2
  r1 : w.ownsRow (B + 1) 32 1 v1 cs.length (cs.map ptr)
  r2 : w.ownsRow (B + 1) 87 1 v2 ds.length (ds.map ptr)
  ne : ∀ k, v1.ownBlock = some k → v2.ownBlock ≠ some k

theorem infoP (T : TypeId) (h : (Tryd.prog.info? T).map (fun i => (i.size, i.bytes, i.zero.map (·.cells.size))) = some (1, 8, some 1)) : ∃ i z, Tryd.prog.info? T = some i ∧ i.zero = some z ∧ i.size = 1 ∧ i.bytes = 8 ∧ z.cells.size = 1 := by
  cases hi : Tryd.prog.info? T with
  | none => simp [hi] at h
  | some i =>
    simp only [hi, Option.map_some, Option.some.injEq, Prod.mk.injEq] at h
    obtain ⟨h1, h2, h3⟩ := h
    cases hz : i.zero with
    | none => simp [hz] at h3
    | some z => exact ⟨i, z, rfl, hz, h1, h2, by simpa [hz] using h3⟩
theorem infoC : (Tryd.prog.info? 32).map (fun i => (i.size, i.bytes, i.zero.map (·.cells.size))) = some (1, 8, some 1) := by kernel_rfl
theorem infoD : (Tryd.prog.info? 87).map (fun i => (i.size, i.bytes, i.zero.map (·.cells.size))) = some (1, 8, some 1) := by kernel_rfl
/-- append of one pointer to a list of one's own, as a step. -/
theorem step_ptr {w : World} {ops : Array Oper} {o : Oper} {act : Act} {K : Act → World → Prop} {Q : Exit → Act → World → Prop} {EE : Prop} (t e : TypeId) (hu : Tryd.prog.underlying t = some (.slice e)) (hinf : (Tryd.prog.info? e).map (fun i => (i.size, i.bytes, i.zero.map (·.cells.size))) = some (1, 8, some 1))
    (hgd : o.guard = none) (s x : Operand) (ho : o.op = .call { callee := .builtin .append, args := #[s, x], argTypes := #[t, t] })
    (base : Nat) (v : Value) (cs : List Nat) (hs : act.eval s = v) (hown : w.ownsRow base e 1 v cs.length (cs.map ptr))
    (gx c : Nat) (hx : act.eval x = .slice (some ⟨gx, 0, none⟩) 1 1) (hc : w.cell? ⟨gx, 0, none⟩ = some (ptr c)) (h63 : cs.length + 1 ≤ 17592186044416) (hbase : base ≤ w.heap.size)
    (h : ∀ g cap w', w'.ownsRow base e 1 (.slice (some ⟨g, 0, none⟩) (cs.length + 1) cap) (cs ++ [c]).length ((cs ++ [c]).map ptr) → Frm (fun k => v.ownBlock = some k) w w' → (v.ownBlock = some g ∨ g = w.heap.size) → K (act.put o.dst (.slice (some ⟨g, 0, none⟩) (cs.length + 1) cap)) w') :
    if Region.wanted o (yielded ops act.tmps) = true then Oper.wp Tryd.prog o act w K Q else EE := by
  obtain ⟨i, z, hi, hz, hsz, hby, hzs⟩ := infoP e hinf
  refine step_append_lies w hgd s x t ho base e i z 1 8 hu hi hz hsz hby hzs (by decide) v cs.length (cs.map ptr) hs hown ⟨gx, 0, none⟩ 1 1 [ptr c] hx rfl ?_ ?_ (by decide) (by unfold maxLen; omega) (by omega) hbase _ rfl ?_
  · intro j u hj
    rw [add_none, Nat.zero_add]
    match j, hj with
    | 0, hj => simp only [List.getElem?_cons_zero, Option.some.injEq] at hj; rw [← hj]; exact hc
    | j + 1, hj => simp at hj
  · intro u hu'
    rw [List.mem_singleton.1 hu']
    rfl
  · intro g cap w' h1 h2 h3 h4
    refine h g cap w' ?_ (frm_grown h2) h3
    rw [List.length_append, List.map_append]
    exact h1
theorem bel_al {a w : World} {o : Obj} (h : Below a.heap.size a w) : Below a.heap.size a (w.alloc o) := h.alloc h.size o
theorem bel_dr {a w : World} (h : Below a.heap.size a w) : Below a.heap.size a w.drew := h.drew
theorem row_frm {S : Nat → Prop} {w w' : World} {base : Nat} {e : TypeId} {sz : Nat} {v : Value} {n : Nat} {cs : List Value} (h : w.ownsRow base e sz v n cs) (hf : Frm S w w') (hn : ∀ k, v.ownBlock = some k → ¬ S k) : w'.ownsRow base e sz v n cs := by
  refine ⟨h.1, ?_⟩
  rcases h.2 with e | ⟨g, cap, cur, e, hg, hh, r⟩
  · exact .inl e
  · refine .inr ⟨g, cap, cur, e, hg, ?_, r⟩
    rw [hf.block g (Array.getElem?_eq_some_iff.1 hh).1 (hn g (by rw [e]; rfl))]
    exact hh
/-- What the bytes of a string show, laid anew. -/
theorem conv_bts (w : World) (S : ByteArray) (n cap g : Nat) (hg : w.heap.size = g) (hn : S.size = n) (hm : n ≤ 140737488351232) (hc : n ≤ cap) (fr : Nat × Nat) (t : TypeId) : Bts (w.alloc (.cells (bytesRow S cap) t fr)) (some ⟨g, 0, none⟩) n cap (bytesOf S) := by
  subst hn hg
  refine ⟨bytesOf_len S, by omega, hc, bytesOf_lt S, fun e => by simp at e, fun k hk => ⟨_, _, rfl, (S.data[k]'hk).toNat, ?_, ?_⟩⟩
  · unfold bytesOf
    rw [List.getElem?_map, Array.getElem?_toList, Array.getElem?_eq_getElem hk]
    rfl
  · rw [Nat.zero_add, cell_of_row _ _ k _ _ _ (heap_alloc_new _ _)]
    exact bytesRow_at S _ k hk
theorem cell_top (w : World) (v : Value) (t : TypeId) (g : Nat) (hg : w.heap.size = g) : (w.alloc (.cells #[v] t)).cell? ⟨g, 0, none⟩ = some v := by
  subst hg
  exact (World.cell?_alloc_at _ _ _ _ rfl).trans rfl
theorem Csr.frmB {w w' : World} {B : Nat} {v1 v2 : Value} {cs ds : List Nat} (h : Csr w B v1 v2 cs ds) (hb : Below w.heap.size w w') : Csr w' B v1 v2 cs ds :=
  ⟨h.two.below hb, ownsRow_below h.r1 hb, ownsRow_below h.r2 hb, h.ne⟩
/-- The lists behind the last stores. -/
theorem open_fin {w wr w5 w6 w7 : World} {B C G D g5 c5 g7 c7 n : Nat} {v1 v2 : Value} {cs ds : List Nat} {L : List Nat} (H : Csr w B v1 v2 cs ds) (hB : Below w.heap.size w wr) (HK5 : Cur wr C G n 0 n L) (hC : w.heap.size ≤ C) (hG : w.heap.size ≤ G) (hGl : G < wr.heap.size)
    (HO5 : w5.ownsRow (B + 1) 32 1 (.slice (some ⟨g5, 0, none⟩) (cs.length + 1) c5) (cs ++ [C]).length ((cs ++ [C]).map ptr)) (HQ5 : v1.ownBlock = some g5 ∨ wr.heap.size ≤ g5) (HW6 : Below w5.heap.size w5 w6)
    (HO57 : w7.ownsRow (B + 1) 32 1 (.slice (some ⟨g5, 0, none⟩) (cs.length + 1) c5) (cs ++ [C]).length ((cs ++ [C]).map ptr))
    (HO7 : w7.ownsRow (B + 1) 87 1 (.slice (some ⟨g7, 0, none⟩) (ds.length + 1) c7) (ds ++ [D]).length ((ds ++ [D]).map ptr)) (HQ7 : v2.ownBlock = some g7 ∨ w6.heap.size ≤ g7)
    (HT7 : Two w7 B v1 v2) (HK7 : Cur w7 C G n 0 n L) (HFW7 : Frm (fun k => v1.ownBlock = some k ∨ v2.ownBlock = some k) wr w7) (h56 : wr.heap.size ≤ w5.heap.size) :
    ∃ v1' v2' C G D, Csr ((w7.setCell ⟨B, 0, none⟩ (.slice (some ⟨g5, 0, none⟩) (cs.length + 1) c5)).setCell ⟨B, 1, none⟩ (.slice (some ⟨g7, 0, none⟩) (ds.length + 1) c7)) B v1' v2' (cs ++ [C]) (ds ++ [D]) ∧ Cur ((w7.setCell ⟨B, 0, none⟩ (.slice (some ⟨g5, 0, none⟩) (cs.length + 1) c5)).setCell ⟨B, 1, none⟩ (.slice (some ⟨g7, 0, none⟩) (ds.length + 1) c7)) C G n 0 n L ∧ w.heap.size ≤ C ∧ w.heap.size ≤ G ∧ G < ((w7.setCell ⟨B, 0, none⟩ (.slice (some ⟨g5, 0, none⟩) (cs.length + 1) c5)).setCell ⟨B, 1, none⟩ (.slice (some ⟨g7, 0, none⟩) (ds.length + 1) c7)).heap.size ∧
      Frm (fun k => k = B ∨ v1.ownBlock = some k ∨ v2.ownBlock = some k) w ((w7.setCell ⟨B, 0, none⟩ (.slice (some ⟨g5, 0, none⟩) (cs.length + 1) c5)).setCell ⟨B, 1, none⟩ (.slice (some ⟨g7, 0, none⟩) (ds.length + 1) c7)) ∧ (∀ k, v1'.ownBlock = some k → v1.ownBlock = some k ∨ (w.heap.size ≤ k ∧ k ≠ C ∧ k ≠ G)) ∧ (∀ k, v2'.ownBlock = some k → v2.ownBlock = some k ∨ (w.heap.size ≤ k ∧ k ≠ C ∧ k ≠ G)) := by
  have hBw : B < w.heap.size := block_lt_of_cell H.two.c0
  have l5 := (World.ownsRow.lt HO5 g5 rfl).2
  have s6 := HW6.size
  have sb := hB.size
  have hCl := HK5.lt
  refine ⟨_, _, C, G, D, ⟨HT7.set _ _, ownsRow_setCell_below (ownsRow_setCell_below HO57 (by show B < B + 1; omega) _) (by show B < B + 1; omega) _, ownsRow_setCell_below (ownsRow_setCell_below HO7 (by show B < B + 1; omega) _) (by show B < B + 1; omega) _, ?_⟩, ?_, hC, hG, ?_, ?_, ?_, ?_⟩
  · intro k hk e
    simp only [Value.ownBlock, Option.some.injEq] at hk e
    subst hk
    subst e
    rcases HQ5 with a | a <;> rcases HQ7 with b | b
    · exact H.ne _ a b
    · have := (World.ownsRow.lt H.r1 _ a).2
      omega
    · have := (World.ownsRow.lt H.r2 _ b).2
      omega
    · omega
  · exact (HK7.frm (frm_setCell w7 ⟨B, 0, none⟩ _) (by show ¬ C = B; omega) (by show ¬ G = B; omega)).frm (frm_setCell _ ⟨B, 1, none⟩ _) (by show ¬ C = B; omega) (by show ¬ G = B; omega)
  · have e1 := (frm_setCell w7 ⟨B, 0, none⟩ (.slice (some ⟨g5, 0, none⟩) (cs.length + 1) c5)).size
    have e2 := (frm_setCell (w7.setCell ⟨B, 0, none⟩ (.slice (some ⟨g5, 0, none⟩) (cs.length + 1) c5)) ⟨B, 1, none⟩ (.slice (some ⟨g7, 0, none⟩) (ds.length + 1) c7)).size
    have e3 := HFW7.size
    omega
  · refine (Frm.ofBelow (S := fun k => k = B ∨ v1.ownBlock = some k ∨ v2.ownBlock = some k) hB).trans ((HFW7.mono (T := fun k => k = B ∨ v1.ownBlock = some k ∨ v2.ownBlock = some k) (fun j _ t => Or.inr t)).trans ((frm_setCell w7 ⟨B, 0, none⟩ _).trans (frm_setCell _ ⟨B, 1, none⟩ _) (fun j _ t => t)) (fun j _ t => Or.inl t)) (fun j _ t => t)
  · intro k hk
    simp only [Value.ownBlock, Option.some.injEq] at hk
    subst hk
    rcases HQ5 with a | a
    · exact .inl a
    · exact .inr ⟨by omega, by omega, by omega⟩
  · intro k hk
    simp only [Value.ownBlock, Option.some.injEq] at hk
    subst hk
    rcases HQ7 with b | b
    · exact .inl b
    · exact .inr ⟨by omega, by omega, by omega⟩
end Go.Proofs.YtkkogkdalcigkaaDoor
