/-
  append of bytes as one step of a statement whose order Go leaves open.
-/
import Derived.Test.YtfggpdddoaageabDoorBase
import Derived.Deep.RegionLaw
namespace Go.Proofs.YtfggpdddoaageabDoor
open Go.RowKit FerryCrc

theorem step_app {w : World} {ops : Array Oper} {o : Oper} {act : Act} {K : Act → World → Prop} {Q : Exit → Act → World → Prop} {EE : Prop} (hgd : o.guard = none) (s x : Operand)
    (ho : o.op = .call { callee := .builtin .append, args := #[s, x], argTypes := #[22, 22] })
    (base : Nat) (v : Value) (xs : List Nat) (hs : act.eval s = v) (hown : Own w base v xs)
    (ad : Addr) (m c : Nat) (l : List Nat) (hx : act.eval x = .slice (some ad) m c) (hb : Bts w (some ad) m c l)
    (h63 : xs.length + m ≤ 140737488355328) (hbase : base ≤ w.heap.size)
    (h : ∀ v' w', Own w' base v' (xs ++ l) → w.grownBy w' v.ownBlock → (v' = .slice none 0 0 ↔ v = .slice none 0 0 ∧ m = 0) → K (act.put o.dst v') w') :
    if Region.wanted o (yielded ops act.tmps) = true then Oper.wp Tryd.prog o act w K Q else EE := by
  have hw : Region.wanted o (yielded ops act.tmps) = true := by simp [Region.wanted, hgd]
  rw [if_pos hw]
  obtain ⟨i0, hi, hz0, hz1, hz2⟩ := info_parts info8
  have hsz := hb.size
  subst hsz
  refine wp_append_own w s x 22 ho base 5 i0 (.int .u8 0) 1 1 Tryd.underlying22 hi hz0 hz1 hz2 rfl (by decide) v xs.length (xs.map bv) hs hown ad l.length c (l.map bv) hx (by simp) ?_ (bv_one l) (by unfold maxLen; omega) (by omega) hbase ?_
  · intro j u hu
    have hj : j < l.length := by
      have := (List.getElem?_eq_some_iff.1 hu).1
      simpa using this
    obtain ⟨b, off, ha, c', hl', hc'⟩ := hb.cell j hj
    simp only [Option.some.injEq] at ha
    subst ha
    rw [add_none, hc']
    simp [hl', bv] at hu
    rw [← hu]
  · intro v' w' h1 h2 h3
    refine h v' w' ?_ h2 h3
    unfold Own
    rw [List.length_append, List.map_append]
    exact h1
end Go.Proofs.YtfggpdddoaageabDoor
