/-
  What the walks of package wire share: worlds that differ in some blocks alone, append of bytes with the place of the answer, wire's fresh and placed.
-/
import Derived.Test.YtdbciciljeainaaGreatDoorMem
import Derived.Test.YtdbciciljeainaaGreatDoorRw
import Derived.Test.YtdbciciljeainaaGreatDoorErrIs
import Derived.Deep.AppendLies
import Derived.BigQuiet
import Derived.Deep.RegionLaw
namespace Go.Proofs.YtdbciciljeainaaGreatDoor
open Go.RowKit FerryCrc
set_option linter.unusedVariables false
set_option linter.unusedSimpArgs false

/-- All blocks of the earlier world but those of S are as they were. -/
structure Frm (S : Nat → Prop) (w w' : World) : Prop where
  os : w'.os = w.os
  tape : w'.tape = w.tape
  output : w'.output = w.output
  size : w.heap.size ≤ w'.heap.size
  block : ∀ k, k < w.heap.size → ¬ S k → w'.heap[k]? = w.heap[k]?
theorem Frm.refl (S : Nat → Prop) (w : World) : Frm S w w := ⟨rfl, rfl, rfl, Nat.le_refl _, fun _ _ _ => rfl⟩
theorem Frm.trans {S T : Nat → Prop} {a b c : World} (h : Frm S a b) (k : Frm T b c) (hT : ∀ j, j < a.heap.size → T j → S j) : Frm S a c :=
  ⟨k.os.trans h.os, k.tape.trans h.tape, k.output.trans h.output, Nat.le_trans h.size k.size, fun j hj hn => (k.block j (Nat.lt_of_lt_of_le hj h.size) (fun t => hn (hT j hj t))).trans (h.block j hj hn)⟩
theorem Frm.mono {S T : Nat → Prop} {a b : World} (h : Frm S a b) (hT : ∀ j, j < a.heap.size → S j → T j) : Frm T a b :=
  ⟨h.os, h.tape, h.output, h.size, fun j hj hn => h.block j hj (fun t => hn (hT j hj t))⟩
theorem Frm.drew {S : Nat → Prop} {a w : World} (h : Frm S a w) : Frm S a w.drew := ⟨h.os, h.tape, h.output, h.size, h.block⟩
theorem Frm.ofBelow {S : Nat → Prop} {w w' : World} (h : Below w.heap.size w w') : Frm S w w' := ⟨h.os, h.tape, h.output, h.size, fun k hk _ => h.block k hk⟩
theorem Frm.below {S : Nat → Prop} {w w' : World} {B : Nat} (h : Frm S w w') (hB : B ≤ w.heap.size) (hS : ∀ k, S k → B ≤ k) : Below B w w' :=
  ⟨h.os, h.tape, h.output, h.size, fun k hk => h.block k (Nat.lt_of_lt_of_le hk hB) (fun s => by have := hS k s; omega)⟩
theorem Frm.cell {S : Nat → Prop} {w w' : World} {p : Addr} {v : Value} (h : Frm S w w') (hc : w.cell? p = some v) (hn : ¬ S p.block) : w'.cell? p = some v := by
  rw [← hc]
  exact World.cell?_of_block (w := w) (h.block p.block (block_lt_of_cell hc) hn)
theorem Frm.frozen {S : Nat → Prop} {w w' : World} {p : Addr} {v : Value} (h : Frm S w w') (hc : w.cell? p = some v) (hn : ¬ S p.block) : w'.frozen? p = w.frozen? p :=
  World.frozen?_of_block (w := w) (h.block p.block (block_lt_of_cell hc) hn)
theorem frm_setCell (w : World) (p : Addr) (u : Value) : Frm (fun k => k = p.block) w (w.setCell p u) :=
  ⟨rfl, rfl, rfl, by simp [World.setCell], fun k hk hn => Below.heap_setCell _ _ _ _ hn⟩
theorem frm_alloc (S : Nat → Prop) (w : World) (o : Obj) : Frm S w (w.alloc o) := Frm.ofBelow ((Below.refl _ _).alloc (Nat.le_refl _) o)
theorem frm_grown {w w' : World} {row : Option Nat} (h : w.grownBy w' row) : Frm (fun k => row = some k) w w' :=
  ⟨h.os, h.tape, h.output, h.size, fun k hk hn => h.block k hk (fun e => hn e.symm)⟩
theorem Two.frm {S : Nat → Prop} {w w' : World} {b : Nat} {x y : Value} (h : Two w b x y) (hf : Frm S w w') (hn : ¬ S b) : Two w' b x y :=
  ⟨hf.cell h.c0 hn, hf.cell h.c1 hn, by rw [hf.frozen h.c0 hn]; exact h.f0, by rw [hf.frozen h.c1 hn]; exact h.f1⟩
theorem Bts.frm {S : Nat → Prop} {w w' : World} {a : Option Addr} {len cap : Nat} {l : List Nat} (h : Bts w a len cap l) (hf : Frm S w w') (hn : ∀ b off, a = some ⟨b, off, none⟩ → ¬ S b) : Bts w' a len cap l :=
  ⟨h.size, h.most, h.fit, h.small, h.null, fun k hk => by
    obtain ⟨b, off, ha, c, hl, hc⟩ := h.cell k hk
    exact ⟨b, off, ha, c, hl, hf.cell hc (hn b off ha)⟩⟩
theorem Own.frm {S : Nat → Prop} {w w' : World} {base : Nat} {v : Value} {l : List Nat} (h : Own w base v l) (hf : Frm S w w') (hn : ∀ g, v.ownBlock = some g → ¬ S g) : Own w' base v l := by
  refine ⟨h.1, ?_⟩
  rcases h.2 with e | ⟨g, cap, cur, e, hg, hh, r⟩
  · exact .inl e
  · refine .inr ⟨g, cap, cur, e, hg, ?_, r⟩
    rw [hf.block g (Array.getElem?_eq_some_iff.1 hh).1 (hn g (by rw [e]; rfl))]
    exact hh
theorem Own.wk {w : World} {base base' : Nat} {v : Value} {L : List Nat} (h : Own w base v L) (hb : base' ≤ base) : Own w base' v L := by
  refine ⟨h.1, ?_⟩
  rcases h.2 with e | ⟨g, cap, cur, e, hg, r⟩
  · exact .inl e
  · exact .inr ⟨g, cap, cur, e, Nat.le_trans hb hg, r⟩
theorem Own.sl {w : World} {base : Nat} {v : Value} {l : List Nat} (h : Own w base v l) : ∃ a n c, v = .slice a n c := by
  rcases h.2 with ⟨e, hn⟩ | ⟨g, cap, cur, e, hg, _⟩
  · exact ⟨_, _, _, e⟩
  · exact ⟨_, _, _, e⟩
/-- What a slice of one's own shows. -/
theorem Own.shown {w : World} {base : Nat} {v : Value} {l : List Nat} (h : Own w base v l) (hm : l.length ≤ 140737488355328) (hs : ∀ c ∈ l, c < 256) : ∃ a c, v = .slice a l.length c ∧ Bts w a l.length c l := by
  rcases h.2 with ⟨e, hn⟩ | ⟨g, cap, cur, e, hg, _⟩
  · obtain rfl : l = [] := List.length_eq_zero_iff.1 hn
    exact ⟨none, 0, e, rfl, by decide, Nat.le_refl _, hs, fun _ => ⟨rfl, rfl⟩, fun k hk => by simp at hk⟩
  · subst e
    exact ⟨_, cap, rfl, h.bts rfl hm hs⟩

/-- append of whatever bytes to a slice of one's own: where the answer lies. -/
theorem append_lie {w : World} {ops : Array Oper} {rest : List Oper} {o : Oper} {act : Act} {Q : Exit → Act → World → Prop} (hgd : o.guard = none) (s x : Operand)
    (ho : o.op = .call { callee := .builtin .append, args := #[s, x], argTypes := #[56, 56] })
    (base : Nat) (v : Value) (xs : List Nat) (hs : act.eval s = v) (hown : Own w base v xs)
    (a : Option Addr) (m c : Nat) (l : List Nat) (hx : act.eval x = .slice a m c) (hb : Bts w a m c l)
    (h63 : xs.length + m ≤ 140737488355328) (hbase : base ≤ w.heap.size)
    (h : ∀ v' w', Own w' base v' (xs ++ l) → Frm (fun k => v.ownBlock = some k) w w' → (∀ k, v'.ownBlock = some k → v.ownBlock = some k ∨ w.heap.size ≤ k) → wpList Tryz.prog ops Q rest (act.put o.dst v') w') : wpList Tryz.prog ops Q (o :: rest) act w := by
  obtain ⟨i0, hi, hz0, hz1, hz2⟩ := info_parts info8
  by_cases hm : m = 0
  · subst hm
    obtain rfl : l = [] := List.length_eq_zero_iff.1 hb.size
    have hst := hown
    rcases hown.2 with ⟨e, hn⟩ | ⟨g, cap, cur, e, hg, hh, hnc, _⟩
    · have hl : xs.length = 0 := hn
      refine wpList_append_empty hgd s x 56 ho 5 i0 Tryz.underlying56 hi none a 0 0 c (Nat.le_refl _) (by rw [hs, e]) hx ?_
      exact h _ w (by rw [List.append_nil, ← e]; exact hst) (Frm.refl _ _) (fun k hk => by simp [Value.ownBlock] at hk)
    · refine wpList_append_empty hgd s x 56 ho 5 i0 Tryz.underlying56 hi (some ⟨g, 0, none⟩) a xs.length cap c hnc (by rw [hs, e]) hx ?_
      exact h _ w (by rw [List.append_nil, ← e]; exact hst) (Frm.refl _ _) (fun k hk => .inl (by rw [e]; exact hk))
  · match a, hx, hb with
    | none, hx, hb => exact absurd (hb.null rfl).1 hm
    | some ad, hx, hb =>
      have hsz := hb.size
      subst hsz
      refine wpList_append_lies w hgd s x 56 ho base 5 i0 (.int .u8 0) 1 1 Tryz.underlying56 hi hz0 hz1 hz2 rfl (by decide) v xs.length (xs.map bv) hs hown ad l.length c (l.map bv) hx (by simp) ?_ (bv_one l) (by omega) (by unfold maxLen; omega) (by omega) hbase _ rfl ?_
      · intro j u hu
        have hj : j < l.length := by
          have := (List.getElem?_eq_some_iff.1 hu).1
          simpa using this
        obtain ⟨b, off, ha, c', hl', hc'⟩ := hb.cell j hj
        simp only [Option.some.injEq] at ha
        subst ha
        rw [add_none, hc']
        simp [hl', bv] at hu
        rw [← hu]
      · intro g cap w' h1 h2 h3 h4
        refine h _ w' ?_ (frm_grown h2) (fun k hk => ?_)
        · unfold Own
          rw [List.length_append, List.map_append]
          exact h1
        · simp only [Value.ownBlock, Option.some.injEq] at hk
          subst hk
          rcases h3 with h3 | h3
          · exact .inl h3
          · exact .inr (by omega)

/-- The same as one step of a statement whose order Go leaves open. -/
theorem step_lie {w : World} {ops : Array Oper} {o : Oper} {act : Act} {K : Act → World → Prop} {Q : Exit → Act → World → Prop} {EE : Prop} (hgd : o.guard = none) (s x : Operand)
    (ho : o.op = .call { callee := .builtin .append, args := #[s, x], argTypes := #[56, 56] })
    (base : Nat) (v : Value) (xs : List Nat) (hs : act.eval s = v) (hown : Own w base v xs)
    (ad : Addr) (m c : Nat) (l : List Nat) (hx : act.eval x = .slice (some ad) m c) (hb : Bts w (some ad) m c l) (hm : 0 < m)
    (h63 : xs.length + m ≤ 140737488355328) (hbase : base ≤ w.heap.size)
    (h : ∀ v' w', Own w' base v' (xs ++ l) → Frm (fun k => v.ownBlock = some k) w w' → (∀ k, v'.ownBlock = some k → v.ownBlock = some k ∨ w.heap.size ≤ k) → K (act.put o.dst v') w') :
    if Region.wanted o (yielded ops act.tmps) = true then Oper.wp Tryz.prog o act w K Q else EE := by
  obtain ⟨i0, hi, hz0, hz1, hz2⟩ := info_parts info8
  have hsz := hb.size
  subst hsz
  refine step_append_lies w hgd s x 56 ho base 5 i0 (.int .u8 0) 1 1 Tryz.underlying56 hi hz0 hz1 hz2 rfl (by decide) v xs.length (xs.map bv) hs hown ad l.length c (l.map bv) hx (by simp) ?_ (bv_one l) hm (by unfold maxLen; omega) (by omega) hbase _ rfl ?_
  · intro j u hu
    have hj : j < l.length := by
      have := (List.getElem?_eq_some_iff.1 hu).1
      simpa using this
    obtain ⟨b, off, ha, c', hl', hc'⟩ := hb.cell j hj
    simp only [Option.some.injEq] at ha
    subst ha
    rw [add_none, hc']
    simp [hl', bv] at hu
    rw [← hu]
  · intro g cap w' h1 h2 h3 h4
    refine h _ w' ?_ (frm_grown h2) (fun k hk => ?_)
    · unfold Own
      rw [List.length_append, List.map_append]
      exact h1
    · simp only [Value.ownBlock, Option.some.injEq] at hk
      subst hk
      rcases h3 with h3 | h3
      · exact .inl h3
      · exact .inr (by omega)

set_option maxRecDepth 100000 in
theorem wfresh_any (a : Option Addr) (len cap : Nat) (l : List Nat) (w : World) (hs : Bts w a len cap l) :
    Calls Tryz.prog 65 #[.slice a len cap] w fun e w' => e = .returned (.slice (some ⟨w.heap.size, 0, none⟩) len len) ∧ Own w' w.heap.size (.slice (some ⟨w.heap.size, 0, none⟩) len len) l ∧ Below w.heap.size w w' := by
  have hm := hs.most
  have HS := hide hs
  have HZ : Hid (l ++ (List.replicate len 0).drop len = l) := by unfold Hid; simp
  clear hs
  go_enter Tryz.func65, Tryz.ntmps65
  go_wp2_with (first | (at_make; refine make_bts rfl (.tmp 5) (.tmp 5) rfl _ _ len rfl rfl rfl rfl hm ?_; intro w1 hown1 hb1) | (refine copy_bts rfl (.tmp 7) (.tmp 8) rfl w.heap.size w.heap.size len len _ rfl hown1 (by simp) a len cap l rfl (HS.out.below hb1) (Nat.le_refl _) ?_; intro w2 hown2 hb2))
  go_ret
  exact ⟨rfl, by rw [← HZ.out]; exact hown2, hb1.trans hb2⟩

/-- An error of number i that tells the place p. -/
def AtErr (w : World) (base : Nat) (v : Value) (a : Addr) (p : Int) : Prop :=
  ∃ b, base ≤ b ∧ v = .iface 93 (.pointer (some ⟨b, 0, none⟩)) ∧ w.cell? ⟨b, 0, none⟩ = some (.int .i64 p) ∧ w.cell? ⟨b, 1, none⟩ = some (sent a)
set_option maxRecDepth 100000 in
theorem placed_any (a : Addr) (p : Int) (w : World) :
    Calls Tryz.prog 63 #[sent a, .int .i64 p] w fun e w' => ∃ v, e = .returned v ∧ AtErr w' w.heap.size v a p ∧ Below w.heap.size w w' := by
  unfold AtErr
  unfold sent
  go_enter Tryz.func63, Tryz.ntmps63
  go_wp2
  go_ret
  exact ⟨_, rfl, ⟨_, Nat.le_refl _, rfl, by rw [World.cell?_alloc_at _ _ _ _ rfl]; rfl, by rw [World.cell?_alloc_at _ _ _ _ rfl]; rfl⟩, (Below.refl _ _).alloc (Nat.le_refl _) _⟩
end Go.Proofs.YtdbciciljeainaaGreatDoor
