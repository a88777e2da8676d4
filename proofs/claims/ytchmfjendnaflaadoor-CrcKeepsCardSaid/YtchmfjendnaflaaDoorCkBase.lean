/-
  Lists of bytes of the call's own, held in a list of the call's own (for crc's law on memory).
-/
import Derived.Test.YtchmfjendnaflaaDoorLow
import Derived.Test.YtchmfjendnaflaaDoorRcs
import Derived.Deep.AppendLies
import Derived.BigQuiet
import Derived.Deep.RegionLaw
import Derived.ArgAppend
import Derived.Deep.MidRow
namespace Go.Proofs.YtchmfjendnaflaaDoor
open Go.RowKit FerryCrc
set_option linter.unusedVariables false
set_option linter.unusedSimpArgs false

/-- All blocks of the earlier world but those of S are as they were. -/
structure Frm (S : Nat → Prop) (w w' : World) : Prop where
  os : w'.os = w.os
  tape : w'.tape = w.tape
  output : w'.output = w.output
  size : w.heap.size ≤ w'.heap.size
  block : ∀ k, k < w.heap.size → ¬ S k → w'.heap[k]? = w.heap[k]?
theorem Frm.refl (S : Nat → Prop) (w : World) : Frm S w w := ⟨rfl, rfl, rfl, Nat.le_refl _, fun _ _ _ => rfl⟩
theorem Frm.trans {S T : Nat → Prop} {a b c : World} (h : Frm S a b) (k : Frm T b c) (hT : ∀ j, j < a.heap.size → T j → S j) : Frm S a c :=
  ⟨k.os.trans h.os, k.tape.trans h.tape, k.output.trans h.output, Nat.le_trans h.size k.size, fun j hj hn => (k.block j (Nat.lt_of_lt_of_le hj h.size) (fun t => hn (hT j hj t))).trans (h.block j hj hn)⟩
theorem Frm.mono {S T : Nat → Prop} {a b : World} (h : Frm S a b) (hT : ∀ j, j < a.heap.size → S j → T j) : Frm T a b :=
  ⟨h.os, h.tape, h.output, h.size, fun j hj hn => h.block j hj (fun t => hn (hT j hj t))⟩
theorem Frm.drew {S : Nat → Prop} {a w : World} (h : Frm S a w) : Frm S a w.drew := ⟨h.os, h.tape, h.output, h.size, h.block⟩
theorem Frm.ofBelow {S : Nat → Prop} {w w' : World} (h : Below w.heap.size w w') : Frm S w w' := ⟨h.os, h.tape, h.output, h.size, fun k hk _ => h.block k hk⟩
theorem Frm.below {S : Nat → Prop} {w w' : World} {B : Nat} (h : Frm S w w') (hB : B ≤ w.heap.size) (hS : ∀ k, S k → B ≤ k) : Below B w w' :=
  ⟨h.os, h.tape, h.output, h.size, fun k hk => h.block k (Nat.lt_of_lt_of_le hk hB) (fun s => by have := hS k s; omega)⟩
theorem Frm.cell {S : Nat → Prop} {w w' : World} {p : Addr} {v : Value} (h : Frm S w w') (hc : w.cell? p = some v) (hn : ¬ S p.block) : w'.cell? p = some v := by
  rw [← hc]
  exact World.cell?_of_block (w := w) (h.block p.block (block_lt_of_cell hc) hn)
theorem Frm.frozen {S : Nat → Prop} {w w' : World} {p : Addr} {v : Value} (h : Frm S w w') (hc : w.cell? p = some v) (hn : ¬ S p.block) : w'.frozen? p = w.frozen? p :=
  World.frozen?_of_block (w := w) (h.block p.block (block_lt_of_cell hc) hn)
theorem frm_setCell (w : World) (p : Addr) (u : Value) : Frm (fun k => k = p.block) w (w.setCell p u) :=
  ⟨rfl, rfl, rfl, by simp [World.setCell], fun k hk hn => Below.heap_setCell _ _ _ _ hn⟩
theorem frm_alloc (S : Nat → Prop) (w : World) (o : Obj) : Frm S w (w.alloc o) := Frm.ofBelow ((Below.refl _ _).alloc (Nat.le_refl _) o)
theorem frm_grown {w w' : World} {row : Option Nat} (h : w.grownBy w' row) : Frm (fun k => row = some k) w w' :=
  ⟨h.os, h.tape, h.output, h.size, fun k hk hn => h.block k hk (fun e => hn e.symm)⟩
theorem Bts.frm {S : Nat → Prop} {w w' : World} {a : Option Addr} {len cap : Nat} {l : List Nat} (h : Bts w a len cap l) (hf : Frm S w w') (hn : ∀ b off, a = some ⟨b, off, none⟩ → ¬ S b) : Bts w' a len cap l :=
  ⟨h.size, h.most, h.fit, h.small, h.null, fun k hk => by
    obtain ⟨b, off, ha, c, hl, hc⟩ := h.cell k hk
    exact ⟨b, off, ha, c, hl, hf.cell hc (hn b off ha)⟩⟩
theorem Own.frm {S : Nat → Prop} {w w' : World} {base : Nat} {v : Value} {l : List Nat} (h : Own w base v l) (hf : Frm S w w') (hn : ∀ g, v.ownBlock = some g → ¬ S g) : Own w' base v l := by
  refine ⟨h.1, ?_⟩
  rcases h.2 with e | ⟨g, cap, cur, e, hg, hh, r⟩
  · exact .inl e
  · refine .inr ⟨g, cap, cur, e, hg, ?_, r⟩
    rw [hf.block g (Array.getElem?_eq_some_iff.1 hh).1 (hn g (by rw [e]; rfl))]
    exact hh
theorem Own.wk {w : World} {base base' : Nat} {v : Value} {L : List Nat} (h : Own w base v L) (hb : base' ≤ base) : Own w base' v L := by
  refine ⟨h.1, ?_⟩
  rcases h.2 with e | ⟨g, cap, cur, e, hg, r⟩
  · exact .inl e
  · exact .inr ⟨g, cap, cur, e, Nat.le_trans hb hg, r⟩
theorem Own.sl {w : World} {base : Nat} {v : Value} {l : List Nat} (h : Own w base v l) : ∃ a n c, v = .slice a n c := by
  rcases h.2 with ⟨e, hn⟩ | ⟨g, cap, cur, e, hg, _⟩
  · exact ⟨_, _, _, e⟩
  · exact ⟨_, _, _, e⟩
/-- What a slice of one's own shows. -/
theorem Own.shown {w : World} {base : Nat} {v : Value} {l : List Nat} (h : Own w base v l) (hm : l.length ≤ 140737488355328) (hs : ∀ c ∈ l, c < 256) : ∃ a c, v = .slice a l.length c ∧ Bts w a l.length c l := by
  rcases h.2 with ⟨e, hn⟩ | ⟨g, cap, cur, e, hg, _⟩
  · obtain rfl : l = [] := List.length_eq_zero_iff.1 hn
    exact ⟨none, 0, e, rfl, by decide, Nat.le_refl _, hs, fun _ => ⟨rfl, rfl⟩, fun k hk => by simp at hk⟩
  · subst e
    exact ⟨_, cap, rfl, h.bts rfl hm hs⟩
/-- A record that is handed in, whatever its tag. -/
structure JW where
  tag : Int
  a : Option Addr
  n : Nat
  c : Nat
  l : List Nat
def JW.v (r : JW) : Value := .slice r.a r.n r.c
theorem infoBody : ∃ i z, Tryd.prog.info? 22 = some i ∧ i.zero = some z ∧ i.size = 1 ∧ i.bytes = 24 ∧ z.cells.size = 1 := by
  have h : (Tryd.prog.info? 22).map (fun i => (i.size, i.bytes, i.zero.map (·.cells.size))) = some (1, 24, some 1) := by kernel_rfl
  cases hi : Tryd.prog.info? 22 with
  | none => simp [hi] at h
  | some i =>
    simp only [hi, Option.map_some, Option.some.injEq, Prod.mk.injEq] at h
    obtain ⟨h1, h2, h3⟩ := h
    cases hz : i.zero with
    | none => simp [hz] at h3
    | some z => exact ⟨i, z, rfl, hz, h1, h2, by simpa [hz] using h3⟩
/-- A list of bodies of the call's own, on the document's side. -/
structure DbOwn (w : World) (base : Nat) (v : Value) (rs : List JW) : Prop where
  row : w.ownsRow base 22 1 v rs.length (rs.map JW.v)
  ne : ∀ r ∈ rs, ∀ k, r.v.ownBlock = some k → v.ownBlock ≠ some k
  own : ∀ r ∈ rs, Own w base r.v r.l
theorem DbOwn.frm {S : Nat → Prop} {w w' : World} {base : Nat} {v : Value} {rs : List JW} (h : DbOwn w base v rs) (hf : Frm S w w') (hS : ∀ k, base ≤ k → ¬ S k) : DbOwn w' base v rs := by
  refine ⟨⟨h.row.1, ?_⟩, h.ne, fun r hr => (h.own r hr).frm hf (fun k hk => hS k (World.ownsRow.lt (h.own r hr) k hk).1)⟩
  rcases h.row.2 with e | ⟨g, cap, cur, e, hg, hh, r⟩
  · exact .inl e
  · refine .inr ⟨g, cap, cur, e, hg, ?_, r⟩
    rw [hf.block g (Array.getElem?_eq_some_iff.1 hh).1 (hS g hg)]
    exact hh
theorem DbOwn.below {w w' : World} {base : Nat} {v : Value} {rs : List JW} (h : DbOwn w base v rs) (hb : Below w.heap.size w w') : DbOwn w' base v rs :=
  h.frm (S := fun _ => False) (Frm.ofBelow hb) (fun _ _ h => h)
theorem DbOwn.wk {w : World} {base base' : Nat} {v : Value} {rs : List JW} (h : DbOwn w base v rs) (hb : base' ≤ base) : DbOwn w base' v rs :=
  ⟨ownsRow_weaken h.row hb, h.ne, fun r hr => (h.own r hr).wk hb⟩
theorem db_nil (w : World) (base : Nat) : DbOwn w base (.slice none 0 0) [] := ⟨⟨rfl, .inl ⟨rfl, rfl⟩⟩, fun r hr => by simp at hr, fun r hr => by simp at hr⟩
theorem flat_jv (rs : List JW) : rs.flatMap (fun r => [r.v]) = rs.map JW.v := by
  induction rs with
  | nil => rfl
  | cons r rs ih => rw [List.flatMap_cons, ih]; rfl
theorem own_some {w : World} {base n : Nat} {v : Value} {l : List Nat} (h : Own w base v l) (hl : l.length = n) (h0 : 0 < n) : ∃ g c, v = .slice (some ⟨g, 0, none⟩) n c ∧ base ≤ g ∧ n ≤ c := by
  subst hl
  rcases h.2 with ⟨e, hn⟩ | ⟨g, cap, cur, e, hg, _, hnc, _⟩
  · omega
  · exact ⟨g, cap, e, hg, hnc⟩
/-- No two of the lists share a block. -/
def Pw (rs : List JW) : Prop := ∀ (i j : Nat) (x y : JW), i ≠ j → rs[i]? = some x → rs[j]? = some y → ∀ k, x.v.ownBlock = some k → y.v.ownBlock ≠ some k
/-- The same list with other bytes. -/
def JW.wl (r : JW) (l : List Nat) : JW := { r with l := l }
theorem JW.wl_v (r : JW) (l : List Nat) : (r.wl l).v = r.v := rfl
theorem mem_at {α : Type} {l : List α} {x : α} (h : x ∈ l) : ∃ i : Nat, l[i]? = some x := List.mem_iff_getElem?.1 h
theorem set_at {α : Type} {l : List α} {i j : Nat} {x y : α} (h : (l.set i x)[j]? = some y) : (i = j ∧ x = y) ∨ (i ≠ j ∧ l[j]? = some y) := by
  rw [List.getElem?_set] at h
  split at h
  · rename_i e
    split at h
    · exact .inl ⟨e, Option.some.inj h⟩
    · cases h
  · rename_i e
    exact .inr ⟨e, h⟩
theorem set_v (rs : List JW) (i : Nat) (r : JW) (l : List Nat) (h : rs[i]? = some r) : (rs.set i (r.wl l)).map JW.v = rs.map JW.v := by
  rw [List.map_set, JW.wl_v]
  refine List.ext_getElem? (fun j => ?_)
  rw [List.getElem?_set]
  split
  · rename_i e
    subst e
    have hl := (List.getElem?_eq_some_iff.1 h).1
    rw [List.length_map, if_pos hl, List.getElem?_map, h]
    rfl
  · rfl
theorem Pw.set {rs : List JW} (h : Pw rs) (i : Nat) (r : JW) (l : List Nat) (hi : rs[i]? = some r) : Pw (rs.set i (r.wl l)) := by
  intro a b x y hab hx hy k hk
  rcases set_at hx with ⟨rfl, rfl⟩ | ⟨n1, hx⟩ <;> rcases set_at hy with ⟨rfl, rfl⟩ | ⟨n2, hy⟩
  · exact absurd rfl hab
  · exact h i b r y hab hi hy k hk
  · exact h a i x r hab hx hi k hk
  · exact h a b x y hab hx hy k hk
/-- The row of the list of lists stays where another block is written. -/
theorem row_frm {S : Nat → Prop} {w w' : World} {base sz n : Nat} {e : TypeId} {v : Value} {cs : List Value} (h : w.ownsRow base e sz v n cs) (hf : Frm S w w') (hS : ∀ k, v.ownBlock = some k → ¬ S k) : w'.ownsRow base e sz v n cs := by
  refine ⟨h.1, ?_⟩
  rcases h.2 with e | ⟨g, cap, cur, e, hg, hh, r⟩
  · exact .inl e
  · refine .inr ⟨g, cap, cur, e, hg, ?_, r⟩
    rw [hf.block g (Array.getElem?_eq_some_iff.1 hh).1 (hS g (by rw [e]; rfl))]
    exact hh
/-- A byte is written into one of the lists. -/
theorem DbOwn.put {w : World} {base : Nat} {v : Value} {rs : List JW} (h : DbOwn w base v rs) (hp : Pw rs) {i : Nat} {r : JW} (hi : rs[i]? = some r) {g n c : Nat} (hv : r.v = .slice (some ⟨g, 0, none⟩) n c) (hn : r.l.length = n) (j x : Nat) :
    DbOwn (w.setCell ⟨g, j, none⟩ (.int .u8 (x : Int))) base v (rs.set i (r.wl (r.l.set j x))) := by
  have hf := frm_setCell w ⟨g, j, none⟩ (.int .u8 (x : Int))
  have hg : r.v.ownBlock = some g := by rw [hv]; rfl
  refine ⟨?_, ?_, ?_⟩
  · rw [set_v rs i r _ hi, List.length_set]
    exact row_frm h.row hf (fun k hk (e : k = g) => h.ne r (List.mem_of_getElem? hi) g hg (by rw [← e]; exact hk))
  · intro q hq k hk
    obtain ⟨b, hb⟩ := mem_at hq
    rcases set_at hb with ⟨_, rfl⟩ | ⟨_, hb⟩
    · exact h.ne r (List.mem_of_getElem? hi) k hk
    · exact h.ne q (List.mem_of_getElem? hb) k hk
  · intro q hq
    obtain ⟨b, hb⟩ := mem_at hq
    rcases set_at hb with ⟨_, rfl⟩ | ⟨hne, hb⟩
    · have h1 := h.own r (List.mem_of_getElem? hi)
      show Own _ base r.v (r.l.set j x)
      rw [hv] at h1 ⊢
      exact h1.stored hn j x
    · exact (h.own q (List.mem_of_getElem? hb)).frm hf (fun k hk (e : k = g) => hp i b r q hne hi hb g hg (by rw [← e]; exact hk))
/-- What holds of a list that has grown in its place holds of its beginning. -/
theorem own_take {w : World} {base g n m c : Nat} {l l' : List Nat} (h : Own w base (.slice (some ⟨g, 0, none⟩) (n + m) c) (l ++ l')) (hn : l.length = n) : Own w base (.slice (some ⟨g, 0, none⟩) n c) l := by
  obtain ⟨h1, h2⟩ := h
  rcases h2 with ⟨e, _⟩ | ⟨g', cap, cur, e, hg, hh, hnc, hcm, hcs, htake⟩
  · cases e
  · simp only [Value.slice.injEq, Option.some.injEq, Addr.mk.injEq, and_true, true_and] at e
    obtain ⟨e1, e2, e3⟩ := e
    subst hn
    refine ⟨by rw [List.length_map, Nat.mul_one], .inr ⟨g', cap, cur, by rw [e1, e3], hg, hh, by omega, hcm, hcs, ?_⟩⟩
    have h3 := congrArg (List.take (l.length * 1)) htake
    rw [List.take_take, List.map_append, List.take_append_of_le_length (by simp), Nat.min_eq_left (by rw [List.length_append]; omega), List.take_of_length_le (l := l.map bv) (by simp)] at h3
    exact h3
/-- A list that is written just behind its end, where it has room. -/
theorem own_next {w : World} {base g n c : Nat} {l : List Nat} (h : Own w base (.slice (some ⟨g, 0, none⟩) n c) l) (hn : l.length = n) (hc : n + 1 ≤ c) (x : Nat) :
    Own (w.setCell ⟨g, n, none⟩ (.int .u8 (x : Int))) base (.slice (some ⟨g, 0, none⟩) (n + 1) c) (l ++ [x]) := by
  subst hn
  rcases h.2 with ⟨e, _⟩ | ⟨g', cap, cur, e, hg, hh, hnc, hcm, hcs, htake⟩
  · cases e
  · simp only [Value.slice.injEq, Option.some.injEq, Addr.mk.injEq, and_true, true_and] at e
    obtain ⟨rfl, rfl⟩ := e
    rw [Nat.mul_one] at hcs htake
    have hcl : cur.toList.length = c := by simpa using hcs
    have h1 : w.ownsRow base 5 1 (.slice (some ⟨g, 0, none⟩) (l.length + 1) c) (l.length + 1) (cur.toList.take (l.length + 1)) :=
      ⟨by rw [List.length_take, hcl]; omega, .inr ⟨g, c, cur, rfl, hg, hh, hc, hcm, by omega, by rw [Nat.mul_one]⟩⟩
    have h2 := (World.ownsRow.stored h1 l.length (bv x)).1
    have h3 : (cur.toList.take (l.length + 1)).set l.length (bv x) = (l ++ [x]).map bv := by
      rw [List.map_append, ← htake]
      refine List.ext_getElem? (fun j => ?_)
      rw [List.getElem?_set]
      split
      · rename_i e
        subst e
        have hll : (List.take l.length cur.toList).length = l.length := by rw [List.length_take, hcl]; omega
        rw [List.getElem?_append_right (by rw [hll]; exact Nat.le_refl _), hll, Nat.sub_self, if_pos (by rw [List.length_take, hcl]; omega)]
        rfl
      · rename_i e
        by_cases hj : j < l.length
        · rw [List.getElem?_append_left (by rw [List.length_take, hcl]; omega), List.getElem?_take_of_lt (by omega), List.getElem?_take_of_lt hj]
        · rw [List.getElem?_eq_none (by rw [List.length_take]; omega), List.getElem?_eq_none (by rw [List.length_append, List.length_take]; simp; omega)]
    rw [h3] at h2
    show World.ownsRow _ base 5 1 _ (l ++ [x]).length _
    rw [List.length_append]
    exact h2
/-- What such an append leaves: the list in its place, or in new memory. -/
def Grw (w w' : World) (v v' : Value) (x : Nat) : Prop :=
  (∃ g n c : Nat, v = .slice (some ⟨g, 0, none⟩) n c ∧ n + 1 ≤ c ∧ v' = .slice (some ⟨g, 0, none⟩) (n + 1) c ∧ w' = w.setCell ⟨g, n, none⟩ (.int .u8 (x : Int))) ∨
  (Below w.heap.size w w' ∧ ∀ k, v'.ownBlock = some k → w.heap.size ≤ k)
theorem append_bk {w : World} {ops : Array Oper} {rest : List Oper} {o : Oper} {act : Act} {Q : Exit → Act → World → Prop} (hgd : o.guard = none) (s x : Operand)
    (ho : o.op = .call { callee := .builtin .append, args := #[s, x], argTypes := #[22, 22] })
    (base : Nat) (v : Value) (l : List Nat) (hs : act.eval s = v) (hown : Own w base v l)
    (gx b : Nat) (hx : act.eval x = .slice (some ⟨gx, 0, none⟩) 1 1) (x0 : w.cell? ⟨gx, 0, none⟩ = some (.int .u8 (b : Int)))
    (h63 : l.length + 1 ≤ 140737488355328) (hbase : base ≤ w.heap.size)
    (h : ∀ v' w', Own w' base v' (l ++ [b]) → Grw w w' v v' b → wpList Tryd.prog ops Q rest (act.put o.dst v') w') : wpList Tryd.prog ops Q (o :: rest) act w := by
  obtain ⟨i, hi, hz, hsz, hby⟩ := info_parts info8
  have hnews : ∀ j u, ([.int .u8 (b : Int)] : List Value)[j]? = some u → w.cell? ((⟨gx, 0, none⟩ : Addr).add j) = some u := fun j u hu => by
    rw [add_none, Nat.zero_add]
    match j, hu with
    | 0, hu => simp only [List.getElem?_cons_zero, Option.some.injEq] at hu; rw [← hu]; exact x0
    | j + 1, hu => simp at hu
  have hone : ∀ u ∈ ([.int .u8 (b : Int)] : List Value), u.oneCell' = true := fun u hu => by rw [List.mem_singleton.1 hu]; rfl
  rcases hown.2 with ⟨e, hn⟩ | ⟨g, cap, cur, e, hg, hh, hnc, hcm, hcs, htake⟩
  · obtain rfl : l = [] := List.length_eq_zero_iff.1 hn
    subst e
    refine wpList_append_grows w hgd s x 22 ho 5 i _ 1 1 Tryd.underlying22 hi hz hsz hby rfl (by decide) none 0 0 [] hs (fun _ => ⟨rfl, rfl⟩) rfl (fun b e => by simp at e) ⟨gx, 0, none⟩ 1 1 [.int .u8 (b : Int)] hx rfl hnews hone (by omega) (by unfold maxLen; omega) (by omega) ?_
    intro v' w' k1 k2
    have hbl : Below w.heap.size w w' := (Below.refl _ _).grown k2 (Nat.le_refl _) (fun k hk => by simp at hk)
    exact h v' w' (ownsRow_weaken k1 hbase) (.inr ⟨hbl, fun k hk => (World.ownsRow.lt k1 k hk).1⟩)
  · subst e
    refine wpList_append_arg w hgd s x 22 ho 5 i _ 1 1 Tryd.underlying22 hi hz hsz hby rfl (by decide) g 0 l.length cap (l.map bv) hs (by simp) (fun j u hu => by
      have hj := (List.getElem?_eq_some_iff.1 hu).1
      rw [List.length_map] at hj
      have := World.ownsRow.cellAt hown j (by omega)
      rw [Nat.zero_add, this, hu]) ⟨gx, 0, none⟩ 1 1 [.int .u8 (b : Int)] hx rfl hnews hone (fun hr j hj => by
        obtain rfl : j = 0 := by have : j < 1 := hj; omega
        refine ⟨?_, World.ownsRow.frozenAt hown _⟩
        rw [cell_of_row w g _ cur _ _ hh]
        have : 0 + l.length * 1 + 0 < cur.size := by rw [hcs]; omega
        simp
        omega) (by unfold maxLen; omega) (by omega) ?_ ?_
    · intro hr
      have := own_next hown rfl hr b
      rw [Nat.zero_add, Nat.mul_one]
      exact h _ _ this (.inl ⟨g, l.length, cap, rfl, hr, rfl, rfl⟩)
    · intro hgr v' w' k1 k2
      have hbl : Below w.heap.size w w' := (Below.refl _ _).grown k2 (Nat.le_refl _) (fun k hk => by simp at hk)
      refine h v' w' ?_ (.inr ⟨hbl, fun k hk => (World.ownsRow.lt k1 k hk).1⟩)
      show World.ownsRow w' base 5 1 v' (l ++ [b]).length ((l ++ [b]).map bv)
      rw [List.length_append, List.map_append]
      exact ownsRow_weaken k1 hbase
/-- Another view of lists stays where such an append was made. -/
theorem own_grw {w w' : World} {base base' : Nat} {v v' u : Value} {x : Nat} {l l' : List Nat} (h : Own w base u l) (hv : Own w base' v l') (hg : Grw w w' v v' x) (hd : ∀ g n c m, u = .slice (some ⟨g, 0, none⟩) m c → v = .slice (some ⟨g, 0, none⟩) n c → m ≤ n) (hblk : ∀ g n c m c', u = .slice (some ⟨g, 0, none⟩) m c' → v = .slice (some ⟨g, 0, none⟩) n c → c' = c) : Own w' base u l := by
  rcases hg with ⟨g, n, c, rfl, hc, rfl, rfl⟩ | ⟨hb, _⟩
  · by_cases hu : u.ownBlock = some g
    · rcases h.2 with ⟨e, hn⟩ | ⟨g', cap, cur, e, hg', hh, hnc, hcm, hcs, htake⟩
      · rw [e] at hu; cases hu
      · rw [e] at hu
        have hu : some g' = some g := hu
        simp only [Option.some.injEq] at hu
        subst hu
        have e1 := hblk g' n c _ _ e rfl
        subst e1
        have hle := hd g' n cap _ e rfl
        subst e
        have h2 := (World.ownsRow.stored h n (.int .u8 (x : Int))).1
        rw [List.set_eq_of_length_le (by rw [List.length_map]; exact hle)] at h2
        exact h2
    · exact h.frm (frm_setCell w ⟨g, n, none⟩ (.int .u8 (x : Int))) (fun k hk (e : k = g) => hu (by rw [← e]; exact hk))
  · exact h.frm (S := fun _ => False) (Frm.ofBelow hb) (fun _ _ h => h)
theorem grw_frm {w w' : World} {v v' : Value} {x : Nat} (h : Grw w w' v v' x) : Frm (fun k => v.ownBlock = some k) w w' := by
  rcases h with ⟨g, n, c, rfl, _, rfl, rfl⟩ | ⟨hb, _⟩
  · exact (frm_setCell w ⟨g, n, none⟩ (.int .u8 (x : Int))).mono (fun j _ (e : j = g) => by rw [e]; rfl)
  · exact Frm.ofBelow hb
/-- Where a list lies that has grown by s: in its list's place, or from block N on. -/
def Gro (N : Nat) (u v : Value) (s : Nat) : Prop := (∃ g m c : Nat, u = .slice (some ⟨g, 0, none⟩) m c ∧ v = .slice (some ⟨g, 0, none⟩) (m + s) c) ∨ (∀ b, v.ownBlock = some b → N ≤ b)
theorem Gro.start {w : World} {base N : Nat} {u : Value} {l : List Nat} (h : Own w base u l) : Gro N u u 0 := by
  rcases h.2 with ⟨e, _⟩ | ⟨g, cap, cur, e, _⟩
  · exact .inr (fun b hb => by rw [e] at hb; cases hb)
  · exact .inl ⟨g, _, cap, e, e⟩
theorem Gro.step {w w' : World} {N : Nat} {u v v' : Value} {s x : Nat} (h : Gro N u v s) (hg : Grw w w' v v' x) (hN : N ≤ w.heap.size) : Gro N u v' (s + 1) := by
  rcases hg with ⟨g, n, c, rfl, _, rfl, _⟩ | ⟨_, hb⟩
  · rcases h with ⟨g', m, c', e1, e2⟩ | h
    · simp only [Value.slice.injEq, Option.some.injEq, Addr.mk.injEq, and_true] at e2
      obtain ⟨rfl, rfl, rfl⟩ := e2
      exact .inl ⟨g, m, c, e1, rfl⟩
    · exact .inr (fun b hb => h b hb)
  · exact .inr (fun b hk => Nat.le_trans hN (hb b hk))
/-- The lists stay where one of them has grown. -/
theorem DbOwn.grw {w w' : World} {base N q s x : Nat} {V gv gv' : Value} {rs : List JW} {r : JW} {l' : List Nat} (h : DbOwn w base V rs) (hp : Pw rs) (hr : rs[q]? = some r) (hg : Grw w w' gv gv' x) (hgv : Own w base gv l') (hf : Gro N r.v gv s) (hN : ∀ p ∈ rs, ∀ b, p.v.ownBlock = some b → b < N) (hV : ∀ b, V.ownBlock = some b → b < N) : DbOwn w' base V rs := by
  have hfr := grw_frm hg
  have hmem := List.mem_of_getElem? hr
  refine ⟨row_frm h.row hfr (fun k hk e => ?_), h.ne, fun p hpm => ?_⟩
  · rcases hf with ⟨g, m, c, e1, e2⟩ | hf
    · rw [e2] at e
      exact h.ne r hmem k (by rw [e1]; exact e) hk
    · have := hf k e
      have := hV k hk
      omega
  · obtain ⟨j, hj⟩ := mem_at hpm
    by_cases ej : j = q
    · subst ej
      rw [hr] at hj
      obtain rfl := Option.some.inj hj
      refine own_grw (h.own r hpm) hgv hg (fun g n c m e1 e2 => ?_) (fun g n c m c' e1 e2 => ?_)
      · rcases hf with ⟨g', m', c'', f1, f2⟩ | hf
        · rw [f1] at e1
          rw [f2] at e2
          simp only [Value.slice.injEq] at e1 e2
          omega
        · have h1 := hf g (by rw [e2]; rfl)
          have h2 := hN r hpm g (by rw [e1]; rfl)
          omega
      · rcases hf with ⟨g', m', c'', f1, f2⟩ | hf
        · rw [f1] at e1
          rw [f2] at e2
          simp only [Value.slice.injEq] at e1 e2
          omega
        · have h1 := hf g (by rw [e2]; rfl)
          have h2 := hN r hpm g (by rw [e1]; rfl)
          omega
    · refine (h.own p hpm).frm hfr (fun k hk e => ?_)
      rcases hf with ⟨g, m, c, e1, e2⟩ | hf
      · rw [e2] at e
        exact hp q j r p (fun e => ej e.symm) hr hj k (by rw [e1]; exact e) hk
      · have h1 := hf k e
        have h2 := hN p hpm k hk
        omega
/-- A list of lists of the call's own, as it is read: the cell of the k-th. -/
theorem DbOwn.cell {w : World} {base g n c k : Nat} {rs : List JW} {r : JW} (h : DbOwn w base (.slice (some ⟨g, 0, none⟩) n c) rs) (hn : rs.length = n) (hr : rs[k]? = some r) : w.cell? ⟨g, k, none⟩ = some (.slice r.a r.n r.c) := by
  have hk := (List.getElem?_eq_some_iff.1 hr).1
  subst hn
  have := World.ownsRow.cellAt h.row k (by omega)
  rw [this, List.getElem?_map, hr]
  rfl
theorem DbOwn.form {w : World} {base : Nat} {v : Value} {rs : List JW} (h : DbOwn w base v rs) (h0 : 0 < rs.length) : ∃ g c, v = .slice (some ⟨g, 0, none⟩) rs.length c := by
  rcases h.row.2 with ⟨_, e⟩ | ⟨g, cap, cur, e, _⟩
  · omega
  · exact ⟨g, cap, e⟩
theorem own_n {w : World} {base : Nat} {r : JW} {l : List Nat} (h : Own w base r.v l) : r.n = l.length := by
  rcases h.2 with ⟨e, hn⟩ | ⟨g, cap, cur, e, _⟩
  · have e : Value.slice r.a r.n r.c = .slice none 0 0 := e
    simp only [Value.slice.injEq] at e
    omega
  · have e : Value.slice r.a r.n r.c = .slice (some ⟨g, 0, none⟩) l.length cap := e
    simp only [Value.slice.injEq] at e
    exact e.2.1
theorem own_a {w : World} {base : Nat} {r : JW} {l : List Nat} (h : Own w base r.v l) (h0 : 0 < l.length) : ∃ g, r.a = some ⟨g, 0, none⟩ := by
  rcases h.2 with ⟨e, hn⟩ | ⟨g, cap, cur, e, _⟩
  · omega
  · have e : Value.slice r.a r.n r.c = .slice (some ⟨g, 0, none⟩) l.length cap := e
    simp only [Value.slice.injEq] at e
    exact ⟨g, e.1⟩
/-- append of lists to a list of lists of the call's own. -/
theorem append_dbs {w : World} {ops : Array Oper} {rest : List Oper} {o : Oper} {act : Act} {Q : Exit → Act → World → Prop} (hgd : o.guard = none) (s x : Operand)
    (ho : o.op = .call { callee := .builtin .append, args := #[s, x], argTypes := #[33, 33] })
    (base : Nat) (v : Value) (rs : List JW) (hs : act.eval s = v) (hown : DbOwn w base v rs)
    (a : Option Addr) (m c : Nat) (news : List JW) (hx : act.eval x = .slice a m c) (hb : Rcs (fun r : JW => [r.v]) 1 w a m c news)
    (hr : ∀ r ∈ news, Own w base r.v r.l) (hn : ∀ r ∈ news, ∀ k, r.v.ownBlock = some k → v.ownBlock ≠ some k) (h63 : rs.length + m ≤ 4398046511104) (hbase : base ≤ w.heap.size)
    (h : ∀ v' w', DbOwn w' base v' (rs ++ news) → Frm (fun k => v.ownBlock = some k) w w' → (∀ k, v'.ownBlock = some k → v.ownBlock = some k ∨ w.heap.size ≤ k) → wpList Tryd.prog ops Q rest (act.put o.dst v') w') : wpList Tryd.prog ops Q (o :: rest) act w := by
  obtain ⟨i, z, hi, hz, hsz, hby, hzs⟩ := infoBody
  by_cases hm : m = 0
  · subst hm
    obtain rfl : news = [] := List.length_eq_zero_iff.1 hb.size
    have hst := hown
    rcases hown.row.2 with ⟨e, hn⟩ | ⟨g, cap, cur, e, hg, hh, hnc, _⟩
    · refine wpList_append_empty hgd s x 33 ho 22 i Tryd.underlying33 hi none a 0 0 c (Nat.le_refl _) (by rw [hs, e]) hx ?_
      exact h _ w (by rw [List.append_nil, ← e]; exact hst) (Frm.refl _ _) (fun k hk => by simp [Value.ownBlock] at hk)
    · refine wpList_append_empty hgd s x 33 ho 22 i Tryd.underlying33 hi (some ⟨g, 0, none⟩) a rs.length cap c hnc (by rw [hs, e]) hx ?_
      exact h _ w (by rw [List.append_nil, ← e]; exact hst) (Frm.refl _ _) (fun k hk => .inl (by rw [e]; exact hk))
  · match a, hx, hb with
    | none, hx, hb => exact absurd (hb.row.null rfl).1 hm
    | some ad, hx, hb =>
      refine wpList_append_lies w hgd s x 33 ho base 22 i z 1 24 Tryd.underlying33 hi hz hsz hby hzs (by decide) v rs.length (rs.map JW.v) hs hown.row ad m c (news.map JW.v) hx (by rw [List.length_map, hb.size]; omega) ?_ ?_ (by omega) (by unfold maxLen; omega) (by omega) hbase _ rfl ?_
      · intro j u hu
        rw [← flat_jv] at hu
        obtain ⟨b, off, e, hc⟩ := hb.row.cell j u hu
        simp only [Option.some.injEq] at e
        subst e
        rw [add_none]
        exact hc
      · intro u hu
        obtain ⟨t, _, rfl⟩ := List.mem_map.1 hu
        rfl
      · intro g cap w' h1 h2 h3 h4
        have hf := frm_grown h2
        refine h _ w' ⟨?_, ?_, ?_⟩ hf (fun k hk => by
          have hk : some g = some k := hk
          simp only [Option.some.injEq] at hk
          subst hk
          rcases h3 with e | e
          · exact .inl e
          · exact .inr (by omega))
        · rw [List.length_append, List.map_append, hb.size]
          exact h1
        · intro q hq k hk e
          simp only [Value.ownBlock, Option.some.injEq] at e
          subst e
          rcases List.mem_append.1 hq with hq | hq
          · rcases h3 with h3 | h3
            · exact hown.ne q hq g hk h3
            · have := (World.ownsRow.lt (hown.own q hq) g hk).2
              omega
          · rcases h3 with h3 | h3
            · exact hn q hq g hk h3
            · have := (World.ownsRow.lt (hr q hq) g hk).2
              omega
        · intro q hq
          rcases List.mem_append.1 hq with hq | hq
          · exact (hown.own q hq).frm hf (fun k hk e => hown.ne q hq k hk e)
          · exact (hr q hq).frm hf (fun k hk e => hn q hq k hk e)
theorem pw_nil : Pw [] := fun i j x y _ h => by simp at h
theorem pw_one (r : JW) : Pw [r] := fun i j x y hij h1 h2 => by
  have a := (List.getElem?_eq_some_iff.1 h1).1
  have b := (List.getElem?_eq_some_iff.1 h2).1
  simp at a b
  omega
theorem pw_app {a b : List JW} (h1 : Pw a) (h2 : Pw b) (h12 : ∀ x ∈ a, ∀ y ∈ b, ∀ k, x.v.ownBlock = some k → y.v.ownBlock ≠ some k) : Pw (a ++ b) := by
  intro i j x y hij hx hy k hk e
  rw [List.getElem?_append] at hx hy
  split at hx <;> split at hy
  · exact h1 i j x y hij hx hy k hk e
  · exact h12 x (List.mem_of_getElem? hx) y (List.mem_of_getElem? hy) k hk e
  · exact h12 y (List.mem_of_getElem? hy) x (List.mem_of_getElem? hx) k e hk
  · exact h2 _ _ x y (by omega) hx hy k hk e
theorem nope1 {p b off : Nat} (e : some (⟨p, 0, none⟩ : Addr) = some ⟨b, off, none⟩) (h : b < p) : False := by
  simp only [Option.some.injEq, Addr.mk.injEq, and_true] at e
  omega
theorem nope2 {p b off : Nat} (e : some (⟨p, 0, none⟩ : Addr) = some ⟨b, off, none⟩) (h : p + 1 ≤ b) : False := by
  simp only [Option.some.injEq, Addr.mk.injEq, and_true] at e
  omega
theorem own_base {w : World} {base g n c : Nat} {l : List Nat} (h : Own w base (.slice (some ⟨g, 0, none⟩) n c) l) : base ≤ w.heap.size := by
  have := World.ownsRow.lt h g rfl
  omega
/-- The lists stay where other blocks are written. -/
theorem DbOwn.frm2 {S : Nat → Prop} {w w' : World} {base : Nat} {v : Value} {rs : List JW} (h : DbOwn w base v rs) (hf : Frm S w w') (h1 : ∀ k, v.ownBlock = some k → ¬ S k) (h2 : ∀ r ∈ rs, ∀ k, r.v.ownBlock = some k → ¬ S k) : DbOwn w' base v rs :=
  ⟨row_frm h.row hf h1, h.ne, fun r hr => (h.own r hr).frm hf (h2 r hr)⟩
/-- append of whatever bytes to a slice of one's own: where the answer lies. -/
theorem append_lie {w : World} {ops : Array Oper} {rest : List Oper} {o : Oper} {act : Act} {Q : Exit → Act → World → Prop} (hgd : o.guard = none) (s x : Operand)
    (ho : o.op = .call { callee := .builtin .append, args := #[s, x], argTypes := #[22, 22] })
    (base : Nat) (v : Value) (xs : List Nat) (hs : act.eval s = v) (hown : Own w base v xs)
    (a : Option Addr) (m c : Nat) (l : List Nat) (hx : act.eval x = .slice a m c) (hb : Bts w a m c l)
    (h63 : xs.length + m ≤ 140737488355328) (hbase : base ≤ w.heap.size)
    (h : ∀ v' w', Own w' base v' (xs ++ l) → Frm (fun k => v.ownBlock = some k) w w' → (∀ k, v'.ownBlock = some k → v.ownBlock = some k ∨ w.heap.size ≤ k) → wpList Tryd.prog ops Q rest (act.put o.dst v') w') : wpList Tryd.prog ops Q (o :: rest) act w := by
  obtain ⟨i0, hi, hz0, hz1, hz2⟩ := info_parts info8
  by_cases hm : m = 0
  · subst hm
    obtain rfl : l = [] := List.length_eq_zero_iff.1 hb.size
    have hst := hown
    rcases hown.2 with ⟨e, hn⟩ | ⟨g, cap, cur, e, hg, hh, hnc, _⟩
    · have hl : xs.length = 0 := hn
      refine wpList_append_empty hgd s x 22 ho 5 i0 Tryd.underlying22 hi none a 0 0 c (Nat.le_refl _) (by rw [hs, e]) hx ?_
      exact h _ w (by rw [List.append_nil, ← e]; exact hst) (Frm.refl _ _) (fun k hk => by simp [Value.ownBlock] at hk)
    · refine wpList_append_empty hgd s x 22 ho 5 i0 Tryd.underlying22 hi (some ⟨g, 0, none⟩) a xs.length cap c hnc (by rw [hs, e]) hx ?_
      exact h _ w (by rw [List.append_nil, ← e]; exact hst) (Frm.refl _ _) (fun k hk => .inl (by rw [e]; exact hk))
  · match a, hx, hb with
    | none, hx, hb => exact absurd (hb.null rfl).1 hm
    | some ad, hx, hb =>
      have hsz := hb.size
      subst hsz
      refine wpList_append_lies w hgd s x 22 ho base 5 i0 (.int .u8 0) 1 1 Tryd.underlying22 hi hz0 hz1 hz2 rfl (by decide) v xs.length (xs.map bv) hs hown ad l.length c (l.map bv) hx (by simp) ?_ (bv_one l) (by omega) (by unfold maxLen; omega) (by omega) hbase _ rfl ?_
      · intro j u hu
        have hj : j < l.length := by
          have := (List.getElem?_eq_some_iff.1 hu).1
          simpa using this
        obtain ⟨b, off, ha, c', hl', hc'⟩ := hb.cell j hj
        simp only [Option.some.injEq] at ha
        subst ha
        rw [add_none, hc']
        simp [hl', bv] at hu
        rw [← hu]
      · intro g cap w' h1 h2 h3 h4
        refine h _ w' ?_ (frm_grown h2) (fun k hk => ?_)
        · unfold Own
          rw [List.length_append, List.map_append]
          exact h1
        · simp only [Value.ownBlock, Option.some.injEq] at hk
          subst hk
          rcases h3 with h3 | h3
          · exact .inl h3
          · exact .inr (by omega)
end Go.Proofs.YtchmfjendnaflaaDoor
