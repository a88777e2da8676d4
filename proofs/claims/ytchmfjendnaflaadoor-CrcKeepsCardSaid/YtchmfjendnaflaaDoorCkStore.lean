/-
  The law's struct stored into a block of its own.
-/
import Derived.Test.YtchmfjendnaflaaDoorCkAsk
namespace Go.Proofs.YtchmfjendnaflaaDoor
open Go.RowKit FerryCrc
set_option linter.unusedVariables false
set_option linter.unusedSimpArgs false

theorem bl_setCells {w : World} {g : Nat} {cs vs : List Value} (h : Bl w g cs) (hl : cs.length = vs.length) : Bl (w.setCells g 0 vs) g vs := by
  refine ⟨fun j v hv => ?_, fun j => by rw [World.frozen?_setCells]; exact h.free j⟩
  have hj := (List.getElem?_eq_some_iff.1 hv).1
  have h1 := World.cell?_setCells_in g vs 0 w (fun i hi => by
    obtain ⟨u, hu⟩ : ∃ u, cs[i]? = some u := ⟨_, List.getElem?_eq_getElem (by omega)⟩
    rw [Nat.zero_add, h.cell i u hu]
    rfl) j hj
  rw [Nat.zero_add] at h1
  rw [h1, ← hv, List.getElem?_eq_getElem hj]
theorem ask_store {w : World} {g : Nat} {cs : List Value} (h : Bl w g cs) (hl : cs.length = 10) (n0 n1 n2 : Nat) (P : Int) (a0 a1 a2 a3 : Option Addr) (m0 c0 m1 c1 m2 c2 m3 c3 : Nat) :
    (storeCells ⟨g, 0, none⟩ (askC n0 n1 n2 P (.slice a0 m0 c0) (.slice a1 m1 c1) (.slice a2 m2 c2) (.slice a3 m3 c3))).run Tryd.prog w = .ok () (w.setCells g 0 (askC n0 n1 n2 P (.slice a0 m0 c0) (.slice a1 m1 c1) (.slice a2 m2 c2) (.slice a3 m3 c3))) := by
  have := run_storeCells_cells (P := Tryd.prog) g 0 (askC n0 n1 n2 P (.slice a0 m0 c0) (.slice a1 m1 c1) (.slice a2 m2 c2) (.slice a3 m3 c3)) 0 w (fun j hj => by
    have hj : j < 10 := hj
    obtain ⟨u, hu⟩ : ∃ u, cs[j]? = some u := ⟨_, List.getElem?_eq_getElem (by omega)⟩
    rw [Nat.zero_add, h.cell j u hu]
    rfl) (fun j hj => h.free _) (fun u hu => by
    simp only [askC, List.mem_cons, List.not_mem_nil, or_false] at hu
    rcases hu with rfl | rfl | rfl | rfl | rfl | rfl | rfl | rfl | rfl | rfl <;> rfl)
  exact this
theorem askC_len (n0 n1 n2 : Nat) (P : Int) (v0 v1 v2 v3 : Value) : (askC n0 n1 n2 P v0 v1 v2 v3).length = 10 := rfl
/-- The four lists of an answer. -/
def Four (w : World) (base : Nat) (v0 v1 v2 v3 : Value) (x o t p : List Nat) : Prop := Own w base v0 x ∧ Own w base v1 o ∧ Own w base v2 t ∧ Own w base v3 p
theorem Four.below {w w' : World} {base : Nat} {v0 v1 v2 v3 : Value} {x o t p : List Nat} (h : Four w base v0 v1 v2 v3 x o t p) (hb : Below w.heap.size w w') : Four w' base v0 v1 v2 v3 x o t p :=
  ⟨h.1.below hb, h.2.1.below hb, h.2.2.1.below hb, h.2.2.2.below hb⟩
theorem Four.frm {S : Nat → Prop} {w w' : World} {base : Nat} {v0 v1 v2 v3 : Value} {x o t p : List Nat} (h : Four w base v0 v1 v2 v3 x o t p) (hf : Frm S w w') (hn : ∀ k, base ≤ k → k < w.heap.size → ¬ S k) : Four w' base v0 v1 v2 v3 x o t p :=
  ⟨h.1.frm hf (fun k hk => hn k (World.ownsRow.lt h.1 k hk).1 (World.ownsRow.lt h.1 k hk).2), h.2.1.frm hf (fun k hk => hn k (World.ownsRow.lt h.2.1 k hk).1 (World.ownsRow.lt h.2.1 k hk).2), h.2.2.1.frm hf (fun k hk => hn k (World.ownsRow.lt h.2.2.1 k hk).1 (World.ownsRow.lt h.2.2.1 k hk).2), h.2.2.2.frm hf (fun k hk => hn k (World.ownsRow.lt h.2.2.2 k hk).1 (World.ownsRow.lt h.2.2.2 k hk).2)⟩
/-- What is asked of the four lists' lengths and bytes. -/
def Sm4 (x o t p : List Nat) : Prop := (x.length ≤ 140737488354100 ∧ ∀ c ∈ x, c < 256) ∧ (o.length ≤ 140737488354100 ∧ ∀ c ∈ o, c < 256) ∧ (t.length ≤ 140737488354100 ∧ ∀ c ∈ t, c < 256) ∧ (p.length ≤ 140737488354100 ∧ ∀ c ∈ p, c < 256)
theorem own_sh {w : World} {base : Nat} {v : Value} {l : List Nat} (h : Own w base v l) (hm : l.length ≤ 140737488354100 ∧ ∀ c ∈ l, c < 256) : Sh w v l := by
  obtain ⟨a, c, e, hb⟩ := h.shown (by have := hm.1; omega) hm.2
  exact ⟨a, c, e, hb⟩
theorem like_own {w : World} {b1 b2 : Nat} {x o t p : List Nat} (n0 n1 n2 : Nat) (P : Int) (v0 v1 v2 v3 u0 u1 u2 u3 : Value) (h : Four w b1 v0 v1 v2 v3 x o t p) (k : Four w b2 u0 u1 u2 u3 x o t p) (hs : Sm4 x o t p) :
    Calls Tryd.prog 14 #[.agg #[.int .u32 (n0 : Int), .int .u32 (n1 : Int), .int .u32 (n2 : Int), .int .u32 0, .int .u32 0, .int .i64 P, v0, v1, v2, v3], .agg #[.int .u32 (n0 : Int), .int .u32 (n1 : Int), .int .u32 (n2 : Int), .int .u32 0, .int .u32 0, .int .i64 P, u0, u1, u2, u3]] w fun e w' => e = .returned (.bool true) ∧ Below w.heap.size w w' :=
  like_any n0 n1 n2 P v0 v1 v2 v3 u0 u1 u2 u3 x o t p w (own_sh h.1 hs.1) (own_sh h.2.1 hs.2.1) (own_sh h.2.2.1 hs.2.2.1) (own_sh h.2.2.2 hs.2.2.2) (own_sh k.1 hs.1) (own_sh k.2.1 hs.2.1) (own_sh k.2.2.1 hs.2.2.1) (own_sh k.2.2.2 hs.2.2.2)
theorem six_sm {l r : List Nat} {n m : Nat} {pos : Int} {mask : Nat} {o t p : List Nat} {P M : Nat} (h : Six l r n m pos mask o t p P M) (hn : n ≤ 140737488354000) : Sm4 (sealOf l) o t p := by
  have h1 := h.osz
  have h2 := h.tsz
  have h3 := h.psz
  exact ⟨⟨by rw [sealOf_length, h.len]; omega, sealOf_small h.small⟩, ⟨by omega, h1.2⟩, ⟨by omega, h2.2⟩, ⟨by omega, h3.2⟩⟩
theorem xor_u8 (x y : Nat) (hx : x < 256) (hy : y < 256) : ∃ z : Nat, z < 256 ∧ bits .xor .u8 (x : Int) (y : Int) = (z : Int) := by
  have h1 : (BitVec.ofInt 8 (x : Int) ^^^ BitVec.ofInt 8 (y : Int)).toNat < 256 := (BitVec.ofInt 8 (x : Int) ^^^ BitVec.ofInt 8 (y : Int)).isLt
  refine ⟨(BitVec.ofInt 8 (x : Int) ^^^ BitVec.ofInt 8 (y : Int)).toNat, h1, ?_⟩
  show IntKind.u8.wrap ((BitVec.ofInt 8 (x : Int) ^^^ BitVec.ofInt 8 (y : Int)).toNat : Nat) = _
  rw [IntKind.wrap_u8]
  omega
theorem far_cell {v x : Value} {w w' : World} {g off N : Nat} (hf : Frm (fun k => v.ownBlock = some k) w w') (hc : w.cell? ⟨g, off, none⟩ = some x) (hv : ∀ b, v.ownBlock = some b → N ≤ b) (hg : g < N) : w'.cell? ⟨g, off, none⟩ = some x :=
  hf.cell hc (fun e => by have := hv g e; omega)
/-- append of three lists to a list of lists of the call's own, as a step. -/
theorem step_db3 {w : World} {ops : Array Oper} {o : Oper} {act : Act} {K : Act → World → Prop} {Q : Exit → Act → World → Prop} {EE : Prop} (hgd : o.guard = none) (s x : Operand)
    (ho : o.op = .call { callee := .builtin .append, args := #[s, x], argTypes := #[33, 33] })
    (base : Nat) (v : Value) (rs : List JW) (hs : act.eval s = v) (hown : DbOwn w base v rs)
    (gx : Nat) (r1 r2 r3 : JW) (hx : act.eval x = .slice (some ⟨gx, 0, none⟩) 3 3) (x0 : w.cell? ⟨gx, 0, none⟩ = some r1.v) (x1 : w.cell? ⟨gx, 1, none⟩ = some r2.v) (x2 : w.cell? ⟨gx, 2, none⟩ = some r3.v)
    (hr : ∀ r ∈ [r1, r2, r3], Own w base r.v r.l) (hn : ∀ r ∈ [r1, r2, r3], ∀ k, r.v.ownBlock = some k → v.ownBlock ≠ some k) (h63 : rs.length + 3 ≤ 4398046511104) (hbase : base ≤ w.heap.size)
    (h : ∀ v' w', DbOwn w' base v' (rs ++ [r1, r2, r3]) → Frm (fun k => v.ownBlock = some k) w w' → (∀ k, v'.ownBlock = some k → v.ownBlock = some k ∨ w.heap.size ≤ k) → K (act.put o.dst v') w') :
    if Region.wanted o (yielded ops act.tmps) = true then Oper.wp Tryd.prog o act w K Q else EE := by
  obtain ⟨i, z, hi, hz, hsz, hby, hzs⟩ := infoBody
  refine step_append_lies w hgd s x 33 ho base 22 i z 1 24 Tryd.underlying33 hi hz hsz hby hzs (by decide) v rs.length (rs.map JW.v) hs hown.row ⟨gx, 0, none⟩ 3 3 [r1.v, r2.v, r3.v] hx rfl ?_ ?_ (by decide) (by unfold maxLen; omega) (by omega) hbase _ rfl ?_
  · intro j u hu
    rw [add_none, Nat.zero_add]
    match j, hu with
    | 0, hu => simp only [List.getElem?_cons_zero, Option.some.injEq] at hu; rw [← hu]; exact x0
    | 1, hu => simp only [List.getElem?_cons_succ, List.getElem?_cons_zero, Option.some.injEq] at hu; rw [← hu]; exact x1
    | 2, hu => simp only [List.getElem?_cons_succ, List.getElem?_cons_zero, Option.some.injEq] at hu; rw [← hu]; exact x2
    | j + 3, hu => simp at hu
  · intro u hu
    simp only [List.mem_cons, List.not_mem_nil, or_false] at hu
    rcases hu with rfl | rfl | rfl <;> rfl
  · intro g cap w' h1 h2 h3 h4
    have hf := frm_grown h2
    refine h _ w' ⟨?_, ?_, ?_⟩ hf (fun k hk => by
      have hk : some g = some k := hk
      simp only [Option.some.injEq] at hk
      subst hk
      rcases h3 with e | e
      · exact .inl e
      · exact .inr (by omega))
    · rw [List.length_append, List.map_append]
      exact h1
    · intro q hq k hk e
      simp only [Value.ownBlock, Option.some.injEq] at e
      subst e
      rcases List.mem_append.1 hq with hq | hq
      · rcases h3 with h3 | h3
        · exact hown.ne q hq g hk h3
        · have := (World.ownsRow.lt (hown.own q hq) g hk).2
          omega
      · rcases h3 with h3 | h3
        · exact hn q hq g hk h3
        · have := (World.ownsRow.lt (hr q hq) g hk).2
          omega
    · intro q hq
      rcases List.mem_append.1 hq with hq | hq
      · exact (hown.own q hq).frm hf (fun k hk e => hown.ne q hq k hk e)
      · exact (hr q hq).frm hf (fun k hk e => hn q hq k hk e)
end Go.Proofs.YtchmfjendnaflaaDoor
