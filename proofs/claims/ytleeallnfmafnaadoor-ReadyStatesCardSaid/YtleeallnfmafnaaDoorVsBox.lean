/-
  Rows that lie between two blocks; the boxes of a copy under way; its ports.
-/
import Derived.Test.YtleeallnfmafnaaDoorVsOf
import Derived.Test.YtleeallnfmafnaaDoorVsState
namespace Go.Proofs.YtleeallnfmafnaaDoor.Vv
open Go.RowKit FerryCrc
set_option linter.unusedVariables false
set_option linter.unusedSimpArgs false

theorem cellB {w w' : World} {p : Addr} {v : Value} (h : w.cell? p = some v) (hb : Below w.heap.size w w') : w'.cell? p = some v := (hb.cell (block_lt_of_cell h)).trans h
theorem _root_.Go.Proofs.YtleeallnfmafnaaDoor.Row.set_far {w : World} {a : Option Addr} {len cap sz : Nat} {cs : List Value} (h : Row w a len cap sz cs) {p : Addr} (hp : ∀ ad, a = some ad → 0 < len → p.block ≠ ad.block) (u : Value) : Row (w.setCell p u) a len cap sz cs := by
  refine ⟨h.size, h.fit, h.null, fun j v hv => ?_⟩
  obtain ⟨b, off, e, hc⟩ := h.cell j v hv
  have hj : 0 < len := by
    have := (List.getElem?_eq_some_iff.1 hv).1
    rw [h.size] at this
    exact Nat.pos_of_ne_zero fun e => by subst e; simp at this
  refine ⟨b, off, e, ?_⟩
  rw [World.cell?_setCell_other _ _ _ _ (fun e' => hp _ e hj (by rw [e']))]
  exact hc
/-- A row that lies in a block from lo to hi. -/
structure Lg (w : World) (lo hi : Nat) (a : Option Addr) (len cap sz : Nat) (cs : List Value) : Prop where
  row : Row w a len cap sz cs
  at_ : ∀ ad, a = some ad → lo ≤ ad.block ∧ ad.block < hi
theorem Lg.below {w w' : World} {lo hi : Nat} {a : Option Addr} {len cap sz : Nat} {cs : List Value} (h : Lg w lo hi a len cap sz cs) (hb : Below w.heap.size w w') : Lg w' lo hi a len cap sz cs := ⟨h.row.below hb, h.at_⟩
theorem Lg.up {w : World} {lo hi hi' : Nat} {a : Option Addr} {len cap sz : Nat} {cs : List Value} (h : Lg w lo hi a len cap sz cs) (hh : hi ≤ hi') : Lg w lo hi' a len cap sz cs := ⟨h.row, fun ad e => ⟨(h.at_ ad e).1, Nat.lt_of_lt_of_le (h.at_ ad e).2 hh⟩⟩
theorem Lg.set {w : World} {lo hi : Nat} {a : Option Addr} {len cap sz : Nat} {cs : List Value} (h : Lg w lo hi a len cap sz cs) {p : Addr} (hp : p.block < lo ∨ hi ≤ p.block) (u : Value) : Lg (w.setCell p u) lo hi a len cap sz cs :=
  ⟨h.row.set_far (fun ad e _ => by have := h.at_ ad e; omega) u, h.at_⟩
theorem own_lg {w : World} {base : Nat} {e : TypeId} {sz : Nat} {a : Option Addr} {n c : Nat} {cs : List Value} (h : w.ownsRow base e sz (.slice a n c) n cs) : Lg w base w.heap.size a n c sz cs := by
  refine ⟨?_, fun ad e => ?_⟩
  · obtain ⟨a', c', e, hr⟩ := RLk.row (.inl h)
    simp only [Value.slice.injEq, true_and] at e
    obtain ⟨rfl, rfl⟩ := e
    exact hr
  · subst e
    exact h.lt _ rfl
theorem Kr.at_ {w w' : World} {t : TypeId} {sz byt : Nat} {a a' : Option Addr} {len cap cap' : Nat} {cs : List Value} {K : List (List Lit)} (h : Kr w t sz byt a len cap cs K) (hr : Row w' a' len cap' sz cs) : Kr w' t sz byt a' len cap' cs K := ⟨hr, h.size, h.most, h.one, h.keys⟩

/-- The boxes of a copy under way (the state's, the table's, the answer's), and the rows that were made. -/
structure Io (w0 w : World) (X : Nat) (C T : List Value) (R : List (Option Addr × Nat × Nat × Nat × List Value)) : Prop where
  low : Below w0.heap.size w0 w
  room : w0.heap.size + 3 ≤ X
  top : X ≤ w.heap.size
  st : Bl w w0.heap.size C
  tb : Bl w (w0.heap.size + 1) T
  an : Bl w (w0.heap.size + 1 + 1) [.int .i64 0, .int .i64 0, .int .i64 0, .slice none 0 0, .slice none 0 0, .slice none 0 0, .slice none 0 0, .slice none 0 0, .slice none 0 0, .slice none 0 0]
  all : ∀ r ∈ R, Lg w (w0.heap.size + 3) X r.1 r.2.1 r.2.2.1 r.2.2.2.1 r.2.2.2.2
theorem Io.call {w0 w w' : World} {X : Nat} {C T : List Value} {R : List (Option Addr × Nat × Nat × Nat × List Value)} (h : Io w0 w X C T R) (hb : Below w.heap.size w w') : Io w0 w' X C T R := by
  have h1 := h.room
  have h2 := h.top
  have h3 := hb.size
  exact ⟨h.low.trans (hb.mono h.low.size), h1, by omega, h.st.below (by omega) hb, h.tb.below (by omega) hb, h.an.below (by omega) hb, fun r hr => (h.all r hr).below hb⟩
theorem Io.up {w0 w : World} {X X' : Nat} {C T : List Value} {R : List (Option Addr × Nat × Nat × Nat × List Value)} (h : Io w0 w X C T R) (h1 : X ≤ X') (h2 : X' ≤ w.heap.size) : Io w0 w X' C T R :=
  ⟨h.low, Nat.le_trans h.room h1, h2, h.st, h.tb, h.an, fun r hr => (h.all r hr).up h1⟩
theorem Io.more {w0 w w' : World} {X : Nat} {C T : List Value} {R : List (Option Addr × Nat × Nat × Nat × List Value)} (h : Io w0 w X C T R) (hb : Below w.heap.size w w') {e : TypeId} {sz n c : Nat} {a : Option Addr} {cs : List Value} (ho : w'.ownsRow w.heap.size e sz (.slice a n c) n cs) : Io w0 w' w'.heap.size C T ((a, n, c, sz, cs) :: R) := by
  have h1 := h.call hb
  have h2 := h1.up h1.top (Nat.le_refl _)
  have h3 := h.room
  have h4 := h.top
  refine ⟨h2.low, h2.room, h2.top, h2.st, h2.tb, h2.an, fun r hr => ?_⟩
  rcases List.mem_cons.1 hr with rfl | hr
  · have := own_lg ho
    exact ⟨this.row, fun ad e => ⟨Nat.le_trans (by omega) (this.at_ ad e).1, (this.at_ ad e).2⟩⟩
  · exact h2.all r hr
theorem Io.add {w0 w : World} {C T : List Value} {R : List (Option Addr × Nat × Nat × Nat × List Value)} (h : Io w0 w w.heap.size C T R) {e : TypeId} {base sz n c : Nat} {a : Option Addr} {cs : List Value} (ho : w.ownsRow base e sz (.slice a n c) n cs) (hb : w0.heap.size + 3 ≤ base) : Io w0 w w.heap.size C T ((a, n, c, sz, cs) :: R) := by
  refine ⟨h.low, h.room, h.top, h.st, h.tb, h.an, fun r hr => ?_⟩
  rcases List.mem_cons.1 hr with rfl | hr
  · have := own_lg ho
    exact ⟨this.row, fun ad e => ⟨Nat.le_trans hb (this.at_ ad e).1, (this.at_ ad e).2⟩⟩
  · exact h.all r hr
theorem Io.drew {w0 w : World} {X : Nat} {C T : List Value} {R : List (Option Addr × Nat × Nat × Nat × List Value)} (h : Io w0 w X C T R) : Io w0 w.drew X C T R := h.call (Below.refl _ _).drew
theorem Io.state {w0 w : World} {X : Nat} {C T : List Value} {R : List (Option Addr × Nat × Nat × Nat × List Value)} (h : Io w0 w X C T R) {k : Nat} (hk : k < C.length) (u : Value) : Io w0 (w.setCell ⟨w0.heap.size, k, none⟩ u) X (C.set k u) T R := by
  have h1 := h.room
  have h2 := h.top
  exact ⟨h.low.setCell (p := ⟨w0.heap.size, k, none⟩) (Nat.le_refl _) u, h1, by simpa [World.setCell] using h2, h.st.set hk u, h.tb.far (by omega), h.an.far (by omega), fun r hr => (h.all r hr).set (p := ⟨w0.heap.size, k, none⟩) (.inl (by show w0.heap.size < _; omega)) u⟩
theorem Io.table {w0 w : World} {X : Nat} {C T : List Value} {R : List (Option Addr × Nat × Nat × Nat × List Value)} (h : Io w0 w X C T R) {k : Nat} (hk : k < T.length) (u : Value) : Io w0 (w.setCell ⟨w0.heap.size + 1, k, none⟩ u) X C (T.set k u) R := by
  have h1 := h.room
  have h2 := h.top
  exact ⟨h.low.setCell (p := ⟨w0.heap.size + 1, k, none⟩) (by show w0.heap.size ≤ w0.heap.size + 1; omega) u, h1, by simpa [World.setCell] using h2, h.st.far (by omega), h.tb.set hk u, h.an.far (by omega), fun r hr => (h.all r hr).set (p := ⟨w0.heap.size + 1, k, none⟩) (.inl (by show w0.heap.size + 1 < _; omega)) u⟩
theorem Io.far {w0 w : World} {X : Nat} {C T : List Value} {R : List (Option Addr × Nat × Nat × Nat × List Value)} (h : Io w0 w X C T R) {p : Addr} (hp : X ≤ p.block) (u : Value) : Io w0 (w.setCell p u) X C T R := by
  have h1 := h.room
  have h2 := h.top
  obtain ⟨b, o, q⟩ := p
  have hp' : X ≤ b := hp
  refine ⟨h.low.setCell (by show w0.heap.size ≤ b; omega) u, h1, by simpa [World.setCell] using h2, ?_, ?_, ?_, fun r hr => (h.all r hr).set (.inr hp) u⟩
  · exact ⟨fun j v hv => by rw [World.cell?_setCell_other _ _ _ _ (fun e => by injection e; omega)]; exact h.st.cell j v hv, fun j => by rw [World.frozen?_setCell]; exact h.st.free j⟩
  · exact ⟨fun j v hv => by rw [World.cell?_setCell_other _ _ _ _ (fun e => by injection e; omega)]; exact h.tb.cell j v hv, fun j => by rw [World.frozen?_setCell]; exact h.tb.free j⟩
  · exact ⟨fun j v hv => by rw [World.cell?_setCell_other _ _ _ _ (fun e => by injection e; omega)]; exact h.an.cell j v hv, fun j => by rw [World.frozen?_setCell]; exact h.an.free j⟩

theorem _root_.Go.Proofs.YtleeallnfmafnaaDoor.Row.same {w W : World} {a : Option Addr} {len cap sz : Nat} {cs : List Value} (h : Row w a len cap sz cs) (hw : ∀ ad, a = some ad → 0 < len → W.heap[ad.block]? = w.heap[ad.block]?) : Row W a len cap sz cs := by
  refine ⟨h.size, h.fit, h.null, fun j v hv => ?_⟩
  obtain ⟨b, off, e, hc⟩ := h.cell j v hv
  have hj : 0 < len := by
    have := (List.getElem?_eq_some_iff.1 hv).1
    rw [h.size] at this
    exact Nat.pos_of_ne_zero fun e => by subst e; simp at this
  exact ⟨b, off, e, (World.cell?_of_block (w := w) (a := ⟨b, off + j, none⟩) (hw ⟨b, off, none⟩ e hj)).trans hc⟩
theorem Lg.same {w W : World} {lo hi B : Nat} {a : Option Addr} {len cap sz : Nat} {cs : List Value} (h : Lg w lo hi a len cap sz cs) (hB : B ≤ lo) (hw : ∀ b, B ≤ b → W.heap[b]? = w.heap[b]?) : Row W a len cap sz cs :=
  h.row.same fun ad e _ => hw _ (Nat.le_trans hB (h.at_ ad e).1)
/-- The ports of a copy under way: their row is the call's own, each list of texts lies below lo (from number i on) or from M on. -/
def Lp (w : World) (lo M base i : Nat) (v : Value) (n : Nat) (L : List (Int × List (List Lit))) : Prop :=
  ∃ CS, w.ownsRow base 46 2 v n CS ∧ (∀ u ∈ CS, u.oneCell' = true) ∧ L.length = n ∧ n * 32 ≤ 140737488355328 ∧ ∀ k p, L[k]? = some p → ∃ x m d rs, CS[k * 2]? = some (.slice x m d) ∧ CS[k * 2 + 1]? = some (.int .i64 p.1) ∧ Kr w 9 1 16 x m d rs p.2 ∧ ∀ ad, x = some ad → 0 < m → (ad.block < lo ∧ i ≤ k) ∨ M ≤ ad.block
theorem Lp.below {w w' : World} {lo M base i : Nat} {v : Value} {n : Nat} {L : List (Int × List (List Lit))} (h : Lp w lo M base i v n L) (hb : Below w.heap.size w w') : Lp w' lo M base i v n L := by
  obtain ⟨CS, h1, h2, h3, h4, h5⟩ := h
  refine ⟨CS, ownsRow_below h1 hb, h2, h3, h4, fun k p hp => ?_⟩
  obtain ⟨x, m, d, rs, g1, g2, g3, g4⟩ := h5 k p hp
  exact ⟨x, m, d, rs, g1, g2, g3.below hb, g4⟩
theorem Lp.box {w : World} {lo M base i : Nat} {v : Value} {n : Nat} {L : List (Int × List (List Lit))} (h : Lp w lo M base i v n L) {p : Addr} (h1 : lo ≤ p.block) (h2 : p.block < base) (h3 : base ≤ M) (u : Value) : Lp (w.setCell p u) lo M base i v n L := by
  obtain ⟨CS, q1, q2, q3, q4, q5⟩ := h
  refine ⟨CS, ownsRow_setCell_below q1 h2 u, q2, q3, q4, fun k p hp => ?_⟩
  obtain ⟨x, m, d, rs, g1, g2, g3, g4⟩ := q5 k p hp
  exact ⟨x, m, d, rs, g1, g2, g3.at_ (g3.row.set_far (fun ad e hm => by have := g4 ad e hm; omega) u), g4⟩
theorem Lp.put {w : World} {lo M base : Nat} {g n c : Nat} {L : List (Int × List (List Lit))} {k : Nat} (h : Lp w lo M base k (.slice (some ⟨g, 0, none⟩) n c) n L) (h1 : lo ≤ base) (h2 : g < M) {p : Int × List (List Lit)} (hp : L[k]? = some p) {x : Option Addr} {m d : Nat} {rs : List Value} (hk : Kr w 9 1 16 x m d rs p.2) (hx : ∀ ad, x = some ad → M ≤ ad.block) : Lp (w.setCell ⟨g, k * 2, none⟩ (.slice x m d)) lo M base (k + 1) (.slice (some ⟨g, 0, none⟩) n c) n L := by
  obtain ⟨CS, q1, q2, q3, q4, q5⟩ := h
  have hg : base ≤ g := (q1.lt g rfl).1
  have hkn : k < n := by rw [← q3]; exact (List.getElem?_eq_some_iff.1 hp).1
  have hlen : k * 2 < CS.length := by rw [q1.1]; omega
  refine ⟨CS.set (k * 2) (.slice x m d), (q1.stored (k * 2) _).1, fun u hu => ?_, q3, q4, fun j q hq => ?_⟩
  · rcases List.mem_or_eq_of_mem_set hu with hu | rfl
    · exact q2 u hu
    · rfl
  · obtain ⟨x', m', d', rs', g1, g2, g3, g4⟩ := q5 j q hq
    by_cases hj : j = k
    · subst hj
      obtain rfl : p = q := Option.some.inj (hp.symm.trans hq)
      refine ⟨x, m, d, rs, by simp [hlen], ?_, hk.at_ (hk.row.set_far (fun ad e _ => by have := hx ad e; show g ≠ _; omega) _), fun ad e _ => .inr (hx ad e)⟩
      rw [List.getElem?_set_ne (by omega)]
      exact g2
    · refine ⟨x', m', d', rs', ?_, ?_, g3.at_ (g3.row.set_far (fun ad e hm => by have := g4 ad e hm; show g ≠ _; omega) _), fun ad e hm => by have := g4 ad e hm; omega⟩
      · rw [List.getElem?_set_ne (by omega)]
        exact g1
      · rw [List.getElem?_set_ne (by omega)]
        exact g2
theorem Lp.pr2 {w W : World} {lo M base B : Nat} {a : Option Addr} {n c : Nat} {L : List (Int × List (List Lit))} (h : Lp w lo M base n (.slice a n c) n L) (h1 : B ≤ base) (h2 : B ≤ M) (hw : ∀ b, B ≤ b → W.heap[b]? = w.heap[b]?) : ∃ cs, Pr2 W a n c cs L := by
  obtain ⟨CS, q1, q2, q3, q4, q5⟩ := h
  refine ⟨CS, (own_lg q1).same h1 hw, q3, q4, q2, fun k p hp => ?_⟩
  obtain ⟨x, m, d, rs, g1, g2, g3, g4⟩ := q5 k p hp
  have hk : k < n := by rw [← q3]; exact (List.getElem?_eq_some_iff.1 hp).1
  exact ⟨x, m, d, rs, g1, g2, g3.at_ (g3.row.same fun ad e hm => hw _ (by have := g4 ad e hm; omega))⟩
/-- The clone of a list of ports. -/
theorem lp_clone {w w' : World} {M : Nat} {a : Option Addr} {n c : Nat} {cs : List Value} {L : List (Int × List (List Lit))} (h : Pr2 w a n c cs L) (hb : Below w.heap.size w w') {base : Nat} {v : Value} (hv : w'.ownsRow base 46 2 v n cs) : Lp w' w.heap.size M base 0 v n L := by
  refine ⟨cs, hv, h.one, h.size, h.most, fun k p hp => ?_⟩
  obtain ⟨x, m, d, rs, g1, g2, g3⟩ := h.keys k p hp
  refine ⟨x, m, d, rs, g1, g2, g3.below hb, fun ad e hm => .inl ⟨?_, Nat.zero_le _⟩⟩
  subst e
  have hr : 0 < rs.length := by rw [g3.row.size]; omega
  obtain ⟨b, off, e, hc⟩ := g3.row.cell 0 _ (List.getElem?_eq_getElem hr)
  simp only [Option.some.injEq] at e
  subst e
  exact block_lt_of_cell hc
/-- A state whose lists all lie from block lo on. -/
def Srf (lo : Nat) (w : World) (cs : List Value) (s : Sk) : Prop := ∀ W, (∀ b, lo ≤ b → W.heap[b]? = w.heap[b]?) → Sr W cs s
theorem Srf.sr {lo : Nat} {w : World} {cs : List Value} {s : Sk} (h : Srf lo w cs s) : Sr w cs s := h w fun _ _ => rfl
theorem Srf.set {lo : Nat} {w : World} {cs : List Value} {s : Sk} (h : Srf lo w cs s) {p : Addr} (hp : p.block < lo) (u : Value) : Srf lo (w.setCell p u) cs s := fun W hW => h W fun b hb => (hW b hb).trans (Below.heap_setCell _ _ _ _ (by omega))
/-- A store into the answer's box. -/
theorem Io.ans {w0 w : World} {X : Nat} {C T A : List Value} {R : List (Option Addr × Nat × Nat × Nat × List Value)} (hlow : Below w0.heap.size w0 w) (hroom : w0.heap.size + 3 ≤ X) (hA : Bl w (w0.heap.size + 1 + 1) A) (hall : ∀ r ∈ R, Lg w (w0.heap.size + 3) X r.1 r.2.1 r.2.2.1 r.2.2.2.1 r.2.2.2.2) {k : Nat} (hk : k < A.length) (u : Value) :
    Below w0.heap.size w0 (w.setCell ⟨w0.heap.size + 1 + 1, k, none⟩ u) ∧ Bl (w.setCell ⟨w0.heap.size + 1 + 1, k, none⟩ u) (w0.heap.size + 1 + 1) (A.set k u) ∧ ∀ r ∈ R, Lg (w.setCell ⟨w0.heap.size + 1 + 1, k, none⟩ u) (w0.heap.size + 3) X r.1 r.2.1 r.2.2.1 r.2.2.2.1 r.2.2.2.2 :=
  ⟨hlow.setCell (p := ⟨w0.heap.size + 1 + 1, k, none⟩) (by show w0.heap.size ≤ w0.heap.size + 1 + 1; omega) u, hA.set hk u, fun r hr => (hall r hr).set (p := ⟨w0.heap.size + 1 + 1, k, none⟩) (.inl (by show w0.heap.size + 1 + 1 < _; omega)) u⟩
theorem into_end {w0 w : World} {X Y hi M : Nat} {C T : List Value} {R : List (Option Addr × Nat × Nat × Nat × List Value)} (h : Io w0 w X C T R) {ip : Nat} {vp : Value} {n8 : Nat} {L : List (Int × List (List Lit))} (hL : Lp w w0.heap.size M X ip vp n8 L) {x9 : Option Addr} {n9 y9 : Nat} {r9 : List Value} (h9 : Lg w Y hi x9 n9 y9 66 r9) (hX : w0.heap.size + 3 ≤ X) (hY : w0.heap.size + 3 ≤ Y) (hM : X ≤ M) (v0 v1 v2 v3 v4 v5 v6 v7 v8 v9 : Value) :
    Below w0.heap.size w0 ((((((((((w.setCell ⟨w0.heap.size + 1 + 1, 0, none⟩ v0).setCell ⟨w0.heap.size + 1 + 1, 1, none⟩ v1).setCell ⟨w0.heap.size + 1 + 1, 2, none⟩ v2).setCell ⟨w0.heap.size + 1 + 1, 3, none⟩ v3).setCell ⟨w0.heap.size + 1 + 1, 4, none⟩ v4).setCell ⟨w0.heap.size + 1 + 1, 5, none⟩ v5).setCell ⟨w0.heap.size + 1 + 1, 6, none⟩ v6).setCell ⟨w0.heap.size + 1 + 1, 7, none⟩ v7).setCell ⟨w0.heap.size + 1 + 1, 8, none⟩ v8).setCell ⟨w0.heap.size + 1 + 1, 9, none⟩ v9) ∧ Bl ((((((((((w.setCell ⟨w0.heap.size + 1 + 1, 0, none⟩ v0).setCell ⟨w0.heap.size + 1 + 1, 1, none⟩ v1).setCell ⟨w0.heap.size + 1 + 1, 2, none⟩ v2).setCell ⟨w0.heap.size + 1 + 1, 3, none⟩ v3).setCell ⟨w0.heap.size + 1 + 1, 4, none⟩ v4).setCell ⟨w0.heap.size + 1 + 1, 5, none⟩ v5).setCell ⟨w0.heap.size + 1 + 1, 6, none⟩ v6).setCell ⟨w0.heap.size + 1 + 1, 7, none⟩ v7).setCell ⟨w0.heap.size + 1 + 1, 8, none⟩ v8).setCell ⟨w0.heap.size + 1 + 1, 9, none⟩ v9) (w0.heap.size + 1 + 1) [v0, v1, v2, v3, v4, v5, v6, v7, v8, v9] ∧ (∀ r ∈ R, Lg ((((((((((w.setCell ⟨w0.heap.size + 1 + 1, 0, none⟩ v0).setCell ⟨w0.heap.size + 1 + 1, 1, none⟩ v1).setCell ⟨w0.heap.size + 1 + 1, 2, none⟩ v2).setCell ⟨w0.heap.size + 1 + 1, 3, none⟩ v3).setCell ⟨w0.heap.size + 1 + 1, 4, none⟩ v4).setCell ⟨w0.heap.size + 1 + 1, 5, none⟩ v5).setCell ⟨w0.heap.size + 1 + 1, 6, none⟩ v6).setCell ⟨w0.heap.size + 1 + 1, 7, none⟩ v7).setCell ⟨w0.heap.size + 1 + 1, 8, none⟩ v8).setCell ⟨w0.heap.size + 1 + 1, 9, none⟩ v9) (w0.heap.size + 3) X r.1 r.2.1 r.2.2.1 r.2.2.2.1 r.2.2.2.2) ∧ Lp ((((((((((w.setCell ⟨w0.heap.size + 1 + 1, 0, none⟩ v0).setCell ⟨w0.heap.size + 1 + 1, 1, none⟩ v1).setCell ⟨w0.heap.size + 1 + 1, 2, none⟩ v2).setCell ⟨w0.heap.size + 1 + 1, 3, none⟩ v3).setCell ⟨w0.heap.size + 1 + 1, 4, none⟩ v4).setCell ⟨w0.heap.size + 1 + 1, 5, none⟩ v5).setCell ⟨w0.heap.size + 1 + 1, 6, none⟩ v6).setCell ⟨w0.heap.size + 1 + 1, 7, none⟩ v7).setCell ⟨w0.heap.size + 1 + 1, 8, none⟩ v8).setCell ⟨w0.heap.size + 1 + 1, 9, none⟩ v9) w0.heap.size M X ip vp n8 L ∧ Lg ((((((((((w.setCell ⟨w0.heap.size + 1 + 1, 0, none⟩ v0).setCell ⟨w0.heap.size + 1 + 1, 1, none⟩ v1).setCell ⟨w0.heap.size + 1 + 1, 2, none⟩ v2).setCell ⟨w0.heap.size + 1 + 1, 3, none⟩ v3).setCell ⟨w0.heap.size + 1 + 1, 4, none⟩ v4).setCell ⟨w0.heap.size + 1 + 1, 5, none⟩ v5).setCell ⟨w0.heap.size + 1 + 1, 6, none⟩ v6).setCell ⟨w0.heap.size + 1 + 1, 7, none⟩ v7).setCell ⟨w0.heap.size + 1 + 1, 8, none⟩ v8).setCell ⟨w0.heap.size + 1 + 1, 9, none⟩ v9) Y hi x9 n9 y9 66 r9 := by
  have a0 := h.low
  have b0 := h.an
  have c0 := h.all
  have l0 := hL
  have q0 := h9
  obtain ⟨a1, b1, c1⟩ := Io.ans (C := C) (T := T) a0 hX b0 c0 (k := 0) (by simp) v0
  have l1 := l0.box (p := ⟨w0.heap.size + 1 + 1, 0, none⟩) (by show w0.heap.size ≤ w0.heap.size + 1 + 1; omega) (by show w0.heap.size + 1 + 1 < X; omega) hM v0
  have q1 := q0.set (p := ⟨w0.heap.size + 1 + 1, 0, none⟩) (.inl (by show w0.heap.size + 1 + 1 < Y; omega)) v0
  obtain ⟨a2, b2, c2⟩ := Io.ans (C := C) (T := T) a1 hX b1 c1 (k := 1) (by simp) v1
  have l2 := l1.box (p := ⟨w0.heap.size + 1 + 1, 1, none⟩) (by show w0.heap.size ≤ w0.heap.size + 1 + 1; omega) (by show w0.heap.size + 1 + 1 < X; omega) hM v1
  have q2 := q1.set (p := ⟨w0.heap.size + 1 + 1, 1, none⟩) (.inl (by show w0.heap.size + 1 + 1 < Y; omega)) v1
  obtain ⟨a3, b3, c3⟩ := Io.ans (C := C) (T := T) a2 hX b2 c2 (k := 2) (by simp) v2
  have l3 := l2.box (p := ⟨w0.heap.size + 1 + 1, 2, none⟩) (by show w0.heap.size ≤ w0.heap.size + 1 + 1; omega) (by show w0.heap.size + 1 + 1 < X; omega) hM v2
  have q3 := q2.set (p := ⟨w0.heap.size + 1 + 1, 2, none⟩) (.inl (by show w0.heap.size + 1 + 1 < Y; omega)) v2
  obtain ⟨a4, b4, c4⟩ := Io.ans (C := C) (T := T) a3 hX b3 c3 (k := 3) (by simp) v3
  have l4 := l3.box (p := ⟨w0.heap.size + 1 + 1, 3, none⟩) (by show w0.heap.size ≤ w0.heap.size + 1 + 1; omega) (by show w0.heap.size + 1 + 1 < X; omega) hM v3
  have q4 := q3.set (p := ⟨w0.heap.size + 1 + 1, 3, none⟩) (.inl (by show w0.heap.size + 1 + 1 < Y; omega)) v3
  obtain ⟨a5, b5, c5⟩ := Io.ans (C := C) (T := T) a4 hX b4 c4 (k := 4) (by simp) v4
  have l5 := l4.box (p := ⟨w0.heap.size + 1 + 1, 4, none⟩) (by show w0.heap.size ≤ w0.heap.size + 1 + 1; omega) (by show w0.heap.size + 1 + 1 < X; omega) hM v4
  have q5 := q4.set (p := ⟨w0.heap.size + 1 + 1, 4, none⟩) (.inl (by show w0.heap.size + 1 + 1 < Y; omega)) v4
  obtain ⟨a6, b6, c6⟩ := Io.ans (C := C) (T := T) a5 hX b5 c5 (k := 5) (by simp) v5
  have l6 := l5.box (p := ⟨w0.heap.size + 1 + 1, 5, none⟩) (by show w0.heap.size ≤ w0.heap.size + 1 + 1; omega) (by show w0.heap.size + 1 + 1 < X; omega) hM v5
  have q6 := q5.set (p := ⟨w0.heap.size + 1 + 1, 5, none⟩) (.inl (by show w0.heap.size + 1 + 1 < Y; omega)) v5
  obtain ⟨a7, b7, c7⟩ := Io.ans (C := C) (T := T) a6 hX b6 c6 (k := 6) (by simp) v6
  have l7 := l6.box (p := ⟨w0.heap.size + 1 + 1, 6, none⟩) (by show w0.heap.size ≤ w0.heap.size + 1 + 1; omega) (by show w0.heap.size + 1 + 1 < X; omega) hM v6
  have q7 := q6.set (p := ⟨w0.heap.size + 1 + 1, 6, none⟩) (.inl (by show w0.heap.size + 1 + 1 < Y; omega)) v6
  obtain ⟨a8, b8, c8⟩ := Io.ans (C := C) (T := T) a7 hX b7 c7 (k := 7) (by simp) v7
  have l8 := l7.box (p := ⟨w0.heap.size + 1 + 1, 7, none⟩) (by show w0.heap.size ≤ w0.heap.size + 1 + 1; omega) (by show w0.heap.size + 1 + 1 < X; omega) hM v7
  have q8 := q7.set (p := ⟨w0.heap.size + 1 + 1, 7, none⟩) (.inl (by show w0.heap.size + 1 + 1 < Y; omega)) v7
  obtain ⟨a9, b9, c9⟩ := Io.ans (C := C) (T := T) a8 hX b8 c8 (k := 8) (by simp) v8
  have l9 := l8.box (p := ⟨w0.heap.size + 1 + 1, 8, none⟩) (by show w0.heap.size ≤ w0.heap.size + 1 + 1; omega) (by show w0.heap.size + 1 + 1 < X; omega) hM v8
  have q9 := q8.set (p := ⟨w0.heap.size + 1 + 1, 8, none⟩) (.inl (by show w0.heap.size + 1 + 1 < Y; omega)) v8
  obtain ⟨a10, b10, c10⟩ := Io.ans (C := C) (T := T) a9 hX b9 c9 (k := 9) (by simp) v9
  have l10 := l9.box (p := ⟨w0.heap.size + 1 + 1, 9, none⟩) (by show w0.heap.size ≤ w0.heap.size + 1 + 1; omega) (by show w0.heap.size + 1 + 1 < X; omega) hM v9
  have q10 := q9.set (p := ⟨w0.heap.size + 1 + 1, 9, none⟩) (.inl (by show w0.heap.size + 1 + 1 < Y; omega)) v9
  exact ⟨a10, b10, c10, l10, q10⟩
/-- Ten stores into one box. -/
theorem ten_sets {w0 w : World} {B g : Nat} {A : List Value} (hb : Below B w0 w) (hg : B ≤ g) (hA : Bl w g A) (hl : A.length = 10) (v0 v1 v2 v3 v4 v5 v6 v7 v8 v9 : Value) :
    Below B w0 ((((((((((w.setCell ⟨g, 0, none⟩ v0).setCell ⟨g, 1, none⟩ v1).setCell ⟨g, 2, none⟩ v2).setCell ⟨g, 3, none⟩ v3).setCell ⟨g, 4, none⟩ v4).setCell ⟨g, 5, none⟩ v5).setCell ⟨g, 6, none⟩ v6).setCell ⟨g, 7, none⟩ v7).setCell ⟨g, 8, none⟩ v8).setCell ⟨g, 9, none⟩ v9) ∧ Bl ((((((((((w.setCell ⟨g, 0, none⟩ v0).setCell ⟨g, 1, none⟩ v1).setCell ⟨g, 2, none⟩ v2).setCell ⟨g, 3, none⟩ v3).setCell ⟨g, 4, none⟩ v4).setCell ⟨g, 5, none⟩ v5).setCell ⟨g, 6, none⟩ v6).setCell ⟨g, 7, none⟩ v7).setCell ⟨g, 8, none⟩ v8).setCell ⟨g, 9, none⟩ v9) g [v0, v1, v2, v3, v4, v5, v6, v7, v8, v9] ∧ (∀ b, b ≠ g → ((((((((((w.setCell ⟨g, 0, none⟩ v0).setCell ⟨g, 1, none⟩ v1).setCell ⟨g, 2, none⟩ v2).setCell ⟨g, 3, none⟩ v3).setCell ⟨g, 4, none⟩ v4).setCell ⟨g, 5, none⟩ v5).setCell ⟨g, 6, none⟩ v6).setCell ⟨g, 7, none⟩ v7).setCell ⟨g, 8, none⟩ v8).setCell ⟨g, 9, none⟩ v9).heap[b]? = w.heap[b]?) ∧ ((((((((((w.setCell ⟨g, 0, none⟩ v0).setCell ⟨g, 1, none⟩ v1).setCell ⟨g, 2, none⟩ v2).setCell ⟨g, 3, none⟩ v3).setCell ⟨g, 4, none⟩ v4).setCell ⟨g, 5, none⟩ v5).setCell ⟨g, 6, none⟩ v6).setCell ⟨g, 7, none⟩ v7).setCell ⟨g, 8, none⟩ v8).setCell ⟨g, 9, none⟩ v9).heap.size = w.heap.size := by
  match A, hl with
  | [x0, x1, x2, x3, x4, x5, x6, x7, x8, x9], _ =>
    refine ⟨?_, ?_, fun b h => ?_, by simp [World.setCell]⟩
    · exact (((((((((hb.setCell (p := ⟨g, 0, none⟩) hg v0).setCell (p := ⟨g, 1, none⟩) hg v1).setCell (p := ⟨g, 2, none⟩) hg v2).setCell (p := ⟨g, 3, none⟩) hg v3).setCell (p := ⟨g, 4, none⟩) hg v4).setCell (p := ⟨g, 5, none⟩) hg v5).setCell (p := ⟨g, 6, none⟩) hg v6).setCell (p := ⟨g, 7, none⟩) hg v7).setCell (p := ⟨g, 8, none⟩) hg v8).setCell (p := ⟨g, 9, none⟩) hg v9
    · exact (((((((((hA.set (k := 0) (by simp) v0).set (k := 1) (by simp) v1).set (k := 2) (by simp) v2).set (k := 3) (by simp) v3).set (k := 4) (by simp) v4).set (k := 5) (by simp) v5).set (k := 6) (by simp) v6).set (k := 7) (by simp) v7).set (k := 8) (by simp) v8).set (k := 9) (by simp) v9
    · rw [Below.heap_setCell _ _ _ _ h, Below.heap_setCell _ _ _ _ h, Below.heap_setCell _ _ _ _ h, Below.heap_setCell _ _ _ _ h, Below.heap_setCell _ _ _ _ h, Below.heap_setCell _ _ _ _ h, Below.heap_setCell _ _ _ _ h, Below.heap_setCell _ _ _ _ h, Below.heap_setCell _ _ _ _ h, Below.heap_setCell _ _ _ _ h]
end Go.Proofs.YtleeallnfmafnaaDoor.Vv
