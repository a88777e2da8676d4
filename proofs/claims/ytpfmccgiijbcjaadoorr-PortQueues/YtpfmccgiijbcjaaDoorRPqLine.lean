/-
  A line of strings that is cut at its begin and grown at its end, in its own memory.
-/
import Derived.Test.YtpfmccgiijbcjaaDoorRPtGet
namespace Go.Proofs.YtpfmccgiijbcjaaDoorR
open Go.RowKit
set_option linter.unusedVariables false
set_option linter.unusedSimpArgs false

/-- A line: empty, or in a block of its own, anywhere in it. -/
def Ln (w : World) (base : Nat) (v : Value) (l : List ByteArray) : Prop :=
  (l = [] ∧ ∃ a, v = .slice a 0 0) ∨ ∃ g off cap cur, v = .slice (some ⟨g, off, none⟩) l.length cap ∧ base ≤ g ∧ w.heap[g]? = some (.cells cur 9 (0, 0)) ∧ off + cap ≤ cur.size ∧ l.length ≤ cap ∧ cap ≤ 9223372036854775807 ∧ ∀ j s, l[j]? = some s → cur[off + j]? = some (.string s)
theorem Ln.below {w w' : World} {base : Nat} {v : Value} {l : List ByteArray} (h : Ln w base v l) (hb : Below w.heap.size w w') : Ln w' base v l := by
  rcases h with h | ⟨g, off, cap, cur, e, hg, hh, r⟩
  · exact .inl h
  · exact .inr ⟨g, off, cap, cur, e, hg, by rw [hb.block g (Array.getElem?_eq_some_iff.1 hh).1]; exact hh, r⟩
theorem Ln.setCell {w : World} {base : Nat} {v : Value} {l : List ByteArray} (h : Ln w base v l) {p : Addr} (hp : p.block < base) (u : Value) : Ln (w.setCell p u) base v l := by
  rcases h with h | ⟨g, off, cap, cur, e, hg, hh, r⟩
  · exact .inl h
  · exact .inr ⟨g, off, cap, cur, e, hg, by rw [Below.heap_setCell _ _ _ _ (by omega)]; exact hh, r⟩
theorem Ln.slice {w : World} {base : Nat} {v : Value} {l : List ByteArray} (h : Ln w base v l) : ∃ a c, v = .slice a l.length c ∧ l.length ≤ c ∧ c ≤ 9223372036854775807 := by
  rcases h with ⟨rfl, a, e⟩ | ⟨g, off, cap, cur, e, hg, hh, h1, h2, h3, _⟩
  · exact ⟨a, 0, e, by simp, by decide⟩
  · exact ⟨_, cap, e, h2, h3⟩
theorem Ln.cell {w : World} {base : Nat} {a : Option Addr} {n c : Nat} {l : List ByteArray} (h : Ln w base (.slice a n c) l) {k : Nat} {s : ByteArray} (hk : l[k]? = some s) : ∃ b off, a = some ⟨b, off, none⟩ ∧ w.cell? ⟨b, off + k, none⟩ = some (.string s) := by
  rcases h with ⟨rfl, _, e⟩ | ⟨g, off, cap, cur, e, hg, hh, h1, h2, h3, h4⟩
  · simp at hk
  · simp only [Value.slice.injEq] at e
    refine ⟨g, off, e.1, ?_⟩
    have := h4 k s hk
    simp [World.cell?, hh, this]
theorem ln_nil (w : World) (base : Nat) : Ln w base (.slice none 0 0) [] := .inl ⟨rfl, none, rfl⟩
theorem Ln.tail {w : World} {base b off n cap : Nat} {l : List ByteArray} (h : Ln w base (.slice (some ⟨b, off, none⟩) n cap) l) (h1 : 1 ≤ l.length) :
    Ln w base (.slice (if cap = 1 then some ⟨b, off, none⟩ else some ⟨b, off + 1, none⟩) (n - 1) (cap - 1)) (l.drop 1) := by
  rcases h with ⟨rfl, _⟩ | ⟨g, off', cap', cur, e, hg, hh, h2, h3, h4, h5⟩
  · simp at h1
  · simp only [Value.slice.injEq, Option.some.injEq, Addr.mk.injEq, and_true] at e
    obtain ⟨⟨rfl, rfl⟩, rfl, rfl⟩ := e
    by_cases hc : cap = 1
    · rw [if_pos hc]
      have hn : l.drop 1 = [] := List.length_eq_zero_iff.1 (by rw [List.length_drop]; omega)
      refine .inl ⟨hn, some ⟨b, off, none⟩, ?_⟩
      rw [show l.length - 1 = 0 by omega, show cap - 1 = 0 by omega]
    · rw [if_neg hc]
      refine .inr ⟨b, off + 1, cap - 1, cur, by rw [List.length_drop], hg, hh, by omega, by rw [List.length_drop]; omega, by omega, fun j s hj => ?_⟩
      rw [List.getElem?_drop] at hj
      have := h5 (1 + j) s hj
      rw [Nat.add_assoc]
      exact this
theorem ln_of_owns {w w0 : World} {base : Nat} {v : Value} {l : List ByteArray} (h : w.ownsRow base 9 1 v l.length (l.map sv)) : Ln w base v l := by
  rcases h.2 with ⟨e, hn⟩ | ⟨g, cap, cur, e, hg, hh, hnc, hcm, hcs, htake⟩
  · exact .inl ⟨List.length_eq_zero_iff.1 hn, none, e⟩
  · refine .inr ⟨g, 0, cap, cur, e, hg, hh, by omega, hnc, by unfold maxLen at hcm; omega, fun j s hj => ?_⟩
    have hjl := (List.getElem?_eq_some_iff.1 hj).1
    have h2 := World.ownsRow.cellAt (by rw [e] at h; exact h) j (by omega)
    rw [List.getElem?_map, hj] at h2
    simp [World.cell?, hh, sv] at h2
    rw [Nat.zero_add]
    exact h2

/-- append of one string to a line that lay in an earlier world. -/
theorem run_append_line {w0 w : World} (ty : TypeId) (base : Nat) (v : Value) (l : List ByteArray) (hv0 : Ln w0 base v l) (b0 : Below w0.heap.size w0 w) (ad : Addr) (x : ByteArray) (hx : w.cell? (ad.add 0) = some (.string x)) (hb : l.length + 1 ≤ 8796093022208) (hbase : base ≤ w0.heap.size) :
    ∃ v' w', (Builtin.append_ #[24, 24] ty #[v, .slice (some ad) 1 1]).run Tryd.prog w = .ok v' w' ∧ Ln w' base v' (l ++ [x]) ∧ Below base w w' ∧ (∀ k, w0.heap.size ≤ k → k < w.heap.size → w'.heap[k]? = w.heap[k]?) := by
  obtain ⟨i0, hi, hz0, hz1, hz2⟩ := info_parts infoS
  have hbw : base ≤ w.heap.size := Nat.le_trans hbase b0.size
  have hnews : ∀ j u, ([x].map sv)[j]? = some u → w.cell? (ad.add j) = some u := fun j u hu => by
    have hj : j = 0 := by
      have := (List.getElem?_eq_some_iff.1 hu).1
      simp at this
      exact this
    subst hj
    simp [sv] at hu
    subst hu
    exact hx
  have hlen : (l ++ [x]).length = l.length + 1 := by rw [List.length_append]; rfl
  have grow : ∀ v' w', w'.ownsRow w.heap.size 9 1 v' (l.length + 1) (l.map sv ++ [x].map sv) → w.grownBy w' none → Ln w' base v' (l ++ [x]) ∧ Below base w w' ∧ (∀ k, w0.heap.size ≤ k → k < w.heap.size → w'.heap[k]? = w.heap[k]?) := fun v' w' h1 h2 =>
    ⟨ln_of_owns (w0 := w0) (by rw [hlen, List.map_append]; exact ownsRow_weaken h1 hbw), (Below.refl _ _).grown h2 hbw (fun k hk => by simp at hk), fun k _ hk => h2.block k hk (by simp)⟩
  rcases hv0 with ⟨rfl, a, rfl⟩ | ⟨g, off, cap, cur, rfl, hg, hh, h2, h3, h4, h5⟩
  · match a with
    | none =>
      obtain ⟨v', w', hr, k1, k2, _⟩ := run_append_own (P := Tryd.prog) w w.heap.size 24 ty 9 i0 (.string ByteArray.empty) 1 16 Tryd.underlying24 hi hz0 hz1 hz2 rfl (by decide) (.slice none 0 0) 0 [] (World.ownsRow_nil _ _ _ _) ad 1 1 ([x].map sv) (by simp) hnews (sv_one [x]) (by decide) (by decide) (Nat.le_refl _)
      obtain ⟨q1, q2, q3⟩ := grow v' w' (by simpa using k1) (by simpa [Value.ownBlock] using k2)
      exact ⟨v', w', hr, q1, q2, q3⟩
    | some ad' =>
      obtain ⟨v', w', hr, k1, k2⟩ := run_append_arg_grows (P := Tryd.prog) w 24 ty 9 i0 (.string ByteArray.empty) 1 16 Tryd.underlying24 hi hz0 hz1 hz2 rfl (by decide) ad' 0 0 [] (by simp) (fun j u hu => by simp at hu) ad 1 1 ([x].map sv) (by simp) hnews (by omega) (by decide) (by decide)
      obtain ⟨q1, q2, q3⟩ := grow v' w' (by simpa using k1) k2
      exact ⟨v', w', hr, q1, q2, q3⟩
  · have hgl : g < w0.heap.size := (Array.getElem?_eq_some_iff.1 hh).1
    have hh' : w.heap[g]? = some (.cells cur 9 (0, 0)) := by rw [b0.block g hgl]; exact hh
    by_cases hroom : l.length + 1 ≤ cap
    · have hs : off + l.length < cur.size := by omega
      have hc : (w.cell? ⟨g, off + l.length, none⟩).isSome = true := by simp [World.cell?, hh', hs]
      have hf : w.frozen? ⟨g, off + l.length, none⟩ = false := by simp [World.frozen?, hh']
      have hrun := run_append_room_cells (P := Tryd.prog) w 24 ty 9 i0 Tryd.underlying24 hi g off l.length cap ad 1 1 ([x].map sv) (by rw [hz1]; simp) hnews (sv_one [x]) hroom (fun j hj => by
          have hj0 : j = 0 := by simp at hj; exact hj
          subst hj0
          rw [hz1, Nat.mul_one, Nat.add_zero]; exact hc) (fun j hj => by
          have hj0 : j = 0 := by simp at hj; exact hj
          subst hj0
          rw [hz1, Nat.mul_one, Nat.add_zero]; exact hf)
      rw [hz1, Nat.mul_one] at hrun
      refine ⟨_, _, hrun, ?_, ?_, ?_⟩
      · refine .inr ⟨g, off, cap, cur.setIfInBounds (off + l.length) (.string x), by rw [hlen], hg, ?_, by simpa using h2, by rw [hlen]; exact hroom, h4, fun j s hj => ?_⟩
        · exact heap_setCell_same w g (off + l.length) cur 9 (.string x) hh'
        · by_cases hjl : j < l.length
          · rw [List.getElem?_append_left hjl] at hj
            rw [Array.getElem?_setIfInBounds_ne (by omega)]
            exact h5 j s hj
          · have hj2 := (List.getElem?_eq_some_iff.1 hj).1
            rw [hlen] at hj2
            obtain rfl : j = l.length := by omega
            simp at hj
            subst hj
            rw [Array.getElem?_setIfInBounds_self_of_lt hs]
      · exact (Below.refl _ _).setCell (p := ⟨g, off + l.length, none⟩) hg _
      · intro k h1 h2
        exact Below.heap_setCell w ⟨g, off + l.length, none⟩ (.string x) k (by show k ≠ g; omega)
    · obtain ⟨v', w', hr, k1, k2⟩ := run_append_arg_grows (P := Tryd.prog) w 24 ty 9 i0 (.string ByteArray.empty) 1 16 Tryd.underlying24 hi hz0 hz1 hz2 rfl (by decide) ⟨g, off, none⟩ l.length cap (l.map sv) (by simp) (fun j u hu => by
          rw [List.getElem?_map] at hu
          obtain ⟨s, hs, rfl⟩ := Option.map_eq_some_iff.1 hu
          rw [add_lit']
          have := h5 j s hs
          simp [World.cell?, hh', this, sv]) ad 1 1 ([x].map sv) (by simp) hnews (by omega) (by unfold maxLen; omega) (by omega)
      obtain ⟨q1, q2, q3⟩ := grow v' w' k1 k2
      exact ⟨v', w', hr, q1, q2, q3⟩
/-- The same as a step. -/
theorem step_line {w0 w : World} {ops : Array Oper} {o : Oper} {act : Act} {K : Act → World → Prop} {Q : Exit → Act → World → Prop} {EE : Prop} (hgd : o.guard = none) (s y : Operand)
    (ho : o.op = .call { callee := .builtin .append, args := #[s, y], argTypes := #[24, 24] })
    (base : Nat) (v : Value) (l : List ByteArray) (hs : act.eval s = v) (hv0 : Ln w0 base v l) (b0 : Below w0.heap.size w0 w) (ad : Addr) (x : ByteArray) (hy : act.eval y = .slice (some ad) 1 1) (hx : w.cell? (ad.add 0) = some (.string x)) (hb : l.length + 1 ≤ 8796093022208) (hbase : base ≤ w0.heap.size)
    (h : ∀ v' w', Ln w' base v' (l ++ [x]) → Below base w w' → (∀ k, w0.heap.size ≤ k → k < w.heap.size → w'.heap[k]? = w.heap[k]?) → K (act.put o.dst v') w') :
    if Region.wanted o (yielded ops act.tmps) = true then Oper.wp Tryd.prog o act w K Q else EE := by
  have hw : Region.wanted o (yielded ops act.tmps) = true := by simp [Region.wanted, hgd]
  rw [if_pos hw]
  obtain ⟨v', w', hrun, k1, k2, k3⟩ := run_append_line (w0 := w0) (w := w) o.type base v l hv0 b0 ad x hx hb hbase
  unfold Oper.wp execOp
  simp only [ho, resolve, invoke, builtin, Sem.run_bind, Sem.run_pure, Result.andThen_ok, List.map_toArray, List.map_cons, List.map_nil, hs, hy, hrun]
  exact h v' w' k1 k2 k3
end Go.Proofs.YtpfmccgiijbcjaaDoorR
