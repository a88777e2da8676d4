/-
  The law's cursors, all of them: each apart from the others and from the lists.
-/
import Derived.Test.YtkkogkdalcigkaaDoorWOpen1
namespace Go.Proofs.YtkkogkdalcigkaaDoor
open Go.RowKit FerryCrc
set_option linter.unusedVariables false
set_option linter.unusedSimpArgs false

/-- A cursor of the law's list, opened. -/
structure CI where
  c : Nat
  g : Nat
  len : Nat
  p : Nat
  L : List Nat
structure Curs (w : World) (B : Nat) (v1 v2 : Value) (xs : List CI) (ds : List Nat) : Prop where
  csr : Csr w B v1 v2 (xs.map CI.c) ds
  cur : ∀ (i : Nat) x, xs[i]? = some x → Cur w x.c x.g x.len x.p x.len x.L
  far : ∀ (i : Nat) x, xs[i]? = some x → B < x.c ∧ B < x.g ∧ x.g < w.heap.size ∧ (∀ k, v1.ownBlock = some k → k ≠ x.c ∧ k ≠ x.g) ∧ (∀ k, v2.ownBlock = some k → k ≠ x.c ∧ k ≠ x.g)
  sep : ∀ (i j : Nat) x y, xs[i]? = some x → xs[j]? = some y → i ≠ j → x.c ≠ y.c ∧ x.g ≠ y.c
theorem Curs.below {w w' : World} {B : Nat} {v1 v2 : Value} {xs : List CI} {ds : List Nat} (h : Curs w B v1 v2 xs ds) (hb : Below w.heap.size w w') : Curs w' B v1 v2 xs ds :=
  ⟨h.csr.frmB hb, fun i x hx => (h.cur i x hx).below hb, fun i x hx => by obtain ⟨a, b, c, d, e⟩ := h.far i x hx; exact ⟨a, b, Nat.lt_of_lt_of_le c hb.size, d, e⟩, h.sep⟩
theorem Curs.step {w w' : World} {B : Nat} {v1 v2 : Value} {xs : List CI} {ds : List Nat} (h : Curs w B v1 v2 xs ds) {i : Nat} {x : CI} (hx : xs[i]? = some x) {q : Nat} (hf : Frm (fun k => k = x.c) w w') (hk : Cur w' x.c x.g x.len q x.len x.L) : Curs w' B v1 v2 (xs.set i ⟨x.c, x.g, x.len, q, x.L⟩) ds := by
  have hfar := h.far i x hx
  have hi : i < xs.length := (List.getElem?_eq_some_iff.1 hx).1
  have get : ∀ (j : Nat) y, (xs.set i ⟨x.c, x.g, x.len, q, x.L⟩)[j]? = some y → (j = i ∧ y = ⟨x.c, x.g, x.len, q, x.L⟩) ∨ (j ≠ i ∧ xs[j]? = some y) := fun j y hy => by
    by_cases e : j = i
    · subst e
      rw [List.getElem?_set_self hi] at hy
      exact .inl ⟨rfl, (Option.some.inj hy).symm⟩
    · rw [List.getElem?_set_ne (fun h => e h.symm)] at hy
      exact .inr ⟨e, hy⟩
  have old : ∀ (j : Nat) y, (xs.set i ⟨x.c, x.g, x.len, q, x.L⟩)[j]? = some y → ∃ z, xs[j]? = some z ∧ z.c = y.c ∧ z.g = y.g := fun j y hy => by
    rcases get j y hy with ⟨rfl, rfl⟩ | ⟨_, h2⟩
    · exact ⟨x, hx, rfl, rfl⟩
    · exact ⟨y, h2, rfl, rfl⟩
  have hmap : (xs.set i ⟨x.c, x.g, x.len, q, x.L⟩).map CI.c = xs.map CI.c := by
    apply List.ext_getElem?
    intro j
    rw [List.getElem?_map, List.getElem?_map]
    by_cases e : j = i
    · subst e
      rw [List.getElem?_set_self hi, hx]
      rfl
    · rw [List.getElem?_set_ne (fun h => e h.symm)]
  refine ⟨?_, ?_, ?_, ?_⟩
  · rw [hmap]
    exact ⟨h.csr.two.frm hf (by show ¬ B = x.c; omega), row_frm h.csr.r1 hf (fun k hk e => (hfar.2.2.2.1 k hk).1 e), row_frm h.csr.r2 hf (fun k hk e => (hfar.2.2.2.2 k hk).1 e), h.csr.ne⟩
  · intro j y hy
    rcases get j y hy with ⟨rfl, rfl⟩ | ⟨hne, h2⟩
    · exact hk
    · obtain ⟨a, b⟩ := h.sep j i y x h2 hx hne
      exact (h.cur j y h2).frm hf a b
  · intro j y hy
    obtain ⟨z, hz, e1, e2⟩ := old j y hy
    obtain ⟨a, b, c, d, e⟩ := h.far j z hz
    rw [e1, e2] at *
    exact ⟨a, b, Nat.lt_of_lt_of_le c hf.size, d, e⟩
  · intro j k y z hy hz hne
    obtain ⟨y', hy', e1, e2⟩ := old j y hy
    obtain ⟨z', hz', e3, e4⟩ := old k z hz
    have := h.sep j k y' z' hy' hz' hne
    rw [e1, e2, e3] at this
    exact this
theorem Curs.more {w w' : World} {B : Nat} {v1 v2 v1' v2' : Value} {xs : List CI} {ds : List Nat} {C G D n : Nat} {L : List Nat} (h : Curs w B v1 v2 xs ds) (hc : Csr w' B v1' v2' (xs.map CI.c ++ [C]) (ds ++ [D])) (hk : Cur w' C G n 0 n L) (hC : w.heap.size ≤ C) (hG : w.heap.size ≤ G) (hGl : G < w'.heap.size)
    (hf : Frm (fun k => k = B ∨ v1.ownBlock = some k ∨ v2.ownBlock = some k) w w') (n1 : ∀ k, v1'.ownBlock = some k → v1.ownBlock = some k ∨ (w.heap.size ≤ k ∧ k ≠ C ∧ k ≠ G)) (n2 : ∀ k, v2'.ownBlock = some k → v2.ownBlock = some k ∨ (w.heap.size ≤ k ∧ k ≠ C ∧ k ≠ G)) : Curs w' B v1' v2' (xs ++ [⟨C, G, n, 0, L⟩]) (ds ++ [D]) := by
  have hBl : B < w.heap.size := block_lt_of_cell h.csr.two.c0
  have get : ∀ (j : Nat) y, (xs ++ [(⟨C, G, n, 0, L⟩ : CI)])[j]? = some y → (j = xs.length ∧ y = ⟨C, G, n, 0, L⟩) ∨ (j < xs.length ∧ xs[j]? = some y) := fun j y hy => by
    by_cases e : j < xs.length
    · rw [List.getElem?_append_left e] at hy
      exact .inr ⟨e, hy⟩
    · rw [List.getElem?_append_right (by omega)] at hy
      have hj : j - xs.length = 0 := by
        have := (List.getElem?_eq_some_iff.1 hy).1
        simp at this
        omega
      rw [hj] at hy
      exact .inl ⟨by omega, (Option.some.inj hy).symm⟩
  have own1 : ∀ k, v1.ownBlock = some k → k < w.heap.size := fun k hk => (World.ownsRow.lt h.csr.r1 k hk).2
  have own2 : ∀ k, v2.ownBlock = some k → k < w.heap.size := fun k hk => (World.ownsRow.lt h.csr.r2 k hk).2
  refine ⟨by rw [List.map_append]; exact hc, ?_, ?_, ?_⟩
  · intro j y hy
    rcases get j y hy with ⟨rfl, rfl⟩ | ⟨_, h2⟩
    · exact hk
    · obtain ⟨a, b, c, d, e⟩ := h.far j y h2
      refine (h.cur j y h2).frm hf (fun t => ?_) (fun t => ?_)
      · rcases t with t | t | t
        · omega
        · exact (d _ t).1 rfl
        · exact (e _ t).1 rfl
      · rcases t with t | t | t
        · omega
        · exact (d _ t).2 rfl
        · exact (e _ t).2 rfl
  · intro j y hy
    rcases get j y hy with ⟨rfl, rfl⟩ | ⟨_, h2⟩
    · refine ⟨by show B < C; omega, by show B < G; omega, hGl, fun k hk => ?_, fun k hk => ?_⟩
      · rcases n1 k hk with t | t
        · have := own1 k t
          exact ⟨by show k ≠ C; omega, by show k ≠ G; omega⟩
        · exact t.2
      · rcases n2 k hk with t | t
        · have := own2 k t
          exact ⟨by show k ≠ C; omega, by show k ≠ G; omega⟩
        · exact t.2
    · obtain ⟨a, b, c, d, e⟩ := h.far j y h2
      have hl := (h.cur j y h2).lt
      refine ⟨a, b, Nat.lt_of_lt_of_le c hf.size, fun k hk => ?_, fun k hk => ?_⟩
      · rcases n1 k hk with t | t
        · exact d k t
        · exact ⟨by omega, by omega⟩
      · rcases n2 k hk with t | t
        · exact e k t
        · exact ⟨by omega, by omega⟩
  · intro j k y z hy hz hne
    rcases get j y hy with ⟨rfl, rfl⟩ | ⟨_, h2⟩
    · rcases get k z hz with ⟨rfl, rfl⟩ | ⟨_, h3⟩
      · exact absurd rfl hne
      · have hl := (h.cur k z h3).lt
        exact ⟨by show C ≠ z.c; omega, by show G ≠ z.c; omega⟩
    · rcases get k z hz with ⟨rfl, rfl⟩ | ⟨_, h3⟩
      · have hl := (h.cur j y h2).lt
        have hg := (h.far j y h2).2.2.1
        exact ⟨by show y.c ≠ C; omega, by show y.g ≠ C; omega⟩
      · exact h.sep j k y z h2 h3 hne
theorem curs_nil {w : World} {B : Nat} (h : Two w B (.slice none 0 0) (.slice none 0 0)) : Curs w B (.slice none 0 0) (.slice none 0 0) [] [] :=
  ⟨⟨h, ⟨rfl, .inl ⟨rfl, rfl⟩⟩, ⟨rfl, .inl ⟨rfl, rfl⟩⟩, fun k hk => by simp [Value.ownBlock] at hk⟩, fun i x hx => by simp at hx, fun i x hx => by simp at hx, fun i j x y hx => by simp at hx⟩
end Go.Proofs.YtkkogkdalcigkaaDoor
