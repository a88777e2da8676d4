/-
  Runs on pages that are alike but for their marks, as plain data.
-/
import Derived.Test.YtbcpcepehnllhaaDoorCmGuard
namespace Go.Proofs.YtbcpcepehnllhaaDoor
open Go.RowKit FerryCrc FerryAlu
set_option linter.unusedVariables false
set_option linter.unusedSimpArgs false

/-- Two lists of pages, alike but for marks; D says which marks the first bears besides. -/
structure Twin (D : Nat → Bool) (l l' : List Pg) : Prop where
  size : l.length = l'.length
  at' : ∀ (k : Nat) (p q : Pg), l[k]? = some p → l'[k]? = some q → p.rights = q.rights ∧ p.data = q.data ∧ p.dirty = (D k || q.dirty)
theorem Twin.none {D : Nat → Bool} {l l' : List Pg} (h : Twin D l l') {k : Nat} (e : l[k]? = none) : l'[k]? = none := by
  rw [List.getElem?_eq_none_iff] at *
  rw [← h.size]; exact e
theorem Twin.some {D : Nat → Bool} {l l' : List Pg} (h : Twin D l l') {k : Nat} {p : Pg} (e : l[k]? = some p) : ∃ q, l'[k]? = some q ∧ p.rights = q.rights ∧ p.data = q.data ∧ p.dirty = (D k || q.dirty) := by
  have hk := (List.getElem?_eq_some_iff.1 e).1
  have e' : l'[k]? = Option.some (l'[k]'(by rw [← h.size]; exact hk)) := List.getElem?_eq_getElem _
  exact ⟨_, e', h.at' k p _ e e'⟩
theorem Twin.bfault {D : Nat → Bool} {l l' : List Pg} (h : Twin D l l') (n k : Nat) : bfault l n k = bfault l' n k := by
  unfold Go.Proofs.YtbcpcepehnllhaaDoor.bfault
  cases e : l[n / 64]? with
  | none => rw [h.none e]
  | some p =>
    obtain ⟨q, e', hr, _, _⟩ := h.some e
    rw [e']
    simp only [hr]
theorem Twin.nfault {D : Nat → Bool} {l l' : List Pg} (h : Twin D l l') (n s k : Nat) : nfault l n s k = nfault l' n s k := by
  unfold Go.Proofs.YtbcpcepehnllhaaDoor.nfault
  rw [h.bfault]
theorem Twin.nbytes {D : Nat → Bool} {l l' : List Pg} (h : Twin D l l') (n s : Nat) : nbytes l n s = nbytes l' n s := by
  unfold Go.Proofs.YtbcpcepehnllhaaDoor.nbytes
  cases e : l[n / 64]? with
  | none => rw [h.none e]
  | some p =>
    obtain ⟨q, e', _, hd, _⟩ := h.some e
    rw [e']
    simp only [hd]
theorem Twin.ldv {D : Nat → Bool} {l l' : List Pg} (h : Twin D l l') (n s k : Nat) : ldv l n s k = ldv l' n s k := by
  unfold Go.Proofs.YtbcpcepehnllhaaDoor.ldv
  rw [h.nfault, h.nbytes]
theorem Twin.fIns {D : Nat → Bool} {l l' : List Pg} (h : Twin D l l') (n : Nat) : fIns l n = fIns l' n := by
  unfold Go.Proofs.YtbcpcepehnllhaaDoor.fIns
  rw [h.nfault, h.ldv]
theorem Twin.fCode {D : Nat → Bool} {l l' : List Pg} (h : Twin D l l') (n : Nat) : fCode l n = fCode l' n := by
  unfold Go.Proofs.YtbcpcepehnllhaaDoor.fCode
  rw [h.nfault, h.ldv]
theorem Twin.stored {D : Nat → Bool} {l l' : List Pg} (h : Twin D l l') (n s v : Nat) : Twin D (stored l n s v) (stored l' n s v) := by
  refine ⟨by rw [stored_len, stored_len]; exact h.size, fun k p q hp hq => ?_⟩
  unfold Go.Proofs.YtbcpcepehnllhaaDoor.stored at hp hq
  rw [upd_get] at hp hq
  obtain ⟨p0, e, rfl⟩ := Option.map_eq_some_iff.1 hp
  obtain ⟨q0, e', rfl⟩ := Option.map_eq_some_iff.1 hq
  obtain ⟨h1, h2, h3⟩ := h.at' k p0 q0 e e'
  refine ⟨h1, ?_, ?_⟩
  · show patch p0.data _ _ = patch q0.data _ _
    rw [h2]
  · show (p0.dirty || isQ (n / 64) k) = (D k || (q0.dirty || isQ (n / 64) k))
    rw [h3, Bool.or_assoc]
theorem Twin.pkv {D : Nat → Bool} {l l' : List Pg} (h : Twin D l l') (n s v : Nat) : Twin D (pkv l n s v) (pkv l' n s v) := by
  unfold Go.Proofs.YtbcpcepehnllhaaDoor.pkv
  rw [h.nfault]
  split
  · exact h.stored n s v
  · exact h
/-- Two machines, alike but for marks. -/
structure TwinM (D : Nat → Bool) (m m' : Mc) : Prop where
  pages : Twin D m.pages m'.pages
  rest : m' = { m with pages := m'.pages }
theorem TwinM.mk' {D : Nat → Bool} (m : Mc) {l' : List Pg} (h : Twin D m.pages l') : TwinM D m { m with pages := l' } := ⟨h, rfl⟩
theorem setR_twin {D : Nat → Bool} (m : Mc) {l' : List Pg} (h : Twin D m.pages l') (k v : Nat) : TwinM D (m.setR k v) (({ m with pages := l' } : Mc).setR k v) := by
  unfold Mc.setR
  split
  · exact ⟨h, rfl⟩
  · exact ⟨h, rfl⟩
theorem TwinM.setP {D : Nat → Bool} {m m' : Mc} (h : TwinM D m m') (p : Nat) : TwinM D (m.setP p) (m'.setP p) := ⟨h.pages, by
  unfold Mc.setP
  rw [h.rest]⟩
theorem doI_twin {D : Nat → Bool} (m : Mc) {l' : List Pg} (h : Twin D m.pages l') (i : Ins) : TwinM D (m.doI i).1 (({ m with pages := l' } : Mc).doI i).1 ∧ (m.doI i).2 = (({ m with pages := l' } : Mc).doI i).2 := by
  have e1 : ({ m with pages := l' } : Mc).adr i = m.adr i := rfl
  have e2 : ∀ k, ({ m with pages := l' } : Mc).reg k = m.reg k := fun _ => rfl
  have e3 : ({ m with pages := l' } : Mc).cmp i = m.cmp i := rfl
  unfold Mc.doI
  simp only [e1, e2, e3, ← h.nfault, ← h.ldv]
  split
  · split
    · exact ⟨(setR_twin m h _ _).setP _, rfl⟩
    · exact ⟨TwinM.mk' m h, rfl⟩
  · split
    · split
      · exact ⟨⟨h.pkv _ _ _, rfl⟩, rfl⟩
      · exact ⟨TwinM.mk' m h, rfl⟩
    · split
      · exact ⟨(TwinM.mk' m h).setP _, rfl⟩
      · split
        · exact ⟨(setR_twin m h _ _).setP _, rfl⟩
        · split
          · exact ⟨(TwinM.mk' m h).setP _, rfl⟩
          · split
            · exact ⟨(TwinM.mk' m h).setP _, rfl⟩
            · cases m.cmp i with
              | some v => exact ⟨(setR_twin m h _ _).setP _, rfl⟩
              | none => exact ⟨TwinM.mk' m h, rfl⟩
theorem step_twin {D : Nat → Bool} {m m' : Mc} (h : TwinM D m m') : TwinM D m.step.1 m'.step.1 ∧ m.step.2 = m'.step.2 := by
  obtain ⟨hp, hr⟩ := h
  generalize m'.pages = l' at *
  subst hr
  have e := doI_twin m hp (fIns m.pages m.pc)
  unfold Mc.step
  simp only [← hp.fCode, ← hp.fIns, ← e.2]
  split
  · exact ⟨TwinM.mk' m hp, rfl⟩
  · split
    · exact ⟨TwinM.mk' m hp, rfl⟩
    · split
      · exact ⟨e.1, rfl⟩
      · exact ⟨e.1, rfl⟩
structure TwinR (D : Nat → Bool) (r r' : Rn) : Prop where
  m : TwinM D r.m r'.m
  kind : r.kind = r'.kind
  code : r.code = r'.code
  steps : r.steps = r'.steps
theorem next_twin {D : Nat → Bool} {r r' : Rn} (h : TwinR D r r') : TwinR D r.next r'.next := by
  unfold Rn.next
  rw [← h.kind]
  split
  · have e := step_twin h.m
    exact ⟨e.1, congrArg (·.1) e.2, congrArg (·.2) e.2, by show r.steps + 1 = r'.steps + 1; rw [h.steps]⟩
  · exact h
theorem go_twin {D : Nat → Bool} (n : Nat) {r r' : Rn} (h : TwinR D r r') : TwinR D (Rn.go n r) (Rn.go n r') := by
  induction n generalizing r r' with
  | zero => exact h
  | succ n ih => exact ih (next_twin h)
/-- A run on pages alike but for marks is alike but for those. -/
theorem run_twin {D : Nat → Bool} {m m' : Mc} (h : TwinM D m m') (n : Nat) : TwinR D (m.run n) (m'.run n) := by
  refine go_twin n ⟨⟨h.pages, ?_⟩, rfl, rfl, rfl⟩
  show m'.from0 = { m.from0 with pages := m'.pages }
  unfold Mc.from0
  rw [h.rest]
end Go.Proofs.YtbcpcepehnllhaaDoor
