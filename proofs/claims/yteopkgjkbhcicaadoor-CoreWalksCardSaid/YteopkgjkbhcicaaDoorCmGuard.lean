/-
  What a run leaves as it was, as plain data: rights, pages that may not be written, marks, the process beside its registers; a fault that comes again.
-/
import Derived.Test.YteopkgjkbhcicaaDoorCmSplit
namespace Go.Proofs.YteopkgjkbhcicaaDoor
open Go.RowKit FerryCrc FerryAlu
set_option linter.unusedVariables false
set_option linter.unusedSimpArgs false

/-- What a page may become under a run. -/
structure Kept (p q : Pg) : Prop where
  rights : q.rights = p.rights
  still : rbit p.rights 1 = false → q = p
  mark : p.dirty = true → q.dirty = true
  seen : q.data ≠ p.data → q.dirty = true
theorem Kept.refl (p : Pg) : Kept p p := ⟨rfl, fun _ => rfl, id, fun h => absurd rfl h⟩
theorem Kept.trans {p q r : Pg} (h : Kept p q) (h' : Kept q r) : Kept p r :=
  ⟨h'.rights.trans h.rights, fun e => by rw [h'.still (by rw [h.rights]; exact e), h.still e], fun e => h'.mark (h.mark e), fun e => by
    by_cases hq : q.data = p.data
    · exact h'.seen (by rw [hq]; exact e)
    · exact h'.mark (h.seen hq)⟩
structure KeptL (l l' : List Pg) : Prop where
  size : l'.length = l.length
  at' : ∀ (k : Nat) (p q : Pg), l[k]? = some p → l'[k]? = some q → Kept p q
theorem KeptL.refl (l : List Pg) : KeptL l l := ⟨rfl, fun k p q h h' => by rw [h] at h'; cases h'; exact Kept.refl p⟩
theorem KeptL.trans {l l' l'' : List Pg} (h : KeptL l l') (h' : KeptL l' l'') : KeptL l l'' :=
  ⟨h'.size.trans h.size, fun k p r hp hr => by
    obtain ⟨q, hq⟩ : ∃ q, l'[k]? = some q := ⟨_, List.getElem?_eq_getElem (by
      have := (List.getElem?_eq_some_iff.1 hp).1
      rw [h.size]
      exact this)⟩
    exact (h.at' k p q hp hq).trans (h'.at' k q r hq hr)⟩
theorem patch_none {d : List Nat} {P : Nat → Bool} {B : Nat → Nat} (hP : ∀ x, x < d.length → P x = false) : patch d P B = d := by
  refine List.ext_getElem? fun x => ?_
  rw [patch_get]
  by_cases hx : x < d.length
  · rw [hP x hx, List.getElem?_eq_getElem hx]; rfl
  · rw [List.getElem?_eq_none (by omega)]; rfl
theorem stored_kept {l : List Pg} (ok : Oks l) {n s : Nat} (v : Nat) (hs : Sized s) (h : nfault l n s 1 = 0) : KeptL l (stored l n s v) := by
  refine ⟨stored_len l n s v, fun k p q hp hq => ?_⟩
  unfold stored at hq
  rw [upd_get, hp] at hq
  obtain rfl := Option.some.inj hq
  have hd : p.data.length = 64 := (ok p (List.mem_of_getElem? hp)).size
  have h0 : n % s = 0 := by
    unfold nfault at h
    split at h
    · assumption
    · cases h
  have hb : bfault l n 1 = 0 := by
    unfold nfault at h
    rw [if_pos h0] at h
    exact h
  by_cases hk : k = n / 64
  · subst hk
    have hr : rbit p.rights 1 = true := by
      unfold bfault at hb
      rw [hp] at hb
      simp only at hb
      split at hb
      · assumption
      · cases hb
    refine ⟨rfl, fun e => ?_, fun e => ?_, fun e => ?_⟩
    · rw [hr] at e; cases e
    · show (p.dirty || isQ (n / 64) (n / 64)) = true
      rw [e]; rfl
    · show (p.dirty || isQ (n / 64) (n / 64)) = true
      simp [isQ]
  · have e : p.upd (fun x => inR n s (64 * k + x)) (fun x => byt v s n (64 * k + x)) (isQ (n / 64) k) = p := by
      refine pg_ext rfl ?_ ?_
      · show (p.dirty || isQ (n / 64) k) = p.dirty
        have : isQ (n / 64) k = false := by unfold isQ; exact beq_eq_false_iff_ne.2 hk
        rw [this, Bool.or_false]
      · refine patch_none fun x hx => ?_
        rw [hd] at hx
        unfold inR
        refine decide_eq_false fun hin => ?_
        obtain ⟨i1, i2⟩ := hin
        rcases hs with rfl | rfl | rfl <;> omega
    exact (congrArg (Kept p) e).mpr (Kept.refl p)
/-- What a run leaves of a process. -/
structure Held (m m' : Mc) : Prop where
  pages : KeptL m.pages m'.pages
  st : m'.st = m.st
  prio : m'.prio = m.prio
  wait : m'.wait = m.wait
  obj : m'.obj = m.obj
theorem Held.refl (m : Mc) : Held m m := ⟨KeptL.refl _, rfl, rfl, rfl, rfl⟩
theorem Held.trans {m m' m'' : Mc} (h : Held m m') (h' : Held m' m'') : Held m m'' := ⟨h.pages.trans h'.pages, h'.st.trans h.st, h'.prio.trans h.prio, h'.wait.trans h.wait, h'.obj.trans h.obj⟩
theorem setR_held (m : Mc) (k v : Nat) : Held m (m.setR k v) := by
  unfold Mc.setR
  split
  · exact Held.refl m
  · exact ⟨KeptL.refl _, rfl, rfl, rfl, rfl⟩
theorem setP_held (m : Mc) (p : Nat) : Held m (m.setP p) := ⟨KeptL.refl _, rfl, rfl, rfl, rfl⟩
theorem doI_held {m : Mc} (ok : Oks m.pages) (i : Ins) : Held m (m.doI i).1 := by
  unfold Mc.doI
  split
  · split
    · exact (setR_held m _ _).trans (setP_held _ _)
    · exact Held.refl m
  · split
    · split
      · rename_i hn
        refine ⟨?_, rfl, rfl, rfl, rfl⟩
        show KeptL m.pages (pkv m.pages _ _ _)
        unfold pkv
        rw [if_pos hn]
        exact stored_kept ok _ (szI_sized _) hn
      · exact Held.refl m
    · split
      · exact setP_held m _
      · split
        · exact (setR_held m _ _).trans (setP_held _ _)
        · split
          · exact setP_held m _
          · split
            · exact setP_held m _
            · cases m.cmp i with
              | some v => exact (setR_held m _ _).trans (setP_held _ _)
              | none => exact Held.refl m
theorem step_held {m : Mc} (ok : Oks m.pages) : Held m m.step.1 := by
  unfold Mc.step
  split
  · exact Held.refl m
  · split
    · exact Held.refl m
    · split
      · exact doI_held ok _
      · exact doI_held ok _
theorem step_fault {m : Mc} (h : m.step.2.1 = 2) : m.step.1 = m := by
  unfold Mc.step at *
  split at h
  · rename_i h1
    rw [if_pos h1]
  · rename_i h1
    rw [if_neg h1]
    split at h
    · rename_i h2
      rw [if_pos h2]
    · split at h
      · cases h
      · cases h
/-- A run that ended at a fault: a step more is the same fault. -/
def Faulted (r : Rn) : Prop := r.kind = 2 → r.m.step = (r.m, 2, r.code)
theorem next_faulted {r : Rn} (h : Faulted r) : Faulted r.next := by
  unfold Rn.next
  split
  · intro hk
    have hk' : r.m.step.2.1 = 2 := hk
    have e := step_fault hk'
    show r.m.step.1.step = (r.m.step.1, 2, r.m.step.2.2)
    rw [e]
    exact Prod.ext e (Prod.ext hk' rfl)
  · exact h
theorem go_faulted (n : Nat) {r : Rn} (h : Faulted r) : Faulted (Rn.go n r) := by
  induction n generalizing r with
  | zero => exact h
  | succ n ih => exact ih (next_faulted h)
theorem run_faulted (m : Mc) (n : Nat) : Faulted (m.run n) := go_faulted n (fun h => by cases h)
theorem setR_pages (m : Mc) (k v : Nat) : (m.setR k v).pages = m.pages := by unfold Mc.setR; split <;> rfl
theorem doI_oks {m : Mc} (ok : Oks m.pages) (i : Ins) : Oks (m.doI i).1.pages := by
  unfold Mc.doI
  split
  · split
    · show Oks (m.setR _ _).pages
      rw [setR_pages]; exact ok
    · exact ok
  · split
    · split
      · rename_i hn
        show Oks (pkv m.pages _ _ _)
        unfold pkv
        rw [if_pos hn]
        exact stored_ok ok _ _ _
      · exact ok
    · split
      · exact ok
      · split
        · show Oks (m.setR _ _).pages
          rw [setR_pages]; exact ok
        · split
          · exact ok
          · split
            · exact ok
            · cases m.cmp i with
              | some v =>
                show Oks (m.setR _ _).pages
                rw [setR_pages]; exact ok
              | none => exact ok
theorem step_oks {m : Mc} (ok : Oks m.pages) : Oks m.step.1.pages := by
  unfold Mc.step
  split
  · exact ok
  · split
    · exact ok
    · split
      · exact doI_oks ok _
      · exact doI_oks ok _
theorem go_held (n : Nat) (r : Rn) (ok : Oks r.m.pages) : Held r.m (Rn.go n r).m := by
  induction n generalizing r with
  | zero => exact Held.refl _
  | succ n ih =>
    show Held r.m (Rn.go n r.next).m
    have h1 : Held r.m r.next.m ∧ Oks r.next.m.pages := by
      unfold Rn.next
      split
      · exact ⟨step_held ok, step_oks ok⟩
      · exact ⟨Held.refl _, ok⟩
    exact h1.1.trans (ih r.next h1.2)
theorem run_held {m : Mc} (ok : m.Ok) (n : Nat) : Held m (m.run n).m := by
  have h0 : Held m m.from0 := ⟨KeptL.refl _, rfl, rfl, rfl, rfl⟩
  exact h0.trans (go_held n ⟨m.from0, 0, 0, 0⟩ ok.ok)
theorem run_zero {m : Mc} (ok : m.Ok) (n : Nat) : (m.run n).m.zero := go_zero n (from0_zero ok)
/-- One step more behind a run that ended at a fault is that fault. -/
theorem fault_again {m : Mc} (ok : m.Ok) (n : Nat) (h : (m.run n).kind = 2) : (m.run n).m.run 1 = ⟨(m.run n).m, 2, (m.run n).code, 1⟩ := by
  have hz := from0_same (run_zero ok n)
  have hf := run_faulted m n h
  show (Rn.next ⟨(m.run n).m.from0, 0, 0, 0⟩) = _
  rw [hz]
  unfold Rn.next
  rw [if_pos rfl]
  simp only [hf]
end Go.Proofs.YteopkgjkbhcicaaDoor
