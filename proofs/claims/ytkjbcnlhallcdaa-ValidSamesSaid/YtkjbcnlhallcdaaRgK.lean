/-
  Regions whose order is drawn: a load may be taken first where its cell stays as it is up to an operation that waits for the load.
-/
import Derived.Deep.RegionHeld
namespace Go.Proofs.Ytkjbcnlhallcdaa
open Go
set_option linter.unusedVariables false

section
variable {P : Program} {ops : Array Oper} {Q : Exit → Act → World → Prop} {md : Region.Mode} {S : World → Prop} {k : Nat}

/-- Whatever order is picked, and S holds behind every operation as long as number k has not come up. -/
def AnyK (P : Program) (md : Region.Mode) (ops : Array Oper) (Q : Exit → Act → World → Prop) (S : World → Prop) (k : Nat) : Nat → Array Bool → Act → World → Prop
  | 0, L, a, w => Region.ready md ops L = [] ∧ Q .normal a w
  | n + 1, L, a, w => (Region.ready md ops L = [] → Q .normal a w) ∧
      ∀ i ∈ Region.ready md ops L, wpOp P ops Q i (fun a' w' => ((L.setIfInBounds i true).getD k true = false → S w') ∧ AnyK P md ops Q S k n (L.setIfInBounds i true) a' w') a w

theorem anyK_any : ∀ (n : Nat) (L : Array Bool) (a : Act) (w : World), AnyK P md ops Q S k n L a w → wpAny P md ops Q n L a w
  | 0, _, _, _, h => h
  | n + 1, _, _, _, h => ⟨h.1, fun i hi => wpOp_mono (fun a' w' h' => anyK_any n _ a' w' h'.2) (h.2 i hi)⟩

theorem not_waits {i j : Nat} {oj : Oper} {L : Array Bool} (hr : i ∈ Region.ready md ops L) (hall : ∀ e ∈ oj.after, Region.binds md e = true → L.getD e.on false = true) :
    ∀ e ∈ oj.after, Region.binds md e = true → e.on ≠ i := fun e he hb heq => by
  have h1 := hall e he hb
  have h0 := (mem_ready.1 hr).1
  rw [heq] at h1
  rcases Nat.lt_or_ge i L.size with h' | h'
  · simp [h'] at h0 h1; rw [h0] at h1; cases h1
  · simp [Array.getElem?_eq_none h'] at h1

theorem free_set {i j : Nat} {oi : Oper} {L : Array Bool} (hjun : L.getD j true = false)
    (hfree : ∀ j oj, ops[j]? = some oj → j ≠ i → L.getD j true = false → (∀ e ∈ oj.after, Region.binds md e = true → e.on ≠ i) → oi.apart ops oj = true) :
    ∀ j' oj, ops[j']? = some oj → j' ≠ i → (L.setIfInBounds j true).getD j' true = false → (∀ e ∈ oj.after, Region.binds md e = true → e.on ≠ i) → oi.apart ops oj = true := fun m om hm hmi hun hno => by
  refine hfree m om hm hmi ?_ hno
  by_cases hjm : j = m
  · subst hjm; exact hjun
  · rw [getD_set_ne true hjm] at hun; exact hun

/-- An operation that yields its value in whatever world may be taken first. -/
theorem anyK_pure {i : Nat} {oi : Oper} {v : Value} (hi : ops[i]? = some oi) (hsel : ∀ (j : Nat) (o : Oper) cs b, ops[j]? = some o → o.op ≠ .select cs b)
    (hQ : ∀ c a w, Q (.panic c) (a.put oi.dst v) w → Q (.panic c) a w) :
    ∀ (n : Nat) (L : Array Bool) (a : Act) (w : World),
      (∀ j oj, ops[j]? = some oj → j ≠ i → L.getD j true = false → (∀ e ∈ oj.after, Region.binds md e = true → e.on ≠ i) → oi.apart ops oj = true) →
      i ∈ Region.ready md ops L → Yields P ops oi v a → (L.getD k true = false → S w) → i ≠ k →
      AnyK P md ops Q S k n (L.setIfInBounds i true) (a.put oi.dst v) w → AnyK P md ops Q S k (n + 1) L a w := by
  intro n
  induction n with
  | zero =>
    intro L a w _ hr hy hS hik H
    refine ⟨fun h => (by rw [h] at hr; cases hr), fun j hj => ?_⟩
    by_cases hji : j = i
    · subst hji; exact hy.wpOp hi ⟨fun h => hS (by rw [getD_set_ne true hik] at h; exact h), H⟩
    · have := ready_mono hj hji
      rw [H.1] at this
      cases this
  | succ n ih =>
    intro L a w hfree hr hy hS hik H
    refine ⟨fun h => (by rw [h] at hr; cases hr), fun j hj => ?_⟩
    by_cases hji : j = i
    · subst hji; exact hy.wpOp hi ⟨fun h => hS (by rw [getD_set_ne true hik] at h; exact h), H⟩
    · have h1 := H.2 j (ready_mono hj hji)
      obtain ⟨hjun, oj, hoj, hall⟩ := mem_ready.1 hj
      have h2 := wpOp_put hoj (hfree j oj hoj hji hjun (not_waits (j := j) hr hall)) (fun cs b => hsel i oi cs b hi) (fun cs b => hsel j oj cs b hoj) hQ hy h1
      refine wpOp_mono (fun a' w' h3 => ?_) h2
      have e1 : (L.setIfInBounds i true).setIfInBounds j true = (L.setIfInBounds j true).setIfInBounds i true := Array.setIfInBounds_comm _ _ (Ne.symm hji)
      rw [e1] at h3
      have h4 : (L.setIfInBounds j true).getD k true = false → S w' := fun h => h3.2.1 (by rw [getD_set_ne true hik]; exact h)
      exact ⟨h4, ih _ a' w' (free_set hjun hfree) (ready_mono hr (Ne.symm hji)) h3.1 h4 hik h3.2.2⟩

/-- A load may be taken first if S tells what it yields and number k waits for it. -/
theorem anyK_load {i : Nat} {oi ok : Oper} {v : Value} (hi : ops[i]? = some oi) (hsel : ∀ (j : Nat) (o : Oper) cs b, ops[j]? = some o → o.op ≠ .select cs b)
    (hQ : ∀ c a w, Q (.panic c) (a.put oi.dst v) w → Q (.panic c) a w) (hk : ops[k]? = some ok) (hki : ∃ e ∈ ok.after, Region.binds md e = true ∧ e.on = i) :
    ∀ (n : Nat) (L : Array Bool) (a : Act) (w : World),
      (∀ j oj, ops[j]? = some oj → j ≠ i → L.getD j true = false → (∀ e ∈ oj.after, Region.binds md e = true → e.on ≠ i) → oi.apart ops oj = true) →
      i ∈ Region.ready md ops L → YieldsIf P ops S oi v a → L.getD k true = false → S w → i ≠ k →
      AnyK P md ops Q S k n (L.setIfInBounds i true) (a.put oi.dst v) w → AnyK P md ops Q S k (n + 1) L a w := by
  intro n
  induction n with
  | zero =>
    intro L a w _ hr hy hun hS hik H
    refine ⟨fun h => (by rw [h] at hr; cases hr), fun j hj => ?_⟩
    by_cases hji : j = i
    · subst hji; exact hy.wpOp hi hS ⟨fun _ => hS, H⟩
    · have := ready_mono hj hji
      rw [H.1] at this
      cases this
  | succ n ih =>
    intro L a w hfree hr hy hun hS hik H
    refine ⟨fun h => (by rw [h] at hr; cases hr), fun j hj => ?_⟩
    by_cases hji : j = i
    · subst hji; exact hy.wpOp hi hS ⟨fun _ => hS, H⟩
    · have h1 := H.2 j (ready_mono hj hji)
      obtain ⟨hjun, oj, hoj, hall⟩ := mem_ready.1 hj
      have hnw := not_waits (j := j) hr hall
      have hjk : j ≠ k := fun e => by
        subst e
        obtain ⟨x, hx, hb, ho⟩ := hki
        rw [hk] at hoj
        cases hoj
        exact hnw x hx hb ho
      have h2 := wpOp_putIf hoj (hfree j oj hoj hji hjun hnw) (fun cs b => hsel i oi cs b hi) (fun cs b => hsel j oj cs b hoj) hQ hy h1
      refine wpOp_mono (fun a' w' h3 => ?_) h2
      have e1 : (L.setIfInBounds i true).setIfInBounds j true = (L.setIfInBounds j true).setIfInBounds i true := Array.setIfInBounds_comm _ _ (Ne.symm hji)
      rw [e1] at h3
      have h5 : (L.setIfInBounds j true).getD k true = false := by rw [getD_set_ne true hjk]; exact hun
      have h4 : S w' := h3.2.1 (by rw [getD_set_ne true hik]; exact h5)
      exact ⟨fun _ => h4, ih _ a' w' (free_set hjun hfree) (ready_mono hr (Ne.symm hji)) h3.1 h5 h4 hik h3.2.2⟩

theorem anyK_takeP {i : Nat} {oi : Oper} {v : Value} {n : Nat} {L : Array Bool} {a : Act} {w : World} (hi : ops[i]? = some oi) (hs : Region.noSelect ops = true)
    (hf : Region.free md ops L i = true) (hr : (Region.ready md ops L).contains i = true) (hQ : ∀ c a w, Q (.panic c) (a.put oi.dst v) w → Q (.panic c) a w)
    (hik : (i != k) = true) (hS : L.getD k true = false → S w) (hy : Yields P ops oi v a) (h : AnyK P md ops Q S k n (L.setIfInBounds i true) (a.put oi.dst v) w) : AnyK P md ops Q S k (n + 1) L a w :=
  anyK_pure hi (Region.noSelect_spec hs) hQ n L a w (Region.free_spec hi hf) (by simpa using hr) hy hS (by simpa using hik) h

theorem anyK_takeL {i : Nat} {oi ok : Oper} {v : Value} {n : Nat} {L : Array Bool} {a : Act} {w : World} (hi : ops[i]? = some oi) (hk : ops[k]? = some ok) (hs : Region.noSelect ops = true)
    (hf : Region.free md ops L i = true) (hr : (Region.ready md ops L).contains i = true) (hki : (ok.after.any fun e => Region.binds md e && e.on == i) = true) (hun : L.getD k true = false)
    (hQ : ∀ c a w, Q (.panic c) (a.put oi.dst v) w → Q (.panic c) a w)
    (hik : (i != k) = true) (hS : S w) (hy : YieldsIf P ops S oi v a) (h : AnyK P md ops Q S k n (L.setIfInBounds i true) (a.put oi.dst v) w) : AnyK P md ops Q S k (n + 1) L a w :=
  anyK_load hi (Region.noSelect_spec hs) hQ hk (by
    obtain ⟨e, he, hb⟩ := Array.any_eq_true'.1 hki
    simp only [Bool.and_eq_true, beq_iff_eq] at hb
    exact ⟨e, he, hb.1, hb.2⟩) n L a w (Region.free_spec hi hf) (by simpa using hr) hy hun hS (by simpa using hik) h

theorem anyK_one {i : Nat} {o : Oper} {n : Nat} {L : Array Bool} {a : Act} {w : World} (hr : Region.ready md ops L = [i]) (ho : ops[i]? = some o)
    (h : ∀ K' : Act → World → Prop, Shut (∀ a w, ((L.setIfInBounds i true).getD k true = false → S w) → AnyK P md ops Q S k n (L.setIfInBounds i true) a w → K' a w) → if Region.wanted o (yielded ops a.tmps) = true then Oper.wp P o a w K' Q else K' (a.put o.dst undef) w) :
    AnyK P md ops Q S k (n + 1) L a w :=
  ⟨fun h0 => (by rw [hr] at h0; cases h0), fun j hj => by
    rw [hr] at hj
    obtain rfl := List.mem_singleton.1 hj
    exact wpOp_step ho (fun K' hK => h K' (fun a w hS hW => hK a w ⟨hS, hW⟩))⟩

theorem anyK_two {i j : Nat} {o o' : Oper} {n : Nat} {L : Array Bool} {a : Act} {w : World} (hr : Region.ready md ops L = [i, j]) (ho : ops[i]? = some o) (ho' : ops[j]? = some o')
    (h : ∀ K' : Act → World → Prop, Shut (∀ a w, ((L.setIfInBounds i true).getD k true = false → S w) → AnyK P md ops Q S k n (L.setIfInBounds i true) a w → K' a w) → if Region.wanted o (yielded ops a.tmps) = true then Oper.wp P o a w K' Q else K' (a.put o.dst undef) w)
    (h' : ∀ K' : Act → World → Prop, Shut (∀ a w, ((L.setIfInBounds j true).getD k true = false → S w) → AnyK P md ops Q S k n (L.setIfInBounds j true) a w → K' a w) → if Region.wanted o' (yielded ops a.tmps) = true then Oper.wp P o' a w K' Q else K' (a.put o'.dst undef) w) :
    AnyK P md ops Q S k (n + 1) L a w :=
  ⟨fun h0 => (by rw [hr] at h0; cases h0), fun m hm => by
    rw [hr] at hm
    rcases List.mem_cons.1 hm with rfl | hm
    · exact wpOp_step ho (fun K' hK => h K' (fun a w hS hW => hK a w ⟨hS, hW⟩))
    · obtain rfl := List.mem_singleton.1 hm
      exact wpOp_step ho' (fun K' hK => h' K' (fun a w hS hW => hK a w ⟨hS, hW⟩))⟩

theorem anyK_done {L : Array Bool} {a : Act} {w : World} (hr : Region.ready md ops L = []) (h : Q .normal a w) : ∀ n, AnyK P md ops Q S k n L a w
  | 0 => ⟨hr, h⟩
  | _ + 1 => ⟨fun _ => h, by rw [hr]; simp⟩

theorem region_anyK {id : Nat} {a : Act} {w : World} (hm : P.follows .mixedOrders = true)
    (h : AnyK P .any ops Q S k ops.size (Array.replicate ops.size false) a w.drew) : (Code.region id ops true).wp P Q a w :=
  wp_region_any hm (anyK_any _ _ _ _ h)
end
end Go.Proofs.Ytkjbcnlhallcdaa
