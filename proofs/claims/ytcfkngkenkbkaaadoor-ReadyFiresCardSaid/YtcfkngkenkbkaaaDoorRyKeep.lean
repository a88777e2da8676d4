/-
  A good table stays good: a process that waited is woken; timers fire. No program in it.
-/
import Derived.Test.YtcfkngkenkbkaaaDoorRyFire
namespace Go.Proofs.YtcfkngkenkbkaaaDoor
open Classical
set_option linter.unusedVariables false
set_option linter.unusedSimpArgs false

theorem hasT_others (t : List Tm) (m i : Int) (h : i ≠ m) : hasT (others t m) i = hasT t i := by
  unfold hasT others
  rw [List.any_filter, Bool.eq_iff_iff]
  simp only [List.any_eq_true, Bool.and_eq_true, bne_iff_ne, beq_iff_eq, ne_eq]
  constructor
  · rintro ⟨x, hx, h1, h2⟩; exact ⟨x, hx, h2⟩
  · rintro ⟨x, hx, h2⟩; exact ⟨x, hx, by rw [h2]; exact h, h2⟩
theorem hasT_gone (t : List Tm) (m : Int) : hasT (others t m) m = false := by
  unfold hasT others
  rw [List.any_filter, Bool.eq_false_iff]
  simp
theorem wokenP_in {q : Pro} (h : q.In) (x : Int) : (wokenP q x).In := by
  obtain ⟨h1, h2, h3, h4, h5⟩ := h
  exact ⟨h1, h2, h3, Int.le_refl _, .inl ⟨.inr (.inl rfl), rfl, rfl⟩⟩
theorem good_at {l : List Pro} {r : List Int} {t : List Tm} (h : Good l r t) {k : Nat} {p : Pro} (hk : l[k]? = some p) : r.count (k : Int) = (if p.state = 1 then 1 else 0) ∧ (hasT t (k : Int) = true → p.state = 2) ∧ (p.wait = 1 → hasT t (k : Int) = true) :=
  ⟨h.2.2.1.2 (p, k) (List.mem_zipIdx_iff_getElem?.2 hk), h.2.2.2.2 (p, k) (List.mem_zipIdx_iff_getElem?.2 hk)⟩
theorem good_wake {l : List Pro} {r : List Int} {t : List Tm} (h : Good l r t) {m : Nat} {q : Pro} (hm : l[m]? = some q) (hs : q.state = 2) (x : Int) : Good (l.set m (wokenP q x)) (r ++ [(m : Int)]) (others t (m : Int)) := by
  have hml := (List.getElem?_eq_some_iff.1 hm).1
  refine ⟨by rw [List.length_set]; exact h.1, fun p hp => ?_, ⟨fun i hi => ?_, fun y hy => ?_⟩, ⟨?_, fun y hy => ?_⟩⟩
  · rcases List.mem_or_eq_of_mem_set hp with hp | rfl
    · exact h.2.1 p hp
    · exact wokenP_in (h.2.1 q (List.mem_of_getElem? hm)) x
  · rw [List.length_set]
    rcases List.mem_append.1 hi with hi | hi
    · exact h.2.2.1.1 i hi
    · simp at hi; omega
  · obtain ⟨p, k⟩ := y
    have hk := List.mem_zipIdx_iff_getElem?.1 hy
    simp only at hk ⊢
    rw [List.count_append]
    by_cases e : m = k
    · subst e
      rw [List.getElem?_set_self hml] at hk
      obtain rfl := Option.some.inj hk
      have := (good_at h hm).1
      rw [this, hs]
      simp [wokenP]
    · rw [List.getElem?_set_ne e] at hk
      rw [(good_at h hk).1]
      have : ([(m : Int)].count (k : Int)) = 0 := by rw [List.count_eq_zero]; simp; omega
      omega
  · rw [List.length_set]
    exact h.2.2.2.1.sub List.filter_sublist
  · obtain ⟨p, k⟩ := y
    have hk := List.mem_zipIdx_iff_getElem?.1 hy
    simp only at hk ⊢
    by_cases e : m = k
    · subst e
      rw [List.getElem?_set_self hml] at hk
      obtain rfl := Option.some.inj hk
      rw [hasT_gone]
      exact ⟨fun e => by simp at e, fun e => by simp [wokenP] at e⟩
    · rw [List.getElem?_set_ne e] at hk
      rw [hasT_others t m k (by omega)]
      exact (good_at h hk).2
theorem others_head {x : Tm} {t : List Tm} (h : Nod (x :: t)) : others (x :: t) x.proc = t := by
  unfold Nod at h
  rw [List.map_cons, List.nodup_cons] at h
  unfold others
  rw [List.filter_cons_of_neg (by simp)]
  exact List.filter_eq_self.2 fun y hy => by
    simp only [bne_iff_ne, ne_eq]
    intro e
    exact h.1 (List.mem_map.2 ⟨y, hy, e⟩)
/-- Firing leaves a good table good; who fired is woken, all others are as they were. -/
theorem good_fire {now : Int} : ∀ {t : List Tm} {l : List Pro} {r : List Int}, Good l r t → Good (fireAll l r (firedI t now)).1 (fireAll l r (firedI t now)).2 (left t now)
  | [], l, r, h => h
  | x :: t, l, r, h => by
    by_cases h1 : x.due ≤ now
    · have e1 : firedI (x :: t) now = x.proc :: firedI t now := by
        unfold firedI fired
        rw [List.filter_cons_of_pos (by simpa using h1)]
        rfl
      have e2 : left (x :: t) now = left t now := List.filter_cons_of_neg (by simpa using h1)
      have hx := h.2.2.2.1.1 x (by simp)
      unfold Tm.In at hx
      obtain ⟨m, hm⟩ := Int.eq_ofNat_of_zero_le hx.1
      obtain ⟨q, hq⟩ : ∃ q, l[m]? = some q := ⟨_, List.getElem?_eq_getElem (by omega)⟩
      have hst := (good_at h hq).2.1 (by unfold hasT; simp [hm])
      have hw := good_wake h hq hst (lateR q)
      rw [← hm, others_head h.2.2.2.1.2.1] at hw
      have ih := good_fire (now := now) hw
      rw [e1, e2]
      have : fireAll l r (x.proc :: firedI t now) = fireAll (l.set m (wokenP q (lateR q))) (r ++ [x.proc]) (firedI t now) := by
        unfold fireAll
        rw [List.foldl_cons, hm, fireStep_of hq]
      rw [this]
      exact ih
    · have hall : ∀ y ∈ x :: t, now < y.due := by
        intro y hy
        have ho := List.pairwise_cons.1 h.2.2.2.1.2.2
        rcases List.mem_cons.1 hy with rfl | hy
        · omega
        · have := (Tm.le_iff _ _).1 (ho.1 y hy)
          omega
      unfold firedI
      rw [fired_all hall, left_all hall]
      exact h
theorem fireAll_other {i : Nat} : ∀ {is : List Int} {l : List Pro} {r : List Int}, (∀ j ∈ is, 0 ≤ j) → (i : Int) ∉ is → (fireAll l r is).1[i]? = l[i]?
  | [], l, r, _, _ => rfl
  | j :: is, l, r, h0, h => by
    have hj := h0 j (by simp)
    have hne : j.toNat ≠ i := fun e => h (by rw [← e]; simp; left; omega)
    show (is.foldl fireStep (fireStep (l, r) j)).1[i]? = l[i]?
    have ih := fireAll_other (i := i) (is := is) (l := (fireStep (l, r) j).1) (r := (fireStep (l, r) j).2) (fun k hk => h0 k (by simp [hk])) (fun hk => h (by simp [hk]))
    refine Eq.trans ih ?_
    unfold fireStep
    rw [List.getElem?_set_ne hne]
theorem fireAll_at {i : Nat} {q : Pro} : ∀ {is : List Int} {l : List Pro} {r : List Int}, (∀ j ∈ is, 0 ≤ j) → is.Nodup → (i : Int) ∈ is → l[i]? = some q → (fireAll l r is).1[i]? = some (wokenP q (lateR q))
  | [], l, r, _, _, h, _ => by simp at h
  | j :: is, l, r, h0, hn, h, hq => by
    have hn' := List.nodup_cons.1 hn
    have hi := (List.getElem?_eq_some_iff.1 hq).1
    by_cases e : j = (i : Int)
    · subst e
      have ih := fireAll_other (i := i) (is := is) (l := (fireStep (l, r) (i : Int)).1) (r := (fireStep (l, r) (i : Int)).2) (fun k hk => h0 k (by simp [hk])) hn'.1
      show (is.foldl fireStep (fireStep (l, r) (i : Int))).1[i]? = _
      refine Eq.trans ih ?_
      rw [fireStep_of (s := (l, r)) hq]
      exact List.getElem?_set_self hi
    · have hj := h0 j (by simp)
      have hne : j.toNat ≠ i := fun e' => e (by omega)
      have h2 : (i : Int) ∈ is := by
        rcases List.mem_cons.1 h with h | h
        · exact absurd h.symm e
        · exact h
      refine fireAll_at (is := is) (l := (fireStep (l, r) j).1) (r := (fireStep (l, r) j).2) (fun k hk => h0 k (by simp [hk])) hn'.2 h2 ?_
      unfold fireStep
      rw [List.getElem?_set_ne hne]
      exact hq
/-- Fired at one time and then at a later one. -/
theorem fire_twice {now later : Int} (hl : now ≤ later) {l : List Pro} {r : List Int} {t : List Tm} (h : Good l r t) : firedI t now ++ firedI (left t now) later = firedI t later ∧ left (left t now) later = left t later ∧ fireAll (fireAll l r (firedI t now)).1 (fireAll l r (firedI t now)).2 (firedI (left t now) later) = fireAll l r (firedI t later) := by
  have e : firedI t now ++ firedI (left t now) later = firedI t later := by
    unfold firedI
    rw [← List.map_append, fired_steps hl h.2.2.2.1.2.2]
  refine ⟨e, left_left hl t, ?_⟩
  rw [← e]
  unfold fireAll
  rw [List.foldl_append]
end Go.Proofs.YtcfkngkenkbkaaaDoor
