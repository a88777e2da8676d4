/-
  What the calls on one process leave: a good table stays good; one process another, in a list of the call's own.
-/
import Derived.Test.YtgbckpojoagbnaaGreatDoorRyKeep
import Derived.Test.YtgbckpojoagbnaaGreatDoorRbWake
namespace Go.Proofs.YtgbckpojoagbnaaGreatDoor
open Classical
open Go.RowKit
set_option linter.unusedVariables false
set_option linter.unusedSimpArgs false

/-- One process is another. -/
def setAt (l : List Pro) (p : Int) (f : Pro → Pro) : List Pro := l.set p.toNat (f (l[p.toNat]?.getD pro0))
theorem setAt_of {l : List Pro} {k : Nat} {q : Pro} (h : l[k]? = some q) (f : Pro → Pro) : setAt l (k : Int) f = l.set k (f q) := by simp [setAt, h]
/-- A process that starts. -/
def newP (x pr : Int) : Pro := ⟨0, 0, 0, 0, 0, 0, 0, 0, 0, 0, 0, 0, 0, 0, 0, 0, x, 1, pr, 0, 0⟩
theorem ofE_no {G K X : Prop} [Decidable G] [Decidable K] [Decidable (K ∧ X)] (h : ¬ (G ∧ K)) : ofE G (K ∧ X) = ofE G K := by
  unfold ofE
  by_cases hg : G
  · rw [if_pos hg, if_pos hg, if_neg (fun hk : K ∧ X => h ⟨hg, hk.1⟩), if_neg (fun hk : K => h ⟨hg, hk⟩)]
  · rw [if_neg hg, if_neg hg]
theorem ofE_arg {G K X : Prop} [Decidable G] [Decidable K] [Decidable (K ∧ X)] (hg : G) (hx : ¬ X) : ofE G (K ∧ X) = 12 := by
  unfold ofE
  rw [if_pos hg, if_neg (fun h => hx h.2)]
theorem ofE_ok {G K : Prop} [Decidable G] [Decidable K] (hg : G) (hk : K) : ofE G K = 0 := by
  unfold ofE
  rw [if_pos hg, if_pos hk]
theorem okP_at {l : List Pro} {p : Int} {st : List Int} (h : OkP l p st) : ∃ (k : Nat) (q : Pro), p = (k : Int) ∧ l[k]? = some q ∧ q.state ∈ st := by
  obtain ⟨h0, h1, h2⟩ := h
  obtain ⟨k, rfl⟩ := Int.eq_ofNat_of_zero_le h0
  obtain ⟨q, hq⟩ : ∃ q, l[k]? = some q := ⟨_, List.getElem?_eq_getElem (by omega)⟩
  exact ⟨k, q, rfl, hq, by rw [stateAt_of hq] at h2; exact h2⟩

theorem good_put {l : List Pro} {r : List Int} {t : List Tm} (h : Good l r t) {k : Nat} {q : Pro} (hk : l[k]? = some q) {q' : Pro} {r' : List Int} (hin : q'.In) (hr1 : ∀ i ∈ r', 0 ≤ i ∧ i < (l.length : Int))
    (hrk : r'.count (k : Int) = if q'.state = 1 then 1 else 0) (hro : ∀ j : Nat, j ≠ k → r'.count (j : Int) = r.count (j : Int)) (ht1 : hasT t (k : Int) = true → q'.state = 2) (ht2 : q'.wait = 1 → hasT t (k : Int) = true) : Good (l.set k q') r' t := by
  have hkl := (List.getElem?_eq_some_iff.1 hk).1
  refine ⟨by rw [List.length_set]; exact h.1, fun p hp => ?_, ⟨fun i hi => ?_, fun y hy => ?_⟩, ⟨?_, fun y hy => ?_⟩⟩
  · rcases List.mem_or_eq_of_mem_set hp with hp | rfl
    · exact h.2.1 p hp
    · exact hin
  · rw [List.length_set]
    exact hr1 i hi
  · obtain ⟨p, j⟩ := y
    have hj := List.mem_zipIdx_iff_getElem?.1 hy
    simp only at hj ⊢
    by_cases e : k = j
    · subst e
      rw [List.getElem?_set_self hkl] at hj
      obtain rfl := Option.some.inj hj
      exact hrk
    · rw [List.getElem?_set_ne e] at hj
      rw [hro j (fun e' => e e'.symm)]
      exact (good_at h hj).1
  · rw [List.length_set]
    exact h.2.2.2.1
  · obtain ⟨p, j⟩ := y
    have hj := List.mem_zipIdx_iff_getElem?.1 hy
    simp only at hj ⊢
    by_cases e : k = j
    · subst e
      rw [List.getElem?_set_self hkl] at hj
      obtain rfl := Option.some.inj hj
      exact ⟨ht1, ht2⟩
    · rw [List.getElem?_set_ne e] at hj
      exact (good_at h hj).2
theorem count_out {r : List Int} {p i : Int} (h : i ≠ p) : (outOf r p).count i = r.count i := by
  unfold outOf
  rw [List.count_filter]
  simpa using h
theorem count_out_self (r : List Int) (p : Int) : (outOf r p).count p = 0 := by
  rw [List.count_eq_zero]
  unfold outOf
  simp
theorem good_halt {l : List Pro} {r : List Int} {t : List Tm} (h : Good l r t) {k : Nat} {q : Pro} (hk : l[k]? = some q) (hs : q.state = 1) {st : Int} (hst : st = 0 ∨ st = 3) : Good (l.set k { q with state := st }) (outOf r (k : Int)) t := by
  have hq := h.2.1 q (List.mem_of_getElem? hk)
  obtain ⟨h1, h2, h3, h4, h5⟩ := hq
  have h6 : q.wait = 0 ∧ q.obj = 0 := by
    rcases h5 with ⟨-, a, b⟩ | ⟨a, -⟩
    · exact ⟨a, b⟩
    · omega
  have hn : hasT t (k : Int) = false := by
    cases e : hasT t (k : Int) with
    | false => rfl
    | true => have := (good_at h hk).2.1 e; omega
  refine good_put h hk ⟨h1, h2, h3, h4, .inl ⟨?_, h6⟩⟩ (fun i hi => h.2.2.1.1 i (List.mem_filter.1 hi).1) ?_ (fun j hj => count_out (by omega)) (fun e => by rw [hn] at e; simp at e) (fun e => by simp [h6.1] at e)
  · rcases hst with rfl | rfl
    · exact .inl rfl
    · exact .inr (.inr rfl)
  · rw [count_out_self, if_neg]
    simp only
    omega
theorem good_start {l : List Pro} {r : List Int} {t : List Tm} (h : Good l r t) {k : Nat} {q : Pro} (hk : l[k]? = some q) (hs : q.state = 0 ∨ q.state = 3) (x : Int) {pr : Int} (hp : 0 ≤ pr ∧ pr ≤ 255) : Good (l.set k (newP x pr)) (r ++ [(k : Int)]) t := by
  have hkl := (List.getElem?_eq_some_iff.1 hk).1
  have hn : hasT t (k : Int) = false := by
    cases e : hasT t (k : Int) with
    | false => rfl
    | true => have := (good_at h hk).2.1 e; omega
  refine good_put h hk ⟨rfl, hp.1, hp.2, Int.le_refl _, .inl ⟨.inr (.inl rfl), rfl, rfl⟩⟩ (fun i hi => ?_) ?_ (fun j hj => ?_) (fun e => by rw [hn] at e; simp at e) (fun e => by simp [newP] at e)
  · rcases List.mem_append.1 hi with hi | hi
    · exact h.2.2.1.1 i hi
    · simp at hi; omega
  · rw [List.count_append, (good_at h hk).1, if_neg (by omega)]
    simp [newP]
  · rw [List.count_append]
    have : ([(k : Int)].count (j : Int)) = 0 := by rw [List.count_eq_zero]; simp; omega
    omega
theorem good_rank {l : List Pro} {r : List Int} {t : List Tm} (h : Good l r t) {k : Nat} {q : Pro} (hk : l[k]? = some q) {pr : Int} (hp : 0 ≤ pr ∧ pr ≤ 255) : Good (l.set k { q with prio := pr }) r t := by
  obtain ⟨h1, h2, h3, h4, h5⟩ := h.2.1 q (List.mem_of_getElem? hk)
  exact good_put h hk ⟨h1, hp.1, hp.2, h4, h5⟩ h.2.2.1.1 (good_at h hk).1 (fun _ _ => rfl) (good_at h hk).2.1 (good_at h hk).2.2

/-! A whole process goes into the list. -/
def setMany (xs : List Value) (o : Nat) : List Value → List Value
  | [] => xs
  | v :: vs => setMany (xs.set o v) (o + 1) vs
theorem setMany_mid : ∀ (vs a b c : List Value), b.length = vs.length → setMany (a ++ (b ++ c)) a.length vs = a ++ (vs ++ c)
  | [], a, b, c, h => by
    obtain rfl : b = [] := List.length_eq_zero_iff.1 h
    rfl
  | v :: vs, a, [], c, h => by simp at h
  | v :: vs, a, x :: b, c, h => by
    have ih := setMany_mid vs (a ++ [v]) b c (by simpa using h)
    rw [List.length_append, List.length_cons, List.length_nil, Nat.zero_add] at ih
    show setMany ((a ++ (x :: b ++ c)).set a.length v) (a.length + 1) vs = _
    rw [List.set_append_right _ _ (Nat.le_refl _), Nat.sub_self]
    simpa using ih
theorem setMany_row {l : List Pro} {k : Nat} (hk : k < l.length) (p : Pro) : setMany (l.flatMap Pro.cells) (k * 21) p.cells = (l.set k p).flatMap Pro.cells := by
  have e : l = l.take k ++ (l[k] :: l.drop (k + 1)) := by
    rw [← List.drop_eq_getElem_cons hk, List.take_append_drop]
  have e2 : l.set k p = l.take k ++ (p :: l.drop (k + 1)) := by
    rw [List.set_eq_take_append_cons_drop, if_pos hk]
  rw [e2, List.flatMap_append, List.flatMap_cons]
  conv => lhs; rw [e]
  rw [List.flatMap_append, List.flatMap_cons]
  have h1 : ((l.take k).flatMap Pro.cells).length = k * 21 := by rw [fl_len pro21, List.length_take, Nat.min_eq_left (Nat.le_of_lt hk)]
  rw [← h1]
  exact setMany_mid p.cells _ _ _ rfl
theorem own_setCells {base g n c : Nat} {e : TypeId} {sz : Nat} : ∀ (vs : List Value) (o : Nat) (w : World) (xs : List Value), w.ownsRow base e sz (.slice (some ⟨g, 0, none⟩) n c) n xs → (w.setCells g o vs).ownsRow base e sz (.slice (some ⟨g, 0, none⟩) n c) n (setMany xs o vs)
  | [], o, w, xs, h => h
  | v :: vs, o, w, xs, h => own_setCells vs (o + 1) (w.setCell ⟨g, o, none⟩ v) (xs.set o v) (World.ownsRow.stored h o v).1
theorem far_setCells {base g : Nat} {e : TypeId} {sz n : Nat} {v : Value} {cs : List Value} (hne : v.ownBlock ≠ some g) : ∀ (vs : List Value) (o : Nat) (w : World), w.ownsRow base e sz v n cs → (w.setCells g o vs).ownsRow base e sz v n cs
  | [], o, w, h => h
  | u :: vs, o, w, h => far_setCells hne vs (o + 1) (w.setCell ⟨g, o, none⟩ u) (ownsRow_far h (p := ⟨g, o, none⟩) hne u)
theorem bl_farCells {g g' : Nat} {cs : List Value} (hne : g' ≠ g) : ∀ (vs : List Value) (o : Nat) (w : World), Bl w g cs → Bl (w.setCells g' o vs) g cs
  | [], o, w, h => h
  | u :: vs, o, w, h => bl_farCells hne vs (o + 1) (w.setCell ⟨g', o, none⟩ u) (h.far hne)
theorem setCells_sz (g : Nat) : ∀ (vs : List Value) (o : Nat) (w : World), (w.setCells g o vs).heap.size = w.heap.size
  | [], o, w => rfl
  | u :: vs, o, w => (setCells_sz g vs (o + 1) (w.setCell ⟨g, o, none⟩ u)).trans (by simp [World.setCell])
theorem below_cells {B g : Nat} {a : World} (hg : B ≤ g) : ∀ (vs : List Value) (o : Nat) (w : World), Below B a w → Below B a (w.setCells g o vs)
  | [], o, w, h => h
  | u :: vs, o, w, h => below_cells hg vs (o + 1) (w.setCell ⟨g, o, none⟩ u) (h.setCell (p := ⟨g, o, none⟩) hg u)
theorem Mine.putRow {w : World} {base tb g n1 c1 : Nat} {v2 v3 : Value} {l : List Pro} {r : List Int} {t : List Tm} (h : Mine w base tb (.slice (some ⟨g, 0, none⟩) n1 c1) v2 v3 l r t) {k : Nat} (hk : k < l.length) (p : Pro) :
    Mine (w.setCells g (k * 21) p.cells) base tb (.slice (some ⟨g, 0, none⟩) n1 c1) v2 v3 (l.set k p) r t := by
  have sep : ∀ {v : Value}, Sep (.slice (some ⟨g, 0, none⟩) n1 c1) v → v.ownBlock ≠ some g := fun hs e => by
    rcases hs with e' | e'
    · simp [Value.ownBlock] at e'
    · exact e' (by rw [e]; rfl)
  have hp : PrOwn (w.setCells g (k * 21) p.cells) base (.slice (some ⟨g, 0, none⟩) n1 c1) (l.set k p) := by
    obtain ⟨a, c, e, _⟩ := prown_pros h.tab.p
    simp only [Value.slice.injEq] at e
    obtain ⟨-, e2, -⟩ := e
    subst e2
    have := own_setCells p.cells (k * 21) w _ h.tab.p
    rw [setMany_row hk] at this
    unfold PrOwn
    rw [List.length_set]
    exact this
  refine ⟨bl_farCells (fun e => h.f1 (by rw [← e]; rfl)) _ _ _ h.bl, ⟨hp, far_setCells (sep h.tab.s12) _ _ _ h.tab.r, far_setCells (sep h.tab.s13) _ _ _ h.tab.t, h.tab.s12, h.tab.s13, h.tab.s23⟩, h.f1, h.f2, h.f3, h.hb, ?_⟩
  rw [setCells_sz]
  exact h.lt
theorem own_cellB {w : World} {base g n c : Nat} {l : List Pro} (h : PrOwn w base (.slice (some ⟨g, 0, none⟩) n c) l) {k : Nat} {q : Pro} (hk : l[k]? = some q) {j : Nat} (hj : j < 21) {v : Value} (hv : q.cells[j]? = some v) : w.cell? ⟨g, k * 21 + j, none⟩ = some v := by
  obtain ⟨a, c', e, hp⟩ := prown_pros h
  simp only [Value.slice.injEq] at e
  obtain ⟨rfl, -, rfl⟩ := e
  obtain ⟨b, off, e, hr⟩ := hp.at pro21 (by decide) hk
  simp only [Option.some.injEq, Addr.mk.injEq, and_true] at e
  obtain ⟨rfl, rfl⟩ := e
  have := hr j v hv
  simpa using this
theorem own_freeB {w : World} {base g n c : Nat} {l : List Pro} (h : PrOwn w base (.slice (some ⟨g, 0, none⟩) n c) l) (j : Nat) : w.frozen? ⟨g, j, none⟩ = false := by
  obtain ⟨a, c', e, hp⟩ := prown_pros h
  simp only [Value.slice.injEq] at e
  obtain ⟨-, rfl, -⟩ := e
  exact World.ownsRow.frozenAt h j
end Go.Proofs.YtgbckpojoagbnaaGreatDoor
