/-
  Who has the greatest priority, turn by turn: no program in it.
-/
import Derived.Test.YtinhgcpehnjhbaaDoorRyMath
namespace Go.Proofs.YtinhgcpehnjhbaaDoor
open Classical
set_option linter.unusedVariables false
set_option linter.unusedSimpArgs false

/-- Those of the queue that have the priority m, in their order. -/
def topsOf (l : List Pro) (m : Int) (r : List Int) : List Int := r.filter fun i => decide (prioAt l i = m)
theorem bestF_keep {l : List Pro} {m b : Int} (hb : prioAt l b = m) : ∀ {r : List Int}, (∀ i ∈ r, prioAt l i ≤ m) → bestF l b r = b
  | [], _ => rfl
  | z :: r, h => by
    have hz := h z (by simp)
    show bestF l (pickS l b z) r = b
    have : pickS l b z = b := by unfold pickS; rw [if_neg (by omega)]
    rw [this]
    exact bestF_keep hb (fun i hi => h i (by simp [hi]))
theorem bestF_top {l : List Pro} {m y : Int} {T : List Int} : ∀ {r : List Int} {b : Int}, prioAt l b < m → (∀ i ∈ r, prioAt l i ≤ m) → topsOf l m r = y :: T → bestF l b r = y
  | [], b, _, _, h => by simp [topsOf] at h
  | z :: r, b, hb, hr, h => by
    have hz := hr z (by simp)
    show bestF l (pickS l b z) r = y
    by_cases e : prioAt l z = m
    · have h1 : topsOf l m (z :: r) = z :: topsOf l m r := List.filter_cons_of_pos (by simpa using e)
      rw [h1] at h
      obtain ⟨rfl, _⟩ := List.cons.inj h
      have : pickS l b z = z := by unfold pickS; rw [if_pos (by omega)]
      rw [this]
      exact bestF_keep e (fun i hi => hr i (by simp [hi]))
    · have h1 : topsOf l m (z :: r) = topsOf l m r := List.filter_cons_of_neg (by simpa using e)
      rw [h1] at h
      refine bestF_top ?_ (fun i hi => hr i (by simp [hi])) h
      unfold pickS
      split
      · omega
      · exact hb
theorem pick_top {l : List Pro} {r : List Int} {t : List Tm} {m y : Int} {T : List Int} (hg : Good l r t) (hr : ∀ i ∈ r, prioAt l i ≤ m) (h : topsOf l m r = y :: T) : pickP l r t = y ∧ pickE l r t = 0 := by
  cases r with
  | nil => simp [topsOf] at h
  | cons x s =>
    refine ⟨?_, by unfold pickE; rw [if_neg (by simpa using hg), if_neg (by simp)]⟩
    unfold pickP
    rw [if_pos hg]
    show bestF l (pickS l x x) s = y
    rw [bestF_self]
    by_cases e : prioAt l x = m
    · have h1 : topsOf l m (x :: s) = x :: topsOf l m s := List.filter_cons_of_pos (by simpa using e)
      rw [h1] at h
      obtain ⟨rfl, _⟩ := List.cons.inj h
      exact bestF_keep e (fun i hi => hr i (by simp [hi]))
    · have h1 : topsOf l m (x :: s) = topsOf l m s := List.filter_cons_of_neg (by simpa using e)
      rw [h1] at h
      have := hr x (by simp)
      exact bestF_top (by omega) (fun i hi => hr i (by simp [hi])) h
/-- Behind a yield of the first of them it is their last. -/
theorem tops_yield {l : List Pro} {m y : Int} {r T : List Int} (hn : r.Nodup) (h : topsOf l m r = y :: T) : topsOf l m (outOf r y ++ [y]) = T ++ [y] := by
  have hmem : y ∈ topsOf l m r := by rw [h]; simp
  have hy := (List.mem_filter.1 hmem).2
  have hnt : (y :: T).Nodup := by rw [← h]; exact hn.sublist List.filter_sublist
  unfold topsOf at *
  rw [List.filter_append]
  have h1 : (outOf r y).filter (fun i => decide (prioAt l i = m)) = T := by
    unfold outOf
    rw [List.filter_filter]
    have : (r.filter fun x => decide (prioAt l x = m) && (x != y)) = (r.filter fun i => decide (prioAt l i = m)).filter fun x => x != y := by
      rw [List.filter_filter]
      refine List.filter_congr fun x _ => Bool.and_comm _ _
    rw [this, h, List.filter_cons_of_neg (by simp)]
    refine List.filter_eq_self.2 fun x hx => ?_
    simp
    rintro rfl
    exact (List.nodup_cons.1 hnt).1 hx
  rw [h1]
  simp [of_decide_eq_true hy]
theorem yield_perm {r : List Int} {y : Int} (hn : r.Nodup) (hy : y ∈ r) : (outOf r y ++ [y]).Perm r := by
  have h1 : outOf r y = r.erase y := by
    unfold outOf
    rw [hn.erase_eq_filter]
  rw [h1]
  exact (List.perm_append_comm).trans (List.perm_cons_erase hy).symm
theorem goodR_perm {l : List Pro} {r r' : List Int} (h : GoodR l r) (hp : r'.Perm r) : GoodR l r' :=
  ⟨fun i hi => h.1 i (hp.mem_iff.1 hi), fun x hx => by rw [hp.count_eq]; exact h.2 x hx⟩
theorem good_perm {l : List Pro} {r r' : List Int} {t : List Tm} (h : Good l r t) (hp : r'.Perm r) : Good l r' t := ⟨h.1, h.2.1, goodR_perm h.2.2.1 hp, h.2.2.2⟩
/-- The greatest priority. -/
def mxS (l : List Pro) (m i : Int) : Int := if m < prioAt l i then prioAt l i else m
def mxF (l : List Pro) (r : List Int) : Int := r.foldl (mxS l) (-1)
theorem mxF_take (l : List Pro) {r : List Int} {k : Nat} {y : Int} (h : r[k]? = some y) : mxF l (r.take (k + 1)) = mxS l (mxF l (r.take k)) y := by
  unfold mxF
  rw [List.take_add_one, h, List.foldl_append]
  rfl
theorem mx_le (l : List Pro) : ∀ (r : List Int) (m : Int), m ≤ r.foldl (mxS l) m ∧ ∀ i ∈ r, prioAt l i ≤ r.foldl (mxS l) m
  | [], m => ⟨Int.le_refl _, fun i hi => by simp at hi⟩
  | z :: r, m => by
    have ih := mx_le l r (mxS l m z)
    have h1 : m ≤ mxS l m z ∧ prioAt l z ≤ mxS l m z := by unfold mxS; split <;> constructor <;> omega
    refine ⟨Int.le_trans h1.1 ih.1, fun i hi => ?_⟩
    rcases List.mem_cons.1 hi with rfl | hi
    · exact Int.le_trans h1.2 ih.1
    · exact ih.2 i hi
theorem tops_take {l : List Pro} {m : Int} {r : List Int} {k : Nat} {y : Int} (h : r[k]? = some y) : (topsOf l m (r.take (k + 1))).length = (topsOf l m (r.take k)).length + if prioAt l y = m then 1 else 0 := by
  unfold topsOf
  rw [List.take_add_one, h, List.filter_append, List.length_append]
  by_cases e : prioAt l y = m
  · simp [e]
  · simp [e]
/-- One that is among them is in its place. -/
theorem tops_mem {l : List Pro} {m i : Int} {r : List Int} (h : i ∈ topsOf l m r) : i ∈ r ∧ prioAt l i = m := by
  have := List.mem_filter.1 h
  exact ⟨this.1, of_decide_eq_true this.2⟩
end Go.Proofs.YtinhgcpehnjhbaaDoor
