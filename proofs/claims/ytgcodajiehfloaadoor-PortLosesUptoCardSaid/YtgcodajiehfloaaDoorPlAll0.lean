/-
  Lists of plans and ports: what stands against them.
-/
import Derived.Test.YtgcodajiehfloaaDoorPlBase
import Derived.Test.YtgcodajiehfloaaDoorPtCheck
namespace Go.Proofs.YtgcodajiehfloaaDoor
open Go.RowKit
set_option linter.unusedVariables false
set_option linter.unusedSimpArgs false

/-- The first plan that isn't in form; the first port that doesn't fit its plan. -/
def badPlan (ps : List Plv) : Option Nat := ps.findIdx? fun p => p.err != 0
def fitK (p : Plv) (x : Key) : Bool := fitB p.k p.s p.d x.1 x.2
def badPort (ps : List Plv) (ks : List Key) : Option Nat := (ps.zip ks).findIdx? fun x => !fitK x.1 x.2
/-- The number of the error and its place. -/
def allE (ps : List Plv) (ks : List Key) : Nat × Int :=
  if ps.length = ks.length then
    match badPlan ps with
    | some i => (8, (i : Int))
    | none => match badPort ps ks with
      | some i => (9, (i : Int))
      | none => (0, -1)
  else (12, -1)
theorem allE_len {ps : List Plv} {ks : List Key} (h : ¬ ps.length = ks.length) : allE ps ks = (12, -1) := by unfold allE; rw [if_neg h]
theorem badPlan_at {ps : List Plv} {k : Nat} {p : Plv} (hp : ps[k]? = some p) (hb : ¬ p.err = 0) (h : ∀ j q, j < k → ps[j]? = some q → q.err = 0) : badPlan ps = some k := by
  obtain ⟨hk, e⟩ := List.getElem?_eq_some_iff.1 hp
  refine List.findIdx?_eq_some_iff_getElem.2 ⟨hk, by rw [e]; simpa using hb, fun j hj => ?_⟩
  have := h j _ hj (List.getElem?_eq_getElem (by omega))
  simpa using this
theorem badPlan_no {ps : List Plv} (h : ∀ j q, j < ps.length → ps[j]? = some q → q.err = 0) : badPlan ps = none := by
  refine List.findIdx?_eq_none_iff.2 fun p hp => ?_
  obtain ⟨j, hj⟩ := List.mem_iff_getElem?.1 hp
  have := h j p (List.getElem?_eq_some_iff.1 hj).1 hj
  simpa using this
theorem zip_at {ps : List Plv} {ks : List Key} {k : Nat} {p : Plv} {x : Key} (hp : ps[k]? = some p) (hx : ks[k]? = some x) : (ps.zip ks)[k]? = some (p, x) := List.getElem?_zip_eq_some.2 ⟨hp, hx⟩
theorem badPort_at {ps : List Plv} {ks : List Key} {k : Nat} {p : Plv} {x : Key} (hp : ps[k]? = some p) (hx : ks[k]? = some x) (hb : fitK p x = false) (h : ∀ j q y, j < k → ps[j]? = some q → ks[j]? = some y → fitK q y = true) : badPort ps ks = some k := by
  have hz := zip_at hp hx
  obtain ⟨hk, e⟩ := List.getElem?_eq_some_iff.1 hz
  refine List.findIdx?_eq_some_iff_getElem.2 ⟨hk, by rw [e]; simpa using hb, fun j hj => ?_⟩
  have hj2 : (ps.zip ks)[j]? = some (ps.zip ks)[j] := List.getElem?_eq_getElem (by omega)
  obtain ⟨h1, h2⟩ := List.getElem?_zip_eq_some.1 hj2
  have := h j _ _ hj h1 h2
  simpa using this
theorem badPort_no {ps : List Plv} {ks : List Key} (h : ∀ j q y, j < ps.length → ps[j]? = some q → ks[j]? = some y → fitK q y = true) : badPort ps ks = none := by
  refine List.findIdx?_eq_none_iff.2 fun x hx => ?_
  obtain ⟨j, hj⟩ := List.mem_iff_getElem?.1 hx
  obtain ⟨h1, h2⟩ := List.getElem?_zip_eq_some.1 hj
  have := h j _ _ (List.getElem?_eq_some_iff.1 h1).1 h1 h2
  simpa using this
theorem allE_plan {ps : List Plv} {ks : List Key} {k : Nat} (hl : ps.length = ks.length) (h : badPlan ps = some k) : allE ps ks = (8, (k : Int)) := by unfold allE; rw [if_pos hl, h]
theorem allE_port {ps : List Plv} {ks : List Key} {k : Nat} (hl : ps.length = ks.length) (h : badPlan ps = none) (h2 : badPort ps ks = some k) : allE ps ks = (9, (k : Int)) := by unfold allE; rw [if_pos hl, h, h2]
theorem allE_no {ps : List Plv} {ks : List Key} (hl : ps.length = ks.length) (h : badPlan ps = none) (h2 : badPort ps ks = none) : allE ps ks = (0, -1) := by unfold allE; rw [if_pos hl, h, h2]
theorem allE_zero {ps : List Plv} {ks : List Key} (h : (allE ps ks).1 = 0) : ps.length = ks.length ∧ badPlan ps = none ∧ badPort ps ks = none := by
  unfold allE at h
  by_cases hl : ps.length = ks.length
  · rw [if_pos hl] at h
    cases h1 : badPlan ps with
    | some i => rw [h1] at h; simp at h
    | none =>
      rw [h1] at h
      cases h2 : badPort ps ks with
      | some i => rw [h2] at h; simp at h
      | none => exact ⟨hl, rfl, rfl⟩
  · rw [if_neg hl] at h
    simp at h
theorem good_plan {ps : List Plv} (h : badPlan ps = none) {k : Nat} {p : Plv} (hp : ps[k]? = some p) : p.err = 0 := by
  have := List.findIdx?_eq_none_iff.1 h p (List.mem_of_getElem? hp)
  simpa using this
theorem good_port {ps : List Plv} {ks : List Key} (h : badPort ps ks = none) {k : Nat} {p : Plv} {x : Key} (hp : ps[k]? = some p) (hx : ks[k]? = some x) : fitK p x = true := by
  have := List.findIdx?_eq_none_iff.1 h (p, x) (List.mem_of_getElem? (zip_at hp hx))
  simpa using this
/-- The check of one. -/
def chkK (p : Plv) (x : Key) : Nat := chkErr p.k p.s p.d p.r x.1 x.2
theorem chkK_zero {p : Plv} {x : Key} (h1 : p.err = 0) (h2 : fitK p x = true) : chkK p x = 0 := by
  unfold chkK chkErr
  unfold Plv.err at h1
  unfold fitK at h2
  rw [if_pos h1, if_pos h2]
end Go.Proofs.YtgcodajiehfloaaDoor
