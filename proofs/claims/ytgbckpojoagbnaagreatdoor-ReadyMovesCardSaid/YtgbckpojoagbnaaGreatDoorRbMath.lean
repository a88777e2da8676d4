/-
  A process blocks: the table behind it, and that who blocks and is woken is where a yield would have put it. No program in it.
-/
import Derived.Test.YtgbckpojoagbnaaGreatDoorRyMath
namespace Go.Proofs.YtgbckpojoagbnaaGreatDoor
open Classical
set_option linter.unusedVariables false
set_option linter.unusedSimpArgs false

namespace Rb
open Classical
def oth (l : List Tm) (p : Int) : List Tm := l.filter fun t => t.proc != p
/-- A process that waits. -/
def blockP (q : Pro) (wt ob : Int) : Pro := { q with state := 2, wait := wt, obj := ob }
/-- The timers behind it. -/
def blkT (t : List Tm) (p d : Int) : List Tm := if d = -1 then t else srt (oth t p ++ [⟨p, d⟩])
def WaitOk (wt ob d : Int) : Prop := 1 ≤ wt ∧ wt ≤ 4 ∧ 0 ≤ ob ∧ -1 ≤ d ∧ (wt = 1 → ob = 0 ∧ d ≠ -1)
def setE (l : List Tm) (p d : Int) [Decidable (Form l 8)] : Nat := if ¬ Form l 8 then 9 else if ¬ (0 ≤ p ∧ p < 8 ∧ 0 ≤ d ∧ d ≤ 1010000) then 12 else 0
def setL (l : List Tm) (p d : Int) [Decidable (Form l 8)] : List Tm := if Form l 8 ∧ (0 ≤ p ∧ p < 8 ∧ 0 ≤ d ∧ d ≤ 1010000) then srt (oth l p ++ [⟨p, d⟩]) else []
theorem oth_self {t : List Tm} {p : Int} (h : hasT t p = false) : oth t p = t := List.filter_eq_self.2 fun x hx => by
  have := List.any_eq_false.1 h x hx
  simpa using this
/-- The timer that a block sets is the one that a wake drops. -/
theorem blk_drop {t : List Tm} {p : Int} (ho : Ord t) (h : hasT t p = false) (d : Int) : oth (blkT t p d) p = t := by
  unfold blkT
  split
  · exact oth_self h
  · refine ord_unique (List.Pairwise.sublist List.filter_sublist (srt_ord _)) ho ?_
    have h1 : (oth (srt (oth t p ++ [⟨p, d⟩])) p).Perm (oth (oth t p ++ [⟨p, d⟩]) p) := (srt_perm _).filter _
    refine h1.trans ?_
    rw [oth_self h]
    have : oth (t ++ [⟨p, d⟩]) p = t := by
      unfold oth
      rw [List.filter_append]
      have h2 := oth_self h
      unfold oth at h2
      rw [h2]
      simp
    rw [this]
theorem hasT_perm {a b : List Tm} (h : a.Perm b) (i : Int) : hasT a i = hasT b i := by
  unfold hasT
  exact h.any_eq
theorem hasT_blk {t : List Tm} {p : Int} (h : hasT t p = false) (d i : Int) : hasT (blkT t p d) i = (hasT t i || (decide (d ≠ -1) && decide (p = i))) := by
  unfold blkT
  split
  · rename_i hd
    simp [hd]
  · rename_i hd
    rw [hasT_perm (srt_perm _), oth_self h]
    unfold hasT
    rw [List.any_append]
    simp [hd, BEq.beq, eq_comm]
theorem good_atB {l : List Pro} {r : List Int} {t : List Tm} (h : Good l r t) {k : Nat} {p : Pro} (hk : l[k]? = some p) : r.count (k : Int) = (if p.state = 1 then 1 else 0) ∧ (hasT t (k : Int) = true → p.state = 2) ∧ (p.wait = 1 → hasT t (k : Int) = true) :=
  ⟨h.2.2.1.2 (p, k) (List.mem_zipIdx_iff_getElem?.2 hk), h.2.2.2.2 (p, k) (List.mem_zipIdx_iff_getElem?.2 hk)⟩
theorem no_timer {l : List Pro} {r : List Int} {t : List Tm} (h : Good l r t) {k : Nat} {q : Pro} (hk : l[k]? = some q) (hs : q.state = 1) : hasT t (k : Int) = false := by
  cases hh : hasT t (k : Int)
  · rfl
  · have := (good_atB h hk).2.1 hh
    omega
/-- A good table stays good when one that is ready blocks. -/
theorem good_block {l : List Pro} {r : List Int} {t : List Tm} (h : Good l r t) {k : Nat} {q : Pro} (hk : l[k]? = some q) (hs : q.state = 1) {wt ob d : Int} (hw : WaitOk wt ob d) (hd : d = -1 ∨ (0 ≤ d ∧ d ≤ 1010000)) :
    Good (l.set k (blockP q wt ob)) (outOf r (k : Int)) (blkT t (k : Int) d) := by
  have hkl := (List.getElem?_eq_some_iff.1 hk).1
  have hnt := no_timer h hk hs
  refine ⟨by rw [List.length_set]; exact h.1, fun p hp => ?_, ⟨fun i hi => ?_, fun y hy => ?_⟩, ⟨?_, fun y hy => ?_⟩⟩
  · rcases List.mem_or_eq_of_mem_set hp with hp | rfl
    · exact h.2.1 p hp
    · have hq := h.2.1 q (List.mem_of_getElem? hk)
      unfold Pro.In at hq ⊢
      unfold WaitOk at hw
      refine ⟨hq.1, hq.2.1, hq.2.2.1, hw.2.2.1, .inr ⟨rfl, ?_⟩⟩
      show (wt = 1 ∧ ob = 0) ∨ (2 ≤ wt ∧ wt ≤ 4)
      by_cases h1 : wt = 1
      · exact .inl ⟨h1, (hw.2.2.2.2 h1).1⟩
      · exact .inr ⟨by omega, by omega⟩
  · rw [List.length_set]
    exact h.2.2.1.1 i (List.mem_filter.1 hi).1
  · obtain ⟨p, j⟩ := y
    have hj := List.mem_zipIdx_iff_getElem?.1 hy
    simp only at hj ⊢
    by_cases e : k = j
    · subst e
      rw [List.getElem?_set_self hkl] at hj
      obtain rfl := Option.some.inj hj
      have : (outOf r (k : Int)).count (k : Int) = 0 := by rw [List.count_eq_zero]; unfold outOf; simp
      rw [this]
      simp [blockP]
    · rw [List.getElem?_set_ne e] at hj
      rw [← (good_atB h hj).1]
      unfold outOf
      rw [List.count_filter (by simp; omega)]
  · rw [List.length_set]
    unfold blkT
    split
    · exact h.2.2.2.1
    · rename_i hd1
      rw [oth_self hnt]
      have hf := h.2.2.2.1
      refine form_srt (fun x hx => ?_) ?_
      · rcases List.mem_append.1 hx with hx | hx
        · exact hf.1 x hx
        · simp only [List.mem_cons, List.not_mem_nil, or_false] at hx
          subst hx
          refine ⟨by simp, by simpa using hkl, ?_, ?_⟩ <;> simp only <;> omega
      · unfold Nod
        rw [List.map_append, List.nodup_append]
        refine ⟨hf.2.1, by simp, fun a ha b hb e => ?_⟩
        simp only [List.map_cons, List.map_nil, List.mem_cons, List.not_mem_nil, or_false] at hb
        subst hb e
        obtain ⟨x, hx, hxe⟩ := List.mem_map.1 ha
        have := List.any_eq_false.1 hnt x hx
        simp [hxe] at this
  · obtain ⟨p, j⟩ := y
    have hj := List.mem_zipIdx_iff_getElem?.1 hy
    simp only at hj ⊢
    rw [hasT_blk hnt]
    by_cases e : k = j
    · subst e
      rw [List.getElem?_set_self hkl] at hj
      obtain rfl := Option.some.inj hj
      refine ⟨fun _ => rfl, fun hwt => ?_⟩
      have h1 : wt = 1 := hwt
      have := (hw.2.2.2.2 h1).2
      simp [this]
    · rw [List.getElem?_set_ne e] at hj
      have h1 := (good_atB h hj).2
      have h2 : decide ((k : Int) = (j : Int)) = false := by simp; omega
      rw [h2]
      simpa using h1
end Rb
end Go.Proofs.YtgbckpojoagbnaaGreatDoor
