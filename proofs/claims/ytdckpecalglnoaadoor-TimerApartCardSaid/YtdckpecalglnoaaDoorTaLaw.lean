/-
  What the law TimerApart keeps: lists of one's own that share no block, a list with room behind it.
-/
import Derived.Test.YtdckpecalglnoaaDoorTaApart
import Derived.Test.YtdckpecalglnoaaDoorTrPlays
import Derived.Test.YtdckpecalglnoaaDoorTmLaw
namespace Go.Proofs.YtdckpecalglnoaaDoor
open Go.RowKit
set_option linter.unusedVariables false
set_option linter.unusedSimpArgs false

/-- Lists of one's own that share no block. -/
structure Five (w : World) (B : Nat) (LL : List Sl) (MM : List (List Tm)) : Prop where
  all : ∀ (j : Nat) (s : Sl), LL[j]? = some s → ∃ m, MM[j]? = some m ∧ TOwn w B s.v m ∧ m.length = s.n
  apt : Apt LL
theorem Five.nil (w : World) (B : Nat) : Five w B [] [] := ⟨fun j s hs => by simp at hs, fun i j s t g hs => by simp at hs⟩
theorem Five.below {w w' : World} {B : Nat} {LL : List Sl} {MM : List (List Tm)} (h : Five w B LL MM) (hb : Below w.heap.size w w') : Five w' B LL MM :=
  ⟨fun j s hs => by obtain ⟨m, h1, h2, h3⟩ := h.all j s hs; exact ⟨m, h1, ownsRow_below h2 hb, h3⟩, h.apt⟩
theorem Five.snoc {w w' : World} {B : Nat} {LL : List Sl} {MM : List (List Tm)} (h : Five w B LL MM) (hl : LL.length = MM.length) (hb : Below w.heap.size w w') (hB : B ≤ w.heap.size) {v : Value} {m : List Tm} (ho : TOwn w' w.heap.size v m) : ∃ a c, v = .slice a m.length c ∧ Five w' B (LL ++ [⟨a, m.length, c⟩]) (MM ++ [m]) := by
  obtain ⟨a, c, rfl, ht⟩ := town_tms ho
  refine ⟨a, c, rfl, ⟨fun j s hs => ?_, fun i j s t g hs ht hg hg' => ?_⟩⟩
  · by_cases hj : j < LL.length
    · rw [List.getElem?_append_left hj] at hs
      obtain ⟨m', h1, h2, h3⟩ := h.all j s hs
      exact ⟨m', by rw [List.getElem?_append_left (by omega)]; exact h1, ownsRow_below h2 hb, h3⟩
    · rw [List.getElem?_append_right (by omega)] at hs
      have hj0 : j - LL.length = 0 := by
        have := (List.getElem?_eq_some_iff.1 hs).1
        simp at this
        omega
      rw [hj0] at hs
      simp only [List.getElem?_cons_zero, Option.some.injEq] at hs
      subst hs
      exact ⟨m, by rw [List.getElem?_append_right (by omega), show j - MM.length = 0 by omega]; rfl, ownsRow_weaken ho hB, rfl⟩
  · have old : ∀ (k : Nat) (r : Sl), k < LL.length → (LL ++ [⟨a, m.length, c⟩])[k]? = some r → r.v.ownBlock = some g → g < w.heap.size := fun k r hk hr hgr => by
      rw [List.getElem?_append_left hk] at hr
      obtain ⟨m', _, h2, _⟩ := h.all k r hr
      exact (World.ownsRow.lt h2 g hgr).2
    have new : ∀ (k : Nat) (r : Sl), ¬ k < LL.length → (LL ++ [⟨a, m.length, c⟩])[k]? = some r → r.v.ownBlock = some g → w.heap.size ≤ g ∧ k = LL.length := fun k r hk hr hgr => by
      have hk1 := (List.getElem?_eq_some_iff.1 hr).1
      simp at hk1
      have hk2 : k = LL.length := by omega
      rw [List.getElem?_append_right (by omega), hk2, Nat.sub_self] at hr
      simp only [List.getElem?_cons_zero, Option.some.injEq] at hr
      subst hr
      exact ⟨(World.ownsRow.lt ho g hgr).1, hk2⟩
    by_cases hi : i < LL.length
    · by_cases hj : j < LL.length
      · rw [List.getElem?_append_left hi] at hs
        rw [List.getElem?_append_left hj] at ht
        exact h.apt i j s t g hs ht hg hg'
      · have h1 := old i s hi hs hg
        have h2 := (new j t hj ht hg').1
        omega
    · by_cases hj : j < LL.length
      · have h1 := old j t hj ht hg'
        have h2 := (new i s hi hs hg).1
        omega
      · rw [(new i s hi hs hg).2, (new j t hj ht hg').2]
theorem Five.tms {w : World} {B : Nat} {LL : List Sl} {MM : List (List Tm)} (h : Five w B LL MM) (j : Nat) {a : Option Addr} {n c : Nat} {m : List Tm} (hs : LL[j]? = some ⟨a, n, c⟩) (hm : MM[j]? = some m) : Tms w a n c m := by
  obtain ⟨m', h1, h2, h3⟩ := h.all j _ hs
  rw [hm] at h1
  obtain rfl := Option.some.inj h1
  obtain ⟨a', c', e, ht⟩ := town_tms h2
  simp only [Sl.v, Value.slice.injEq] at e
  obtain ⟨rfl, e2, rfl⟩ := e
  rw [e2]
  exact ht
theorem Five.lists {w : World} {B : Nat} {LL : List Sl} {MM : List (List Tm)} (h : Five w B LL MM) : Lists w B LL (fun j => (MM[j]?).getD []) :=
  ⟨fun j s hs => by obtain ⟨m, h1, h2, h3⟩ := h.all j s hs; show TOwn w B s.v ((MM[j]?).getD []); rw [h1]; exact h2, fun j s hs => by obtain ⟨m, h1, h2, h3⟩ := h.all j s hs; show ((MM[j]?).getD []).length = s.n; rw [h1]; exact h3⟩
def z9 : List Tm := List.replicate 9 ⟨0, 0⟩
/-- The list with room behind it: what it shows. -/
theorem front_tms {w : World} {base g n : Nat} {M : List Tm} (h : TOwn w base (.slice (some ⟨g, 0, none⟩) (n + 9) (n + 9)) (M ++ z9)) (hM : M.length = n) : Tms w (some ⟨g, 0, none⟩) n (n + 9) M := by
  obtain ⟨a, c, e, ht⟩ := town_tms h
  simp only [Value.slice.injEq] at e
  obtain ⟨rfl, e2, rfl⟩ := e
  refine ⟨hM, by rw [fl_len tm2, hM], by omega, fun e => by simp at e, fun j v hv => ht.row.cell j v ?_⟩
  rw [List.flatMap_append, List.getElem?_append_left (List.getElem?_eq_some_iff.1 hv).1]
  exact hv
def bump (t : Tm) : Tm := ⟨t.proc, wrap64 (t.due + 1)⟩
end Go.Proofs.YtdckpecalglnoaaDoor
