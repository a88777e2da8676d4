/-
  Lists of timers, as the document has them: no program in it.
-/
import Derived.Test.YtcfkngkenkbkaaaDoorMath
namespace Go.Proofs.YtcfkngkenkbkaaaDoor
open Classical
set_option linter.unusedVariables false
set_option linter.unusedSimpArgs false

structure Tm where
  proc : Int
  due : Int
def Tm.lt (a b : Tm) : Bool := decide (a.due < b.due ∨ (a.due = b.due ∧ a.proc < b.proc))
def Tm.le (a b : Tm) : Bool := !b.lt a
theorem Tm.le_iff (a b : Tm) : a.le b = true ↔ (a.due < b.due ∨ (a.due = b.due ∧ a.proc ≤ b.proc)) := by
  unfold Tm.le Tm.lt
  simp
  omega
theorem Tm.le_trans (a b c : Tm) (h1 : a.le b = true) (h2 : b.le c = true) : a.le c = true := by
  rw [Tm.le_iff] at *
  omega
theorem Tm.le_total (a b : Tm) : (a.le b || b.le a) = true := by
  rw [Bool.or_eq_true, Tm.le_iff, Tm.le_iff]
  omega
theorem Tm.le_antisymm (a b : Tm) (h1 : a.le b = true) (h2 : b.le a = true) : a = b := by
  rw [Tm.le_iff] at *
  cases a
  cases b
  simp at *
  omega

/-- The timers in form. -/
def srt (l : List Tm) : List Tm := l.mergeSort Tm.le
def Ord (l : List Tm) : Prop := l.Pairwise fun a b => a.le b = true
theorem srt_perm (l : List Tm) : (srt l).Perm l := List.mergeSort_perm _ _
theorem srt_ord (l : List Tm) : Ord (srt l) := List.pairwise_mergeSort Tm.le_trans Tm.le_total l
theorem srt_len (l : List Tm) : (srt l).length = l.length := (srt_perm l).length_eq
theorem srt_of {l : List Tm} (h : Ord l) : srt l = l := List.mergeSort_of_pairwise h
theorem ord_unique {a b : List Tm} (ha : Ord a) (hb : Ord b) (h : a.Perm b) : a = b :=
  h.eq_of_pairwise (fun x y _ _ => Tm.le_antisymm x y) ha hb

def Tm.In (n : Int) (t : Tm) : Prop := 0 ≤ t.proc ∧ t.proc < n ∧ 0 ≤ t.due ∧ t.due ≤ 1010000
def InR (l : List Tm) (n : Int) : Prop := ∀ t ∈ l, t.In n
def Nod (l : List Tm) : Prop := (l.map Tm.proc).Nodup
/-- A list in form, for n processes. -/
def Form (l : List Tm) (n : Int) : Prop := InR l n ∧ Nod l ∧ Ord l
theorem Nod.perm {a b : List Tm} (h : a.Perm b) (ha : Nod a) : Nod b := (h.map _).nodup_iff.1 ha
theorem InR.perm {a b : List Tm} {n : Int} (h : a.Perm b) (ha : InR a n) : InR b n := fun t ht => ha t (h.mem_iff.2 ht)
theorem form_srt {l : List Tm} {n : Int} (h1 : InR l n) (h2 : Nod l) : Form (srt l) n := ⟨h1.perm (srt_perm l).symm, h2.perm (srt_perm l).symm, srt_ord l⟩
theorem Form.sub {l l' : List Tm} {n : Int} (h : Form l n) (hs : l'.Sublist l) : Form l' n :=
  ⟨fun t ht => h.1 t (hs.subset ht), h.2.1.sublist (hs.map _), h.2.2.sublist hs⟩

/-- Numbers that differ and lie in a range are few. -/
theorem few : ∀ (n : Nat) (l : List Int), l.Nodup → (∀ x ∈ l, 0 ≤ x ∧ x < (n : Int)) → l.length ≤ n
  | 0, l, _, h => by
    match l, h with
    | [], _ => exact Nat.le_refl _
    | x :: l, h => have := h x (by simp); omega
  | n + 1, l, hn, h => by
    have h1 := few n (l.filter (· ≠ (n : Int))) (hn.sublist List.filter_sublist) (fun x hx => by
      rw [List.mem_filter] at hx
      have := h x hx.1
      have := hx.2
      simp at this
      omega)
    have h2 : l.length ≤ (l.filter (· ≠ (n : Int))).length + 1 := by
      clear h1 h
      induction l with
      | nil => simp
      | cons x l ih =>
        rw [List.nodup_cons] at hn
        by_cases hx : x = (n : Int)
        · have : l.filter (· ≠ (n : Int)) = l := List.filter_eq_self.2 (fun a ha => by
            simp
            rintro rfl
            exact hn.1 (hx ▸ ha))
          rw [List.filter_cons_of_neg (by simp [hx]), this]
          simp
        · rw [List.filter_cons_of_pos (by simp [hx])]
          have := ih hn.2
          simp at this ⊢
          omega
    omega
theorem Nod.few {l : List Tm} (h : Nod l) (hr : InR l 8) : l.length ≤ 8 := by
  have := Go.Proofs.YtcfkngkenkbkaaaDoor.few 8 (l.map Tm.proc) h (fun x hx => by
    obtain ⟨t, ht, rfl⟩ := List.mem_map.1 hx
    have := hr t ht
    exact ⟨this.1, this.2.1⟩)
  simpa using this

/-- Who is due, and who isn't. -/
def fired (l : List Tm) (now : Int) : List Tm := l.filter fun t => decide (t.due ≤ now)
def left (l : List Tm) (now : Int) : List Tm := l.filter fun t => !decide (t.due ≤ now)
theorem fired_all {l : List Tm} {now : Int} (h : ∀ t ∈ l, now < t.due) : fired l now = [] := List.filter_eq_nil_iff.2 fun t ht => by
  have := h t ht
  simp
  omega
theorem left_all {l : List Tm} {now : Int} (h : ∀ t ∈ l, now < t.due) : left l now = l := List.filter_eq_self.2 fun t ht => by
  have := h t ht
  simp
  omega
theorem fired_steps {now later : Int} (h : now ≤ later) : ∀ {l : List Tm}, Ord l → fired l now ++ fired (left l now) later = fired l later
  | [], _ => rfl
  | t :: l, ho => by
    have ho' := List.pairwise_cons.1 ho
    have ih := fired_steps h (l := l) ho'.2
    by_cases h1 : t.due ≤ now
    · have e1 : fired (t :: l) now = t :: fired l now := List.filter_cons_of_pos (by simpa using h1)
      have e2 : left (t :: l) now = left l now := List.filter_cons_of_neg (by simpa using h1)
      have e3 : fired (t :: l) later = t :: fired l later := List.filter_cons_of_pos (by simp; omega)
      rw [e1, e2, e3, List.cons_append, ih]
    · have hall : ∀ x ∈ t :: l, now < x.due := by
        intro x hx
        rcases List.mem_cons.1 hx with rfl | hx
        · omega
        · have := (Tm.le_iff _ _).1 (ho'.1 x hx)
          omega
      rw [fired_all hall, left_all hall]
      rfl
theorem left_left {now later : Int} (h : now ≤ later) (l : List Tm) : left (left l now) later = left l later := by
  unfold left
  rw [List.filter_filter]
  refine List.filter_congr fun t _ => ?_
  by_cases h1 : t.due ≤ now
  · simp [h1]
    omega
  · simp [h1]
theorem fired_left_len (l : List Tm) (now : Int) : (fired l now).length + (left l now).length = l.length := by
  induction l with
  | nil => rfl
  | cons t l ih =>
    unfold fired left at *
    by_cases h : t.due ≤ now
    · rw [List.filter_cons_of_pos (by simpa using h), List.filter_cons_of_neg (by simpa using h)]
      simp at ih ⊢
      omega
    · rw [List.filter_cons_of_neg (by simpa using h), List.filter_cons_of_pos (by simpa using h)]
      simp at ih ⊢
      omega
end Go.Proofs.YtcfkngkenkbkaaaDoor
