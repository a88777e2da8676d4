/-
  Tables of processes, as the document has them: no program in it.
-/
import Derived.Test.YtcfkngkenkbkaaaDoorTmMath
namespace Go.Proofs.YtcfkngkenkbkaaaDoor
open Classical
set_option linter.unusedVariables false
set_option linter.unusedSimpArgs false

/-- A process. -/
structure Pro where
  r0 : Int
  r1 : Int
  r2 : Int
  r3 : Int
  r4 : Int
  r5 : Int
  r6 : Int
  r7 : Int
  r8 : Int
  r9 : Int
  r10 : Int
  r11 : Int
  r12 : Int
  r13 : Int
  r14 : Int
  r15 : Int
  pc : Int
  state : Int
  prio : Int
  wait : Int
  obj : Int
def pro0 : Pro := ⟨0, 0, 0, 0, 0, 0, 0, 0, 0, 0, 0, 0, 0, 0, 0, 0, 0, 0, 0, 0, 0⟩
/-- A process that fits together by itself. -/
def Pro.In (p : Pro) : Prop := p.r0 = 0 ∧ 0 ≤ p.prio ∧ p.prio ≤ 255 ∧ 0 ≤ p.obj ∧ (((p.state = 0 ∨ p.state = 1 ∨ p.state = 3) ∧ p.wait = 0 ∧ p.obj = 0) ∨ (p.state = 2 ∧ ((p.wait = 1 ∧ p.obj = 0) ∨ (2 ≤ p.wait ∧ p.wait ≤ 4))))
/-- The queue and the processes: each that is ready stands in it once, nobody else. -/
def GoodR (l : List Pro) (r : List Int) : Prop := (∀ i ∈ r, 0 ≤ i ∧ i < (l.length : Int)) ∧ ∀ x ∈ l.zipIdx, r.count (x.2 : Int) = if x.1.state = 1 then 1 else 0
def hasT (t : List Tm) (i : Int) : Bool := t.any fun x => x.proc == i
/-- The timers and the processes. -/
def GoodT (l : List Pro) (t : List Tm) : Prop := Form t (l.length : Int) ∧ ∀ x ∈ l.zipIdx, (hasT t (x.2 : Int) = true → x.1.state = 2) ∧ (x.1.wait = 1 → hasT t (x.2 : Int) = true)
def Good (l : List Pro) (r : List Int) (t : List Tm) : Prop := l.length ≤ 8 ∧ (∀ p ∈ l, p.In) ∧ GoodR l r ∧ GoodT l t

/-! The queue by the program's way. -/
theorem sub_len : ∀ {a b : List Int}, a.Nodup → (∀ x ∈ a, x ∈ b) → a.length ≤ b.length
  | [], b, _, _ => by simp
  | x :: a, b, hn, hs => by
    rw [List.nodup_cons] at hn
    have hx : x ∈ b := hs x (by simp)
    have h1 := sub_len (a := a) (b := b.erase x) hn.2 (fun y hy => by
      have hne : y ≠ x := fun e => hn.1 (e ▸ hy)
      exact (List.mem_erase_of_ne hne).2 (hs y (by simp [hy])))
    rw [List.length_erase_of_mem hx] at h1
    have : 0 < b.length := List.length_pos_of_mem hx
    simp
    omega
theorem sub_all {a b : List Int} (ha : a.Nodup) (hb : b.Nodup) (hs : ∀ x ∈ a, x ∈ b) (hl : b.length ≤ a.length) : ∀ x ∈ b, x ∈ a := by
  intro x hx
  refine Classical.byContradiction fun hn => ?_
  have h1 := sub_len (a := x :: a) (b := b) (List.nodup_cons.2 ⟨hn, ha⟩) (fun y hy => by
    rcases List.mem_cons.1 hy with rfl | hy
    · exact hx
    · exact hs y hy)
  simp at h1
  omega
/-- The numbers of those that are ready. -/
def rdyN (l : List Pro) : List Int := (l.zipIdx.filter fun x => decide (x.1.state = 1)).map fun x => (x.2 : Int)
theorem mem_rdyN {l : List Pro} {i : Int} : i ∈ rdyN l ↔ ∃ (k : Nat) (p : Pro), l[k]? = some p ∧ i = (k : Int) ∧ p.state = 1 := by
  unfold rdyN
  rw [List.mem_map]
  constructor
  · rintro ⟨⟨p, k⟩, hx, rfl⟩
    rw [List.mem_filter, List.mem_zipIdx_iff_getElem?] at hx
    exact ⟨k, p, hx.1, rfl, of_decide_eq_true hx.2⟩
  · rintro ⟨k, p, hk, rfl, hs⟩
    exact ⟨(p, k), by rw [List.mem_filter, List.mem_zipIdx_iff_getElem?]; exact ⟨hk, decide_eq_true hs⟩, rfl⟩
theorem zip_nodup : ∀ (l : List Pro) (n : Nat), ((l.zipIdx n).map fun x => (x.2 : Int)).Nodup
  | [], n => by simp
  | p :: l, n => by
    rw [List.zipIdx_cons, List.map_cons, List.nodup_cons]
    refine ⟨fun h => ?_, zip_nodup l (n + 1)⟩
    obtain ⟨⟨q, k⟩, hx, e⟩ := List.mem_map.1 h
    have := (List.mem_zipIdx hx).1
    simp at e
    omega
theorem rdyN_nodup (l : List Pro) : (rdyN l).Nodup := (zip_nodup l 0).sublist (List.Sublist.map _ List.filter_sublist)
theorem zip_count (l : List Pro) : ∀ n, ((l.zipIdx n).filter fun x => decide (x.1.state = 1)).length = (l.filter fun p => decide (p.state = 1)).length := by
  induction l with
  | nil => intro n; rfl
  | cons p l ih =>
    intro n
    rw [List.zipIdx_cons]
    by_cases h : p.state = 1
    · rw [List.filter_cons_of_pos (by simpa using h), List.filter_cons_of_pos (by simpa using h), List.length_cons, List.length_cons, ih]
    · rw [List.filter_cons_of_neg (by simpa using h), List.filter_cons_of_neg (by simpa using h), ih]
theorem rdyN_len (l : List Pro) : (rdyN l).length = (l.filter fun p => decide (p.state = 1)).length := by
  unfold rdyN
  rw [List.length_map, zip_count]
theorem goodR_mem {l : List Pro} {r : List Int} (h : GoodR l r) {i : Int} (hi : i ∈ r) : ∃ (k : Nat) (p : Pro), l[k]? = some p ∧ i = (k : Int) ∧ p.state = 1 := by
  have h1 := h.1 i hi
  obtain ⟨k, rfl⟩ := Int.eq_ofNat_of_zero_le h1.1
  have hk : k < l.length := by omega
  refine ⟨k, l[k], List.getElem?_eq_getElem hk, rfl, ?_⟩
  have h2 := h.2 (l[k], k) (List.mem_zipIdx_iff_getElem?.2 (List.getElem?_eq_getElem hk))
  have h3 := List.one_le_count_iff.2 hi
  by_cases hs : l[k].state = 1
  · exact hs
  · simp only [hs, if_false] at h2
    omega
theorem goodR_nodup {l : List Pro} {r : List Int} (h : GoodR l r) : r.Nodup := by
  rw [List.nodup_iff_count]
  intro i
  by_cases hi : i ∈ r
  · obtain ⟨k, p, hk, rfl, hs⟩ := goodR_mem h hi
    have h2 := h.2 (p, k) (List.mem_zipIdx_iff_getElem?.2 hk)
    simp only [hs, if_true] at h2
    omega
  · rw [List.count_eq_zero.2 hi]
    omega
theorem goodR_all {l : List Pro} {r : List Int} (h : GoodR l r) {k : Nat} {p : Pro} (hk : l[k]? = some p) (hs : p.state = 1) : (k : Int) ∈ r := by
  have h2 := h.2 (p, k) (List.mem_zipIdx_iff_getElem?.2 hk)
  simp only [hs, if_true] at h2
  exact List.one_le_count_iff.1 (by omega)
theorem goodR_len {l : List Pro} {r : List Int} (h : GoodR l r) : r.length = (l.filter fun p => decide (p.state = 1)).length := by
  rw [← rdyN_len]
  refine Nat.le_antisymm (sub_len (goodR_nodup h) fun x hx => mem_rdyN.2 (goodR_mem h hx)) (sub_len (rdyN_nodup l) fun x hx => ?_)
  obtain ⟨k, p, hk, rfl, hs⟩ := mem_rdyN.1 hx
  exact goodR_all h hk hs
theorem goodR_of {l : List Pro} {r : List Int} (h1 : r.length = (l.filter fun p => decide (p.state = 1)).length) (h2 : ∀ i ∈ r, ∃ (k : Nat) (p : Pro), l[k]? = some p ∧ i = (k : Int) ∧ p.state = 1) (h3 : r.Nodup) : GoodR l r := by
  rw [← rdyN_len] at h1
  have hall := sub_all h3 (rdyN_nodup l) (fun x hx => mem_rdyN.2 (h2 x hx)) (by omega)
  refine ⟨fun i hi => ?_, ?_⟩
  · obtain ⟨k, p, hk, rfl, _⟩ := h2 i hi
    have := (List.getElem?_eq_some_iff.1 hk).1
    omega
  · rintro ⟨p, k⟩ hx
    rw [List.mem_zipIdx_iff_getElem?] at hx
    simp only at hx ⊢
    rw [h3.count]
    by_cases hs : p.state = 1
    · rw [if_pos (hall _ (mem_rdyN.2 ⟨k, p, hx, rfl, hs⟩)), if_pos hs]
    · rw [if_neg hs, if_neg]
      intro hm
      obtain ⟨k', p', hk', e, hs'⟩ := h2 _ hm
      obtain rfl : k = k' := by omega
      rw [hx] at hk'
      obtain rfl := Option.some.inj hk'
      exact hs hs'
theorem goodR_few {l : List Pro} {r : List Int} (h : GoodR l r) (hl : l.length ≤ 8) : r.length ≤ 8 := by
  rw [goodR_len h]
  exact Nat.le_trans (List.length_filter_le _ _) hl

/-! The greatest priority, the farthest ahead. -/
def prioAt (l : List Pro) (i : Int) : Int := (l[i.toNat]?.map Pro.prio).getD 0
theorem prioAt_of {l : List Pro} {k : Nat} {p : Pro} (h : l[k]? = some p) : prioAt l (k : Int) = p.prio := by
  unfold prioAt
  rw [Int.toNat_natCast, h]
  rfl
def pickS (l : List Pro) (b i : Int) : Int := if prioAt l b < prioAt l i then i else b
def bestF (l : List Pro) (x : Int) (r : List Int) : Int := r.foldl (pickS l) x
theorem bestF_self (l : List Pro) (x : Int) : pickS l x x = x := by unfold pickS; split <;> rfl
theorem bestF_mem (l : List Pro) : ∀ (r : List Int) (x : Int), bestF l x r = x ∨ bestF l x r ∈ r
  | [], x => .inl rfl
  | y :: r, x => by
    show bestF l (pickS l x y) r = x ∨ bestF l (pickS l x y) r ∈ y :: r
    rcases bestF_mem l r (pickS l x y) with h | h
    · rw [h]
      unfold pickS
      split
      · exact .inr (by simp)
      · exact .inl rfl
    · exact .inr (by simp [h])
theorem bestF_take (l : List Pro) (x : Int) {r : List Int} {k : Nat} {y : Int} (h : r[k]? = some y) : bestF l x (r.take (k + 1)) = pickS l (bestF l x (r.take k)) y := by
  unfold bestF
  rw [List.take_add_one, h, List.foldl_append]
  rfl
/-- What Pick answers: who, and the error's number. -/
def pickE (l : List Pro) (r : List Int) (t : List Tm) [Decidable (Good l r t)] : Nat := if ¬ Good l r t then 9 else if r = [] then 17 else 0
def pickP (l : List Pro) (r : List Int) (t : List Tm) [Decidable (Good l r t)] : Int := if Good l r t then match r with
  | [] => 0
  | x :: s => bestF l x (x :: s)
  else 0
/-- The queue without a process. -/
def outOf (r : List Int) (p : Int) : List Int := r.filter fun x => x != p

/-! The document's way: one process with what queue and timers say of it. -/
def tcount (t : List Tm) (i : Int) : Nat := (t.map Tm.proc).count i
def RefP (p : Pro) (n c : Nat) : Prop := (p.r0 = 0 ∧ 0 ≤ p.state ∧ p.state ≤ 3 ∧ 0 ≤ p.prio ∧ p.prio ≤ 255 ∧ 0 ≤ p.wait ∧ p.wait ≤ 4) ∧ ((p.wait ≠ 0 ↔ p.state = 2) ∧ 0 ≤ p.obj ∧ (p.wait ≤ 1 → p.obj = 0)) ∧ (n ≤ 1 ∧ (n = 1 → p.state = 2) ∧ (n = 0 → p.wait ≠ 1)) ∧ c = if p.state = 1 then 1 else 0
theorem hasT_iff {t : List Tm} {i : Int} : hasT t i = true ↔ 0 < tcount t i := by
  unfold hasT tcount
  rw [List.any_eq_true, List.count_pos_iff, List.mem_map]
  constructor
  · rintro ⟨x, hx, e⟩
    exact ⟨x, hx, by simpa using e⟩
  · rintro ⟨x, hx, e⟩
    exact ⟨x, hx, by simpa using e⟩
theorem Good.ref {l : List Pro} {r : List Int} {t : List Tm} (h : Good l r t) {k : Nat} {p : Pro} (hk : l[k]? = some p) : RefP p (tcount t (k : Int)) (r.count (k : Int)) := by
  obtain ⟨_, h2, h3, h4⟩ := h
  have hi := h2 p (List.mem_of_getElem? hk)
  have hz : (p, k) ∈ l.zipIdx := List.mem_zipIdx_iff_getElem?.2 hk
  have hc := h3.2 _ hz
  have ht := h4.2 _ hz
  have hn : tcount t (k : Int) ≤ 1 := List.nodup_iff_count.1 h4.1.2.1 _
  simp only [hasT_iff] at hc ht
  unfold Pro.In at hi
  refine ⟨by omega, ⟨?_, by omega, by omega⟩, ⟨hn, fun e => ht.1 (by omega), fun e e' => ?_⟩, hc⟩
  · constructor <;> intro e <;> omega
  · have := ht.2 e'
    omega
/-- The order of timers, neighbour by neighbour. -/
def Adj (t : List Tm) : Prop := ∀ (k : Nat) (a b : Tm), t[k]? = some a → t[k + 1]? = some b → a.lt b = true
theorem adj_ord : ∀ {t : List Tm}, Adj t → Ord t
  | [], _ => List.Pairwise.nil
  | [a], _ => by simp [Ord]
  | a :: b :: t, h => by
    have h1 : Adj (b :: t) := fun k x y hx hy => h (k + 1) x y (by simpa using hx) (by simpa using hy)
    have ih := adj_ord h1
    have hab := h 0 a b rfl rfl
    unfold Ord at ih ⊢
    refine List.pairwise_cons.2 ⟨fun c hc => ?_, ih⟩
    have h2 : a.le b = true := by
      rw [Tm.le_iff]
      unfold Tm.lt at hab
      simp at hab
      omega
    rcases List.mem_cons.1 hc with rfl | hc
    · exact h2
    · exact Tm.le_trans a b c h2 ((List.pairwise_cons.1 ih).1 c hc)
theorem form_adj {t : List Tm} {n : Int} (h : Form t n) : Adj t := by
  intro k a b ha hb
  have hk : k < t.length := (List.getElem?_eq_some_iff.1 ha).1
  have hk1 : k + 1 < t.length := (List.getElem?_eq_some_iff.1 hb).1
  have e1 := (List.getElem?_eq_some_iff.1 ha).2
  have e2 := (List.getElem?_eq_some_iff.1 hb).2
  have ho := List.pairwise_iff_getElem.1 h.2.2 k (k + 1) hk hk1 (by omega)
  have hn : (t.map Tm.proc).Nodup := h.2.1
  have hd := List.pairwise_iff_getElem.1 hn k (k + 1) (by simpa using hk) (by simpa using hk1) (by omega)
  simp only [List.getElem_map] at hd
  rw [e1, e2] at ho hd
  rw [Tm.le_iff] at ho
  unfold Tm.lt
  simp
  omega
theorem Good.of_ref {l : List Pro} {r : List Int} {t : List Tm} (h0 : l.length ≤ 8) (h1 : ∀ (k : Nat) (p : Pro), l[k]? = some p → RefP p (tcount t (k : Int)) (r.count (k : Int)))
    (h2 : ∀ i ∈ r, 0 ≤ i ∧ i < (l.length : Int)) (h3 : InR t (l.length : Int)) (h4 : Adj t) : Good l r t := by
  refine ⟨h0, fun p hp => ?_, ⟨h2, ?_⟩, ⟨h3, ?_, adj_ord h4⟩, ?_⟩
  · obtain ⟨k, hk⟩ := List.mem_iff_getElem?.1 hp
    obtain ⟨a, b, c, d⟩ := h1 k p hk
    unfold Pro.In
    obtain ⟨b1, b2, b3⟩ := b
    have : p.wait ≠ 0 ∧ p.state = 2 ∨ p.wait = 0 ∧ p.state ≠ 2 := by
      by_cases e : p.wait = 0
      · exact .inr ⟨e, fun e' => (b1.2 e') e⟩
      · exact .inl ⟨e, b1.1 e⟩
    omega
  · rintro ⟨p, k⟩ hx
    exact (h1 k p (List.mem_zipIdx_iff_getElem?.1 hx)).2.2.2
  · unfold Nod
    rw [List.nodup_iff_count]
    intro i
    by_cases hi : i ∈ t.map Tm.proc
    · obtain ⟨x, hx, rfl⟩ := List.mem_map.1 hi
      have hr := h3 x hx
      obtain ⟨k, hk⟩ := Int.eq_ofNat_of_zero_le hr.1
      have hkl : k < l.length := by have := hr.2.1; omega
      have := (h1 k _ (List.getElem?_eq_getElem hkl)).2.2.1.1
      rw [hk]
      exact this
    · rw [List.count_eq_zero.2 hi]
      omega
  · rintro ⟨p, k⟩ hx
    obtain ⟨_, _, c, _⟩ := h1 k p (List.mem_zipIdx_iff_getElem?.1 hx)
    simp only [hasT_iff]
    refine ⟨fun e => c.2.1 (by have := c.1; omega), fun e => ?_⟩
    refine Nat.pos_of_ne_zero fun e' => ?_
    exact c.2.2 e' e
theorem Good.tfew {l : List Pro} {r : List Int} {t : List Tm} (h : Good l r t) : t.length ≤ 8 :=
  h.2.2.2.1.2.1.few (fun x hx => by
    obtain ⟨a, b, c, d⟩ := h.2.2.2.1.1 x hx
    have := h.1
    exact ⟨a, by omega, c, d⟩)
end Go.Proofs.YtcfkngkenkbkaaaDoor
