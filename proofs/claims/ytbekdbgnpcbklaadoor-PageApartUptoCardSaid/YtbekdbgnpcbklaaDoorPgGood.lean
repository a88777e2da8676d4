/-
  What differs was marked: as lists; rows of rising numbers, one among the other.
-/
import Derived.Test.YtbekdbgnpcbklaaDoorPgMark
namespace Go.Proofs.YtbekdbgnpcbklaaDoor
open Go.RowKit FerryCrc
set_option linter.unusedVariables false

/-- Each page whose bytes aren't those of F is marked. -/
structure Good (F L : List Pg) : Prop where
  len : L.length = F.length
  ok : Oks L
  mark : ∀ (k : Nat) (p q : Pg), F[k]? = some p → L[k]? = some q → p.data = q.data ∨ q.dirty = true
theorem Good.refl {F : List Pg} (h : Oks F) : Good F F := ⟨rfl, h, fun k p q h1 h2 => by rw [h1] at h2; exact .inl (by rw [Option.some.inj h2])⟩
theorem Good.upd {F L : List Pg} (h : Good F L) {P : Nat → Bool} {B : Nat → Nat} {D : Nat → Bool} (hB : ∀ a, B a < 256) (hD : ∀ a, P a = true → D (a / 64) = true) : Good F (upd L P B D) := by
  refine ⟨by rw [upd_len]; exact h.len, upd_ok h.ok (fun a _ => hB a), fun k p q h1 h2 => ?_⟩
  rw [upd_get] at h2
  cases hl : L[k]? with
  | none => rw [hl] at h2; simp at h2
  | some q0 =>
    rw [hl] at h2
    simp only [Option.map_some, Option.some.injEq] at h2
    subst h2
    have okq := h.ok q0 (List.mem_of_getElem? hl)
    cases hd : D k with
    | true => right; simp [Pg.upd]
    | false =>
      have hp : patch q0.data (fun x => P (64 * k + x)) (fun x => B (64 * k + x)) = q0.data := by
        refine List.ext_getElem? fun x => ?_
        rw [patch_get]
        cases hx : q0.data[x]? with
        | none => rfl
        | some c =>
          have hx64 : x < 64 := by rw [← okq.size]; exact (List.getElem?_eq_some_iff.1 hx).1
          have : P (64 * k + x) = false := by
            cases hP : P (64 * k + x) with
            | false => rfl
            | true =>
              have := hD _ hP
              rw [show (64 * k + x) / 64 = k by omega, hd] at this
              exact absurd this (by decide)
          simp [this]
      rcases h.mark k p q0 h1 hl with e | e
      · left; show p.data = patch _ _ _; rw [hp]; exact e
      · right; simp [Pg.upd, e]
theorem Good.stored {F L : List Pg} (h : Good F L) {n s v : Nat} (hf : n % 64 + s ≤ 64) : Good F (stored L n s v) :=
  h.upd (byt_lt v s n) (fun a ha => by
    simp only [inR, decide_eq_true_eq] at ha
    unfold isQ
    rw [beq_iff_eq]
    omega)
theorem Good.put {F L : List Pg} (h : Good F L) {n : Nat} {D : List Nat} (hD : ∀ c ∈ D, c < 256) : Good F (put_in L n D) :=
  h.upd (datB_lt hD n) (fun a ha => by
    simp only [inR, decide_eq_true_eq] at ha
    simp only [tch, decide_eq_true_eq]
    omega)
theorem nz_fits {l : List Pg} {n s k : Nat} (hz : Sized s) (h : nfault l n s k = 0) : n % 64 + s ≤ 64 := fits hz (nfault_zero h).1

/-- Rising. -/
def Up (l : List Nat) : Prop := l.Pairwise (· < ·)
theorem Up.snoc {l : List Nat} {k : Nat} (h : Up l) (hk : ∀ x ∈ l, x < k) : Up (l ++ [k]) := List.pairwise_append.2 ⟨h, List.pairwise_singleton _ _, fun a ha b hb => by rw [List.mem_singleton.1 hb]; exact hk a ha⟩
theorem Up.lt {l : List Nat} (h : Up l) {i j : Nat} {x y : Nat} (hi : l[i]? = some x) (hj : l[j]? = some y) (hij : i < j) : x < y := by
  obtain ⟨h1, rfl⟩ := List.getElem?_eq_some_iff.1 hi
  obtain ⟨h2, rfl⟩ := List.getElem?_eq_some_iff.1 hj
  exact List.pairwise_iff_getElem.1 h i j h1 h2 hij
theorem drt_up (l : List Pg) (k : Nat) : Up (drt l k) ∧ (∀ x ∈ drt l k, x < k) ∧ (∀ x q, x < k → l[x]? = some q → q.dirty = true → x ∈ drt l k) := by
  induction k with
  | zero => exact ⟨List.Pairwise.nil, fun x hx => by simp [drt] at hx, fun x q hx => by omega⟩
  | succ k ih =>
    obtain ⟨h1, h2, h3⟩ := ih
    cases hl : l[k]? with
    | none =>
      have e : drt l (k + 1) = drt l k := by simp [drt, hl]
      rw [e]
      refine ⟨h1, fun x hx => by have := h2 x hx; omega, fun x q hx hq hd => ?_⟩
      by_cases ex : x = k
      · subst ex; rw [hl] at hq; simp at hq
      · exact h3 x q (by omega) hq hd
    | some p =>
      rw [drt_some hl]
      cases hd : p.dirty with
      | true =>
        simp only [if_true]
        refine ⟨h1.snoc h2, fun x hx => ?_, fun x q hx hq hqd => ?_⟩
        · rcases List.mem_append.1 hx with hx | hx
          · have := h2 x hx; omega
          · rw [List.mem_singleton.1 hx]; omega
        · by_cases ex : x = k
          · subst ex; simp
          · exact List.mem_append_left _ (h3 x q (by omega) hq hqd)
      | false =>
        simp only [Bool.false_eq_true, if_false]
        refine ⟨h1, fun x hx => by have := h2 x hx; omega, fun x q hx hq hqd => ?_⟩
        by_cases ex : x = k
        · subst ex
          rw [hl] at hq
          rw [← Option.some.inj hq, hd] at hqd
          exact absurd hqd (by decide)
        · exact h3 x q (by omega) hq hqd
theorem dif_up (l m : List Pg) (k : Nat) : Up (dif l m k) ∧ (∀ x ∈ dif l m k, x < k ∧ ∃ p q, l[x]? = some p ∧ m[x]? = some q ∧ ¬ p.data = q.data) := by
  induction k with
  | zero => exact ⟨List.Pairwise.nil, fun x hx => by simp [dif] at hx⟩
  | succ k ih =>
    obtain ⟨h1, h2⟩ := ih
    unfold dif
    split
    · rename_i p q hp hq
      split
      · exact ⟨h1, fun x hx => by obtain ⟨a, b⟩ := h2 x hx; exact ⟨by omega, b⟩⟩
      · rename_i hne
        refine ⟨h1.snoc (fun x hx => (h2 x hx).1), fun x hx => ?_⟩
        rcases List.mem_append.1 hx with hx | hx
        · obtain ⟨a, b⟩ := h2 x hx; exact ⟨by omega, b⟩
        · rw [List.mem_singleton.1 hx]; exact ⟨by omega, p, q, hp, hq, hne⟩
    · exact ⟨h1, fun x hx => by obtain ⟨a, b⟩ := h2 x hx; exact ⟨by omega, b⟩⟩
/-- What differs is among what is marked. -/
theorem Good.among {F L : List Pg} (h : Good F L) {len : Nat} : ∀ x ∈ dif F L len, x ∈ drt L len := by
  intro x hx
  obtain ⟨hlt, p, q, hp, hq, hne⟩ := (dif_up F L len).2 x hx
  refine (drt_up L len).2.2 x q hlt hq ?_
  rcases h.mark x p q hp hq with e | e
  · exact absurd e hne
  · exact e
theorem drt_clean (l : List Pg) (k : Nat) : drt (l.map Pg.clean) k = [] := by
  induction k with
  | zero => rfl
  | succ k ih =>
    unfold drt
    rw [List.getElem?_map]
    cases l[k]? with
    | none => exact ih
    | some p => simp [Pg.clean, ih]
theorem key_clean (l : List Pg) : (l.map Pg.clean).map Pg.key = l.map Pg.key := by rw [List.map_map]; rfl
/-- The search in the rising row: all ahead of j are below x, x is in the row: at j stands x, or something below x. -/
theorem seek {W : List Nat} (hu : Up W) {j x : Nat} (hx : x ∈ W) (hb : ∀ i y, i < j → W[i]? = some y → y < x) : ∃ y, W[j]? = some y ∧ (y < x ∨ y = x) := by
  obtain ⟨t, ht⟩ := List.mem_iff_getElem?.1 hx
  have hjt : j ≤ t := by
    rcases Nat.lt_or_ge t j with h | h
    · have := hb t x h ht; omega
    · exact h
  have htl := (List.getElem?_eq_some_iff.1 ht).1
  refine ⟨W[j], List.getElem?_eq_getElem (by omega), ?_⟩
  rcases Nat.lt_or_ge j t with h | h
  · exact .inl (hu.lt (List.getElem?_eq_getElem (by omega)) ht h)
  · obtain rfl : j = t := by omega
    right
    rw [List.getElem?_eq_getElem htl] at ht
    exact Option.some.inj ht
end Go.Proofs.YtbekdbgnpcbklaaDoor
