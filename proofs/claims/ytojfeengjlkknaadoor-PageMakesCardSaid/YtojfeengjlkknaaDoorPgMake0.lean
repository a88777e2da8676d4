/-
  Plans of pages: as memory holds them, and the pages that they make.
-/
import Derived.Test.YtojfeengjlkknaaDoorPgEq
import Derived.Test.YtojfeengjlkknaaDoorRcs
namespace Go.Proofs.YtojfeengjlkknaaDoor
open Go.RowKit FerryCrc
set_option linter.unusedVariables false
set_option linter.unusedSimpArgs false

structure Pnv where
  rights : Int
  init : List Nat
structure Pnv.Ok (p : Pnv) : Prop where
  lo : -9223372036854775808 ≤ p.rights
  hi : p.rights ≤ 9223372036854775807
  small : ∀ c ∈ p.init, c < 256
  len : p.init.length ≤ 9223372036854775807
def Pnv.cells (p : Pnv) : List Value := [.int .i64 p.rights, .string (str p.init)]
theorem pnv2 (p : Pnv) : p.cells.length = 2 := rfl
/-- The number of the error of one plan. -/
def Pnv.bad (p : Pnv) : Nat := if p.rights < 0 ∨ 7 < p.rights then 4 else if 64 < p.init.length then 5 else 0
theorem Pnv.bad_is (p : Pnv) : ((p.rights < 0 ∨ 7 < p.rights) ∧ p.bad = 4) ∨ (0 ≤ p.rights ∧ p.rights ≤ 7 ∧ 64 < p.init.length ∧ p.bad = 5) ∨ (0 ≤ p.rights ∧ p.rights ≤ 7 ∧ p.init.length ≤ 64 ∧ p.bad = 0) := by
  unfold Pnv.bad
  split
  · exact .inl ⟨by assumption, rfl⟩
  · split
    · exact .inr (.inl ⟨by omega, by omega, by assumption, rfl⟩)
    · exact .inr (.inr ⟨by omega, by omega, by omega, rfl⟩)
def Pnv.page (p : Pnv) : Pg := ⟨p.rights, false, p.init ++ List.replicate (64 - p.init.length) 0⟩
theorem Pnv.page_ok {p : Pnv} (h : p.Ok) (hb : p.bad = 0) : p.page.Ok := by
  have h1 := p.bad_is
  refine ⟨h.lo, h.hi, ?_, ?_⟩
  · show (p.init ++ List.replicate (64 - p.init.length) 0).length = 64
    simp
    omega
  · show ∀ c ∈ p.init ++ List.replicate (64 - p.init.length) 0, c < 256
    intro c hc
    rcases List.mem_append.1 hc with hc | hc
    · exact h.small c hc
    · rw [(List.mem_replicate.1 hc).2]
      decide
def firstBad (l : List Pnv) : Option Nat := l.findIdx? fun p => p.bad != 0
/-- The number of Make's error and its place; the pages. -/
def mkE (l : List Pnv) : Nat × Int :=
  if 32 < l.length then (11, -1)
  else match firstBad l with
    | some i => (((l[i]?).map Pnv.bad).getD 0, (i : Int))
    | none => (0, -1)
def mkL (l : List Pnv) : List Pg := if (mkE l).1 = 0 then l.map Pnv.page else []
theorem mkE_big {l : List Pnv} (h : 32 < l.length) : mkE l = (11, -1) := by unfold mkE; rw [if_pos h]
theorem firstBad_at {l : List Pnv} {k : Nat} {p : Pnv} (hp : l[k]? = some p) (hb : ¬ p.bad = 0) (h : ∀ j q, j < k → l[j]? = some q → q.bad = 0) : firstBad l = some k := by
  obtain ⟨hk, e⟩ := List.getElem?_eq_some_iff.1 hp
  refine List.findIdx?_eq_some_iff_getElem.2 ⟨hk, by rw [e]; simpa using hb, fun j hj => ?_⟩
  have := h j _ hj (List.getElem?_eq_getElem (by omega))
  simpa using this
theorem firstBad_no {l : List Pnv} (h : ∀ j q, j < l.length → l[j]? = some q → q.bad = 0) : firstBad l = none := by
  refine List.findIdx?_eq_none_iff.2 fun p hp => ?_
  obtain ⟨j, hj⟩ := List.mem_iff_getElem?.1 hp
  have := h j p (List.getElem?_eq_some_iff.1 hj).1 hj
  simpa using this
theorem mkE_at {l : List Pnv} (h : ¬ 32 < l.length) {k : Nat} {p : Pnv} (hp : l[k]? = some p) (hb : ¬ p.bad = 0) (hj : ∀ j q, j < k → l[j]? = some q → q.bad = 0) : mkE l = (p.bad, (k : Int)) := by
  unfold mkE
  rw [if_neg h, firstBad_at hp hb hj]
  simp [hp]
theorem mkE_no {l : List Pnv} (h : ¬ 32 < l.length) (hj : ∀ j q, j < l.length → l[j]? = some q → q.bad = 0) : mkE l = (0, -1) := by
  unfold mkE
  rw [if_neg h, firstBad_no hj]
theorem mkL_bad {l : List Pnv} (h : ¬ (mkE l).1 = 0) : mkL l = [] := by unfold mkL; rw [if_neg h]
theorem mkL_no {l : List Pnv} (h : (mkE l).1 = 0) : mkL l = l.map Pnv.page := by unfold mkL; rw [if_pos h]
theorem mkE_good {l : List Pnv} (h : (mkE l).1 = 0) : l.length ≤ 32 ∧ ∀ p ∈ l, p.bad = 0 := by
  unfold mkE at h
  by_cases hl : 32 < l.length
  · rw [if_pos hl] at h; simp at h
  · rw [if_neg hl] at h
    refine ⟨by omega, fun p hp => ?_⟩
    cases hf : firstBad l with
    | none =>
      have := List.findIdx?_eq_none_iff.1 hf p hp
      simpa using this
    | some i =>
      rw [hf] at h
      obtain ⟨hi, h1, _⟩ := List.findIdx?_eq_some_iff_getElem.1 hf
      have e : l[i]? = some l[i] := List.getElem?_eq_getElem hi
      simp only [e, Option.map_some, Option.getD_some] at h
      simp at h1
      exact absurd h h1
theorem mkL_ok {l : List Pnv} (ok : ∀ p ∈ l, p.Ok) : Oks (mkL l) := by
  by_cases h : (mkE l).1 = 0
  · rw [mkL_no h]
    intro p hp
    obtain ⟨q, hq, rfl⟩ := List.mem_map.1 hp
    exact Pnv.page_ok (ok q hq) ((mkE_good h).2 q hq)
  · rw [mkL_bad h]
    intro p hp
    simp at hp
theorem mkL_len (l : List Pnv) : (mkL l).length ≤ 32 := by
  by_cases h : (mkE l).1 = 0
  · rw [mkL_no h, List.length_map]
    exact (mkE_good h).1
  · rw [mkL_bad h]; simp

/-- The first k pages made, the others zero. -/
def madeK (l : List Pnv) (k : Nat) : List Pg := (l.take k).map Pnv.page ++ List.replicate (l.length - k) (pk 0)
theorem madeK_len (l : List Pnv) {k : Nat} (h : k ≤ l.length) : (madeK l k).length = l.length := by simp [madeK]; omega
theorem madeK_ok {l : List Pnv} (ok : ∀ p ∈ l, p.Ok) {k : Nat} (h : ∀ j q, j < k → l[j]? = some q → q.bad = 0) : Oks (madeK l k) := by
  intro p hp
  rcases List.mem_append.1 hp with hp | hp
  · obtain ⟨q, hq, rfl⟩ := List.mem_map.1 hp
    obtain ⟨j, hj⟩ := List.mem_iff_getElem?.1 hq
    rw [List.getElem?_take] at hj
    split at hj
    · exact Pnv.page_ok (ok q (List.mem_of_getElem? hj)) (h j q (by assumption) hj)
    · simp at hj
  · rw [(List.mem_replicate.1 hp).2]
    exact pk_ok 0 (by decide) (by decide)
theorem madeK_at {l : List Pnv} {k : Nat} (h : k < l.length) : (madeK l k)[k]? = some (pk 0) := by
  have hlt : ((l.take k).map Pnv.page).length = k := by simp; omega
  unfold madeK
  rw [List.getElem?_append_right (by omega), hlt, Nat.sub_self, List.getElem?_replicate, if_pos (by omega)]
theorem madeK_set {l : List Pnv} {k : Nat} {p : Pnv} (hp : l[k]? = some p) : (madeK l k).set k p.page = madeK l (k + 1) := by
  have hk : k < l.length := (List.getElem?_eq_some_iff.1 hp).1
  have hlt : ((l.take k).map Pnv.page).length = k := by simp; omega
  unfold madeK
  rw [List.set_append_right _ _ (by omega), hlt, Nat.sub_self, List.take_add_one, hp]
  rw [show l.length - k = (l.length - (k + 1)) + 1 by omega, List.replicate_succ]
  simp
theorem madeK_full (l : List Pnv) : madeK l l.length = l.map Pnv.page := by simp [madeK]
theorem cells_rights (p : Pg) (r : Int) : Pg.cells ⟨r, p.dirty, p.data⟩ = p.cells.set 0 (.int .i64 r) := by simp [Pg.cells, Pg.row]
theorem upd_page {l : List Pg} (ok : Oks l) {q : Nat} {p : Pg} (hp : l[q]? = some p) (D : List Nat) (hD : D.length ≤ 64) :
    upd l (fun a => false || inR (64 * q) D.length a) (datB D (64 * q)) (fun _ => false) = l.set q ⟨p.rights, p.dirty, D ++ p.data.drop D.length⟩ := by
  have hq : q < l.length := (List.getElem?_eq_some_iff.1 hp).1
  refine List.ext_getElem? fun r => ?_
  rw [List.getElem?_set, upd_get]
  by_cases e : q = r
  · subst e
    rw [if_pos rfl, if_pos hq, hp]
    simp only [Option.map_some, Option.some.injEq]
    have h64 := (ok p (List.mem_of_getElem? hp)).size
    refine pg_ext rfl (by simp [Pg.upd]) ?_
    show patch _ _ _ = _
    refine List.ext_getElem? fun x => ?_
    rw [patch_get, List.getElem?_append]
    by_cases hx : x < D.length
    · rw [if_pos hx, List.getElem?_eq_getElem (by omega), List.getElem?_eq_getElem hx]
      have hi : (false || inR (64 * q) D.length (64 * q + x)) = true := by simp [inR]; omega
      simp only [Option.map_some, hi, if_true, datB]
      rw [show 64 * q + x - 64 * q = x by omega, List.getD_eq_getElem?_getD, List.getElem?_eq_getElem hx]
      rfl
    · rw [if_neg hx, List.getElem?_drop, show D.length + (x - D.length) = x by omega]
      have hi : (false || inR (64 * q) D.length (64 * q + x)) = false := by simp [inR]; omega
      simp only [hi]
      cases p.data[x]? <;> simp
  · rw [if_neg e]
    cases hr : l[r]? with
    | none => rfl
    | some p' =>
      simp only [Option.map_some, Option.some.injEq]
      have h64 := (ok p' (List.mem_of_getElem? hr)).size
      refine pg_ext rfl (by simp [Pg.upd]) ?_
      show patch _ _ _ = _
      refine List.ext_getElem? fun x => ?_
      rw [patch_get]
      by_cases hx : x < 64
      · have hi : (false || inR (64 * q) D.length (64 * r + x)) = false := by simp [inR]; omega
        simp only [hi]
        cases p'.data[x]? <;> simp
      · rw [List.getElem?_eq_none (by omega)]; rfl
theorem made_pages (z : Array Value) (hz : z = (pk 0).cells.toArray) (n : Nat) : (madeCells z (n * 66)).toList = flat (List.replicate n (pk 0)) := by
  subst hz
  have ok : (pk 0).cells.length = 66 := (pk_ok 0 (by decide) (by decide)).cells
  have okr : Oks (List.replicate n (pk 0)) := fun p hp => by rw [(List.mem_replicate.1 hp).2]; exact pk_ok 0 (by decide) (by decide)
  refine List.ext_getElem? fun j => ?_
  by_cases hj : j < n * 66
  · have hk : j / 66 < n := by omega
    have h1 := flat_get okr (k := j / 66) (p := pk 0) (j % 66) (by rw [List.getElem?_replicate, if_pos hk]) (by omega)
    rw [show j / 66 * 66 + j % 66 = j by omega] at h1
    have hl : j % 66 < (pk 0).cells.length := by omega
    have h2 : (pk 0).cells[j % 66]? = some (pk 0).cells[j % 66] := List.getElem?_eq_getElem hl
    rw [h1, h2]
    simp [madeCells, hj, ok]
    rw [h2]
    rfl
  · rw [List.getElem?_eq_none (by simp [madeCells]; omega), List.getElem?_eq_none (by rw [flat_len okr]; simp; omega)]
end Go.Proofs.YtojfeengjlkknaaDoor
