/-
  Pages changed: bytes at addresses, marks of pages; as lists.
-/
import Derived.Test.YtbekdbgnpcbklaaDoorPgLoad2
namespace Go.Proofs.YtbekdbgnpcbklaaDoor
open Go.RowKit FerryCrc
set_option linter.unusedVariables false

/-- A row of bytes with some of them put anew. -/
def patch (d : List Nat) (P : Nat → Bool) (B : Nat → Nat) : List Nat := d.mapIdx fun x c => if P x then B x else c
theorem patch_len (d : List Nat) (P : Nat → Bool) (B : Nat → Nat) : (patch d P B).length = d.length := by simp [patch]
theorem patch_get (d : List Nat) (P : Nat → Bool) (B : Nat → Nat) (x : Nat) : (patch d P B)[x]? = (d[x]?).map fun c => if P x then B x else c := by simp [patch]
/-- A page with some bytes put anew, and its mark. -/
def Pg.upd (p : Pg) (P : Nat → Bool) (B : Nat → Nat) (D : Bool) : Pg := ⟨p.rights, p.dirty || D, patch p.data P B⟩
/-- Pages with the bytes at some addresses put anew, and some pages marked. -/
def upd (l : List Pg) (P : Nat → Bool) (B : Nat → Nat) (D : Nat → Bool) : List Pg := l.mapIdx fun q p => p.upd (fun x => P (64 * q + x)) (fun x => B (64 * q + x)) (D q)

theorem upd_len (l : List Pg) (P : Nat → Bool) (B : Nat → Nat) (D : Nat → Bool) : (upd l P B D).length = l.length := by simp [upd]
theorem upd_get (l : List Pg) (P : Nat → Bool) (B : Nat → Nat) (D : Nat → Bool) (q : Nat) : (upd l P B D)[q]? = (l[q]?).map fun p => p.upd (fun x => P (64 * q + x)) (fun x => B (64 * q + x)) (D q) := by simp [upd]
theorem pg_ext {p q : Pg} (h1 : p.rights = q.rights) (h2 : p.dirty = q.dirty) (h3 : p.data = q.data) : p = q := by
  cases p; cases q; simp_all
theorem patch_congr {d : List Nat} {P P' : Nat → Bool} {B B' : Nat → Nat} (h : ∀ x, x < d.length → P x = P' x ∧ (P x = true → B x = B' x)) : patch d P B = patch d P' B' := by
  refine List.ext_getElem? fun x => ?_
  rw [patch_get, patch_get]
  by_cases hx : x < d.length
  · obtain ⟨h1, h2⟩ := h x hx
    rw [List.getElem?_eq_getElem hx]
    simp only [Option.map_some, Option.some.injEq, ← h1]
    split
    · exact h2 (by assumption)
    · rfl
  · rw [List.getElem?_eq_none (by omega)]; rfl
theorem upd_congr {l : List Pg} {P P' : Nat → Bool} {B B' : Nat → Nat} {D D' : Nat → Bool} (hl : Oks l) (h : ∀ a, a / 64 < l.length → P a = P' a ∧ (P a = true → B a = B' a)) (hD : ∀ q, q < l.length → D q = D' q) : upd l P B D = upd l P' B' D' := by
  refine List.ext_getElem? fun q => ?_
  rw [upd_get, upd_get]
  by_cases hq : q < l.length
  · rw [List.getElem?_eq_getElem hq]
    simp only [Option.map_some, Option.some.injEq]
    have ok := hl _ (List.getElem_mem hq)
    refine pg_ext rfl ?_ ?_
    · simp [Pg.upd, hD q hq]
    · exact patch_congr fun x hx => h (64 * q + x) (by rw [ok.size] at hx; omega)
  · rw [List.getElem?_eq_none (by omega)]; rfl
theorem upd_none (l : List Pg) (B : Nat → Nat) : upd l (fun _ => false) B (fun _ => false) = l := by
  refine List.ext_getElem? fun q => ?_
  rw [upd_get]
  cases l[q]? with
  | none => rfl
  | some p =>
    simp only [Option.map_some, Option.some.injEq]
    refine pg_ext rfl (by simp [Pg.upd]) ?_
    refine List.ext_getElem? fun x => ?_
    show (patch _ _ _)[x]? = _
    rw [patch_get]
    cases p.data[x]? <;> simp
theorem patch_ok {d : List Nat} {P : Nat → Bool} {B : Nat → Nat} (hd : ∀ c ∈ d, c < 256) (hB : ∀ x, P x = true → B x < 256) : ∀ c ∈ patch d P B, c < 256 := by
  intro c hc
  obtain ⟨x, hx⟩ := List.mem_iff_getElem?.1 hc
  rw [patch_get] at hx
  cases hd0 : d[x]? with
  | none => rw [hd0] at hx; simp at hx
  | some y =>
    rw [hd0] at hx
    simp only [Option.map_some, Option.some.injEq] at hx
    subst hx
    split
    · exact hB x (by assumption)
    · exact hd y (List.mem_of_getElem? hd0)
theorem upd_ok {l : List Pg} {P : Nat → Bool} {B : Nat → Nat} {D : Nat → Bool} (h : Oks l) (hB : ∀ a, P a = true → B a < 256) : Oks (upd l P B D) := by
  intro p hp
  obtain ⟨q, hq⟩ := List.mem_iff_getElem?.1 hp
  rw [upd_get] at hq
  cases hl : l[q]? with
  | none => rw [hl] at hq; simp at hq
  | some p0 =>
    rw [hl] at hq
    simp only [Option.map_some, Option.some.injEq] at hq
    subst hq
    have ok := h p0 (List.mem_of_getElem? hl)
    exact ⟨ok.lo, ok.hi, by show (patch _ _ _).length = 64; rw [patch_len, ok.size], patch_ok ok.small (fun x hx => hB _ hx)⟩
theorem patch_set {d : List Nat} {P : Nat → Bool} {B : Nat → Nat} {x : Nat} (hx : x < d.length) : (patch d P B).set x (B x) = patch d (fun y => P y || y == x) B := by
  refine List.ext_getElem? fun y => ?_
  rw [List.getElem?_set, patch_get, patch_get, patch_len]
  by_cases e : x = y
  · subst e
    simp [hx]
  · have : (y == x) = false := by simpa using (Ne.symm e)
    simp [e, this]
/-- One byte more. -/
theorem upd_byte {l : List Pg} {P : Nat → Bool} {B : Nat → Nat} {D : Nat → Bool} (ok : Oks l) {q x : Nat} {p : Pg} (hp : l[q]? = some p) (hx : x < 64) {c : Nat} (hc : B (64 * q + x) = c) :
    (upd l P B D).set q ⟨p.rights, p.dirty || D q, (patch p.data (fun x => P (64 * q + x)) (fun x => B (64 * q + x))).set x c⟩ = upd l (fun a => P a || a == 64 * q + x) B D := by
  have hq : q < l.length := (List.getElem?_eq_some_iff.1 hp).1
  refine List.ext_getElem? fun r => ?_
  rw [List.getElem?_set, upd_get, upd_get, upd_len]
  by_cases e : q = r
  · subst e
    rw [if_pos rfl, if_pos hq, hp]
    simp only [Option.map_some, Option.some.injEq]
    refine pg_ext rfl rfl ?_
    show (patch _ _ _).set x c = patch _ _ _
    have hxl : x < p.data.length := by rw [(ok p (List.mem_of_getElem? hp)).size]; exact hx
    rw [← hc]
    have h1 := patch_set (d := p.data) (P := fun x => P (64 * q + x)) (B := fun x => B (64 * q + x)) hxl
    rw [h1]
    refine patch_congr fun y hy => ⟨?_, fun _ => rfl⟩
    show (P (64 * q + y) || y == x) = (P (64 * q + y) || 64 * q + y == 64 * q + x)
    congr 1
    rw [Bool.eq_iff_iff, beq_iff_eq, beq_iff_eq]
    omega
  · rw [if_neg e]
    cases hl : l[r]? with
    | none => rfl
    | some p' =>
      simp only [Option.map_some, Option.some.injEq]
      refine pg_ext rfl rfl (patch_congr fun y hy => ⟨?_, fun _ => rfl⟩)
      have ok' := ok p' (List.mem_of_getElem? hl)
      have : (64 * r + y == 64 * q + x) = false := by
        rw [beq_eq_false_iff_ne]
        rw [ok'.size] at hy
        omega
      simp [this]
/-- One mark more. -/
theorem upd_mark {l : List Pg} {P : Nat → Bool} {B : Nat → Nat} {D : Nat → Bool} {q : Nat} {p : Pg} (hp : l[q]? = some p) :
    (upd l P B D).set q ⟨p.rights, true, patch p.data (fun x => P (64 * q + x)) (fun x => B (64 * q + x))⟩ = upd l P B (fun r => D r || r == q) := by
  have hq : q < l.length := (List.getElem?_eq_some_iff.1 hp).1
  refine List.ext_getElem? fun r => ?_
  rw [List.getElem?_set, upd_get, upd_get, upd_len]
  by_cases e : q = r
  · subst e
    rw [if_pos rfl, if_pos hq, hp]
    simp only [Option.map_some, Option.some.injEq]
    exact pg_ext rfl (by simp [Pg.upd]) rfl
  · rw [if_neg e]
    have : (r == q) = false := by simpa using (Ne.symm e)
    cases hl : l[r]? with
    | none => rfl
    | some p' => simp [this]

/-! The same in memory. -/
theorem cells_byte (p : Pg) (x c : Nat) : Pg.cells ⟨p.rights, p.dirty, p.data.set x c⟩ = p.cells.set (2 + x) (bv c) := by
  simp [Pg.cells, Pg.row, List.map_set, Nat.add_comm 2 x]
theorem cells_mark (p : Pg) : Pg.cells ⟨p.rights, true, p.data⟩ = p.cells.set 1 (.bool true) := by simp [Pg.cells, Pg.row]
theorem POwn.stored {w : World} {base g cap : Nat} {l : List Pg} (h : POwn w base (.slice (some ⟨g, 0, none⟩) l.length cap) l) (ok : Oks l) {k j : Nat} {p q : Pg} {u : Value} (hp : l[k]? = some p) (hj : j < 66) (hq : q.cells = p.cells.set j u) :
    POwn (w.setCell ⟨g, k * 66 + j, none⟩ u) base (.slice (some ⟨g, 0, none⟩) l.length cap) (l.set k q) := by
  have := (World.ownsRow.stored h (k * 66 + j) u).1
  unfold POwn
  rw [flat_set ok j u hp hj hq] at this
  rw [List.length_set]
  exact this
end Go.Proofs.YtbekdbgnpcbklaaDoor
