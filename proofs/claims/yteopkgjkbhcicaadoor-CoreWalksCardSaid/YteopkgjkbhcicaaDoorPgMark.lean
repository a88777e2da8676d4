/-
  Marks: pages cleaned, one after the other.
-/
import Derived.Test.YteopkgjkbhcicaaDoorPgEq
namespace Go.Proofs.YteopkgjkbhcicaaDoor
open Go.RowKit FerryCrc
set_option linter.unusedVariables false

/-- A page that isn't dirty. -/
def Pg.clean (p : Pg) : Pg := ⟨p.rights, false, p.data⟩
theorem Pg.clean_ok {p : Pg} (h : p.Ok) : p.clean.Ok := ⟨h.lo, h.hi, h.size, h.small⟩
/-- The first k pages cleaned. -/
def cleaned (l : List Pg) (k : Nat) : List Pg := (l.take k).map Pg.clean ++ l.drop k
theorem cleaned_len (l : List Pg) (k : Nat) : (cleaned l k).length = l.length := by simp [cleaned]; omega
theorem cleaned_ok {l : List Pg} (h : Oks l) (k : Nat) : Oks (cleaned l k) := by
  intro p hp
  rcases List.mem_append.1 hp with hp | hp
  · obtain ⟨q, hq, rfl⟩ := List.mem_map.1 hp
    exact Pg.clean_ok (h q (List.mem_of_mem_take hq))
  · exact h p (List.mem_of_mem_drop hp)
theorem cleaned_succ {l : List Pg} {k : Nat} {p : Pg} (hp : l[k]? = some p) : (cleaned l k).set k p.clean = cleaned l (k + 1) ∧ (cleaned l k)[k]? = some p := by
  have hk : k < l.length := (List.getElem?_eq_some_iff.1 hp).1
  have hlt : (List.map Pg.clean (l.take k)).length = k := by simp; omega
  unfold cleaned
  constructor
  · rw [List.set_append_right _ _ (by omega), hlt, Nat.sub_self, List.take_add_one, hp, List.drop_eq_getElem_cons hk]
    have he : l[k] = p := by rw [List.getElem?_eq_getElem hk] at hp; exact Option.some.inj hp
    simp [he]
  · rw [List.getElem?_append_right (by omega), hlt, Nat.sub_self, List.getElem?_drop, Nat.add_zero, hp]
theorem cells_clean (p : Pg) : p.clean.cells = p.cells.set 1 (.bool false) := by simp [Pg.cells, Pg.row, Pg.clean]
theorem cleaned_all {l : List Pg} {k : Nat} (h : l.length = k) : cleaned l k = l.map Pg.clean := by unfold cleaned; rw [← h]; simp
/-- One page cleaned in memory. -/
theorem POwn.cleanOne {w : World} {base g len cap : Nat} {l : List Pg} {k : Nat} (h : POwn w base (.slice (some ⟨g, 0, none⟩) len cap) (cleaned l k)) (hl : l.length = len) (ok : Oks l) (hk : k < len) :
    (∃ u, w.cell? ⟨g, k * 66 + 1, none⟩ = some u) ∧ w.frozen? ⟨g, k * 66 + 1, none⟩ = false ∧ POwn (w.setCell ⟨g, k * 66 + 1, none⟩ (.bool false)) base (.slice (some ⟨g, 0, none⟩) len cap) (cleaned l (k + 1)) := by
  obtain ⟨p, hp⟩ : ∃ p, l[k]? = some p := ⟨_, List.getElem?_eq_getElem (by omega)⟩
  obtain ⟨hset, hget⟩ := cleaned_succ hp
  have okk := cleaned_ok ok k
  have hlk : (cleaned l k).length = len := by rw [cleaned_len]; exact hl
  obtain ⟨hc, hf⟩ := h.cellOf hlk okk hget (j := 1) (by decide)
  have hst := POwn.stored (by rw [hlk]; exact h) okk hget (show 1 < 66 by decide) (cells_clean p)
  rw [hset, hlk] at hst
  exact ⟨⟨_, by rw [hc]; rfl⟩, hf, hst⟩

end Go.Proofs.YteopkgjkbhcicaaDoor
