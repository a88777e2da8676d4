/-
  The document's list of timers: for each process when its timer is due; None and Read.
-/
import Derived.Test.YtdckpecalglnoaaDoorTmLaw
import Derived.Deep.Cut
namespace Go.Proofs.YtdckpecalglnoaaDoor
open Classical
open Go.RowKit
set_option linter.unusedVariables false
set_option linter.unusedSimpArgs false

/-- When each process's timer is due (-1: it has none). -/
abbrev Du := Nat → Int
def dl (D : Du) : List Value := (List.range 8).map fun i => .int .i64 (D i)
theorem dl_len (D : Du) : (dl D).length = 8 := by simp [dl]
theorem dl_at (D : Du) {i : Nat} (h : i < 8) : (dl D)[i]? = some (.int .i64 (D i)) := by simp [dl, h]
theorem dl_eq (D : Du) : dl D = [.int .i64 (D 0), .int .i64 (D 1), .int .i64 (D 2), .int .i64 (D 3), .int .i64 (D 4), .int .i64 (D 5), .int .i64 (D 6), .int .i64 (D 7)] := rfl
def put (D : Du) (p : Nat) (d : Int) : Du := fun i => if i = p then d else D i
theorem dl_put (D : Du) {p : Nat} (h : p < 8) (d : Int) : (dl D).set p (.int .i64 d) = dl (put D p d) := by
  refine List.ext_getElem? fun j => ?_
  by_cases hj : j < 8
  · rw [dl_at _ hj]
    by_cases e : j = p
    · subst e
      rw [List.getElem?_set_self (by rw [dl_len]; exact hj)]
      simp [put]
    · rw [List.getElem?_set_ne (Ne.symm e), dl_at _ hj]
      simp [put, e]
  · rw [List.getElem?_eq_none (by rw [List.length_set, dl_len]; omega), List.getElem?_eq_none (by rw [dl_len]; omega)]
theorem dl_congr {D D' : Du} (h : ∀ i, i < 8 → D i = D' i) : dl D = dl D' := by
  refine List.ext_getElem? fun j => ?_
  by_cases hj : j < 8
  · rw [dl_at _ hj, dl_at _ hj, h j hj]
  · rw [List.getElem?_eq_none (by rw [dl_len]; omega), List.getElem?_eq_none (by rw [dl_len]; omega)]
/-- The value of such a list. -/
def dv (D : Du) : Value := .agg #[.int .i64 (D 0), .int .i64 (D 1), .int .i64 (D 2), .int .i64 (D 3), .int .i64 (D 4), .int .i64 (D 5), .int .i64 (D 6), .int .i64 (D 7)]
def noD : Du := fun _ => -1

/-- The eight cells of a block. -/
structure D8 (w : World) (g : Nat) (D : Du) : Prop where
  bl : Bl w g (dl D)
  lt : g < w.heap.size
theorem D8.below {w w' : World} {g : Nat} {D : Du} (h : D8 w g D) (hb : Below w.heap.size w w') : D8 w' g D := ⟨h.bl.below h.lt hb, Nat.lt_of_lt_of_le h.lt hb.size⟩
theorem D8.put {w : World} {g : Nat} {D : Du} (h : D8 w g D) {p : Nat} (hp : p < 8) (d : Int) : D8 (w.setCell ⟨g, p, none⟩ (.int .i64 d)) g (put D p d) :=
  ⟨by have := h.bl.set (k := p) (by rw [dl_len]; exact hp) (.int .i64 d); rw [dl_put _ hp] at this; exact this, by simp [World.setCell]; exact h.lt⟩
theorem D8.far {w : World} {g b o : Nat} {D : Du} {u : Value} (h : D8 w g D) (hne : b ≠ g) : D8 (w.setCell ⟨b, o, none⟩ u) g D := ⟨h.bl.far hne, by simp [World.setCell]; exact h.lt⟩
theorem D8.c {w : World} {g : Nat} {D : Du} (h : D8 w g D) {i : Nat} (hi : i < 8) : w.cell? ⟨g, i, none⟩ = some (.int .i64 (D i)) := h.bl.cell i _ (dl_at _ hi)
theorem D8.f {w : World} {g : Nat} {D : Du} (h : D8 w g D) (i : Nat) : w.frozen? ⟨g, i, none⟩ = false := h.bl.free i
theorem D8.congr {w : World} {g : Nat} {D D' : Du} (h : D8 w g D) (e : ∀ i, i < 8 → D i = D' i) : D8 w g D' := ⟨by rw [← dl_congr e]; exact h.bl, h.lt⟩
theorem d8_alloc (w : World) (D : Du) (t : TypeId) : D8 (w.alloc (.cells #[.int .i64 (D 0), .int .i64 (D 1), .int .i64 (D 2), .int .i64 (D 3), .int .i64 (D 4), .int .i64 (D 5), .int .i64 (D 6), .int .i64 (D 7)] t)) w.heap.size D :=
  ⟨bl_alloc w _ t, by simp⟩
theorem d8_zero (w : World) (t : TypeId) : D8 (w.alloc (.cells #[.int .i64 0, .int .i64 0, .int .i64 0, .int .i64 0, .int .i64 0, .int .i64 0, .int .i64 0, .int .i64 0] t)) w.heap.size (fun _ => 0) := d8_alloc w (fun _ => 0) t
/-- Eight stores, one behind another. -/
def set8 (w : World) (g : Nat) (D : Du) : World := (((((((w.setCell ⟨g, 0, none⟩ (.int .i64 (D 0))).setCell ⟨g, 1, none⟩ (.int .i64 (D 1))).setCell ⟨g, 2, none⟩ (.int .i64 (D 2))).setCell ⟨g, 3, none⟩ (.int .i64 (D 3))).setCell ⟨g, 4, none⟩ (.int .i64 (D 4))).setCell ⟨g, 5, none⟩ (.int .i64 (D 5))).setCell ⟨g, 6, none⟩ (.int .i64 (D 6))).setCell ⟨g, 7, none⟩ (.int .i64 (D 7))
theorem D8.set8 {w : World} {g : Nat} {D : Du} (h : D8 w g D) (D' : Du) : D8 (set8 w g D') g D' := by
  have h1 := ((((((((h.put (p := 0) (by decide) (D' 0)).put (p := 1) (by decide) (D' 1)).put (p := 2) (by decide) (D' 2)).put (p := 3) (by decide) (D' 3)).put (p := 4) (by decide) (D' 4)).put (p := 5) (by decide) (D' 5)).put (p := 6) (by decide) (D' 6)).put (p := 7) (by decide) (D' 7))
  refine h1.congr fun i hi => ?_
  have : i = 0 ∨ i = 1 ∨ i = 2 ∨ i = 3 ∨ i = 4 ∨ i = 5 ∨ i = 6 ∨ i = 7 := by omega
  rcases this with rfl | rfl | rfl | rfl | rfl | rfl | rfl | rfl <;> simp [Go.Proofs.YtdckpecalglnoaaDoor.put]
theorem set8_below {w w0 : World} {B g : Nat} (h : Below B w0 w) (hg : B ≤ g) (D : Du) : Below B w0 (set8 w g D) :=
  ((((((((h.setCell (p := ⟨g, 0, none⟩) hg _).setCell (p := ⟨g, 1, none⟩) hg _).setCell (p := ⟨g, 2, none⟩) hg _).setCell (p := ⟨g, 3, none⟩) hg _).setCell (p := ⟨g, 4, none⟩) hg _).setCell (p := ⟨g, 5, none⟩) hg _).setCell (p := ⟨g, 6, none⟩) hg _).setCell (p := ⟨g, 7, none⟩) hg _)

set_option maxRecDepth 100000 in
set_option maxHeartbeats 4000000 in
theorem none_any (w : World) : Calls Tryd.prog 51 #[] w fun e w' => e = .returned (dv noD) ∧ Below w.heap.size w w' := by
  have Z0 := hide (d8_zero w 71)
  have X0 := hide (new_below w (.cells #[.int .i64 0, .int .i64 0, .int .i64 0, .int .i64 0, .int .i64 0, .int .i64 0, .int .i64 0, .int .i64 0] 71))
  go_enter Tryd.func51, Tryd.ntmps51
  go_wp2
  have Y0 := hide (Z0.out.below (new_below _ (.cells #[.int .i64 0, .int .i64 0, .int .i64 0, .int .i64 0, .int .i64 0, .int .i64 0, .int .i64 0, .int .i64 0] 71)))
  have Z1 := hide (d8_zero (w.alloc (.cells #[.int .i64 0, .int .i64 0, .int .i64 0, .int .i64 0, .int .i64 0, .int .i64 0, .int .i64 0, .int .i64 0] 71)) 71)
  have X1 := hide (chain X0.out (new_below _ (.cells #[.int .i64 0, .int .i64 0, .int .i64 0, .int .i64 0, .int .i64 0, .int .i64 0, .int .i64 0, .int .i64 0] 71)))
  have hsz : (w.alloc (.cells #[.int .i64 0, .int .i64 0, .int .i64 0, .int .i64 0, .int .i64 0, .int .i64 0, .int .i64 0, .int .i64 0] 71)).heap.size = w.heap.size + 1 := by simp
  rw [hsz] at Z1
  clear hsz Z0 X0
  generalize (w.alloc (.cells #[.int .i64 0, .int .i64 0, .int .i64 0, .int .i64 0, .int .i64 0, .int .i64 0, .int .i64 0, .int .i64 0] 71)).alloc (.cells #[.int .i64 0, .int .i64 0, .int .i64 0, .int .i64 0, .int .i64 0, .int .i64 0, .int .i64 0, .int .i64 0] 71) = W1 at *
  go_loopw [2] (fun i wr => ∃ k : Nat, k ≤ 8 ∧ i = .int .i64 (k : Int) ∧ Hid (D8 wr (w.heap.size + 1) (fun i => if i < k then -1 else 0)) ∧ Hid (D8 wr w.heap.size (fun _ => 0)) ∧ Hid (Below w.heap.size w wr)) (fun i _ => 8 - (intOf i).toNat)
  case atStart => exact ⟨0, by omega, rfl, Z1.out, Y0.out, X1.out⟩
  case round =>
    obtain ⟨k, hk, rfl, hd, hy, hb⟩ := hrel
    by_cases hlt : k < 8
    · have c0 := hd.out.c hlt
      have f0 := hd.out.f k
      have d1 : decide ((k : Int) < 8) = true := decide_eq_true (by omega)
      have k8 : (k : Int) < 8 := by omega
      have P1 : Hid (D8 (wr.setCell ⟨w.heap.size + 1, k, none⟩ (.int .i64 (-1))) (w.heap.size + 1) (fun i => if i < k + 1 then -1 else 0)) := (hd.out.put hlt (-1)).congr fun i hi => by
        unfold put
        by_cases e : i = k
        · subst e; simp
        · rw [if_neg e]
          show (if i < k then (-1 : Int) else 0) = _
          by_cases h : i < k
          · rw [if_pos h, if_pos (by omega)]
          · rw [if_neg h, if_neg (by omega)]
      have Q1 := hide (hy.out.far (b := w.heap.size + 1) (o := k) (u := .int .i64 (-1)) (by omega))
      have B1 := hide (hb.out.setCell (p := ⟨w.heap.size + 1, k, none⟩) (by show w.heap.size ≤ w.heap.size + 1; omega) (.int .i64 (-1)))
      go_wp2
      go_roundw
      case rel => exact ⟨k + 1, by omega, by go_num, P1.out, Q1.out, B1.out⟩
      case measure => simp [intOf]; omega
    · obtain rfl : k = 8 := by omega
      have E1 : Hid (D8 wr (w.heap.size + 1) noD) := hd.out.congr fun i hi => by rw [if_pos hi]; rfl
      have z0 := E1.out.c (i := 0) (by decide)
      have z1 := E1.out.c (i := 1) (by decide)
      have z2 := E1.out.c (i := 2) (by decide)
      have z3 := E1.out.c (i := 3) (by decide)
      have z4 := E1.out.c (i := 4) (by decide)
      have z5 := E1.out.c (i := 5) (by decide)
      have z6 := E1.out.c (i := 6) (by decide)
      have z7 := E1.out.c (i := 7) (by decide)
      have y0 := hy.out.c (i := 0) (by decide)
      have y1 := hy.out.c (i := 1) (by decide)
      have y2 := hy.out.c (i := 2) (by decide)
      have y3 := hy.out.c (i := 3) (by decide)
      have y4 := hy.out.c (i := 4) (by decide)
      have y5 := hy.out.c (i := 5) (by decide)
      have y6 := hy.out.c (i := 6) (by decide)
      have y7 := hy.out.c (i := 7) (by decide)
      have ff := hy.out.f
      have Q8 := hide (hy.out.set8 noD)
      have B8 := hide (set8_below hb.out (Nat.le_refl _) noD)
      unfold set8 at Q8 B8
      clear hd hy
      go_wp2
      generalize (((((((wr.setCell ⟨w.heap.size, 0, none⟩ (.int .i64 (noD 0))).setCell ⟨w.heap.size, 1, none⟩ (.int .i64 (noD 1))).setCell ⟨w.heap.size, 2, none⟩ (.int .i64 (noD 2))).setCell ⟨w.heap.size, 3, none⟩ (.int .i64 (noD 3))).setCell ⟨w.heap.size, 4, none⟩ (.int .i64 (noD 4))).setCell ⟨w.heap.size, 5, none⟩ (.int .i64 (noD 5))).setCell ⟨w.heap.size, 6, none⟩ (.int .i64 (noD 6))).setCell ⟨w.heap.size, 7, none⟩ (.int .i64 (noD 7)) = W9 at *
      have e0 := Q8.out.c (i := 0) (by decide)
      have e1 := Q8.out.c (i := 1) (by decide)
      have e2 := Q8.out.c (i := 2) (by decide)
      have e3 := Q8.out.c (i := 3) (by decide)
      have e4 := Q8.out.c (i := 4) (by decide)
      have e5 := Q8.out.c (i := 5) (by decide)
      have e6 := Q8.out.c (i := 6) (by decide)
      have e7 := Q8.out.c (i := 7) (by decide)
      (try simp only [Exit.inBlock, Exit.then])
      refine bodyPost_ret (v := dv noD) (by simp [results, Tryd.results51, go_sem, e0, e1, e2, e3, e4, e5, e6, e7, dv]) rfl ?_
      exact ⟨rfl, B8.out⟩

/-- What Read makes of a list. -/
def dF (D : Du) (t : Tm) : Du := put D t.proc.toNat t.due
def dT (l : List Tm) : Du := l.foldl dF noD
theorem dT_take (l : List Tm) {k : Nat} {t : Tm} (ht : l[k]? = some t) : dT (l.take (k + 1)) = put (dT (l.take k)) t.proc.toNat t.due := by
  unfold dT
  rw [List.take_add_one, ht, List.foldl_append]
  rfl
theorem dF_has {p : Nat} (hp : p < 8) : ∀ (l : List Tm) (D : Du), InR l 8 → (0 ≤ (l.foldl dF D) p ↔ (p : Int) ∈ l.map Tm.proc ∨ 0 ≤ D p)
  | [], D, _ => by simp
  | t :: l, D, h => by
    have ht := h t (by simp)
    have h1 := ht.1
    have h2 := ht.2.1
    have h3 := ht.2.2.1
    rw [List.foldl_cons, dF_has hp l _ (fun u hu => h u (by simp [hu]))]
    unfold dF put
    simp only [List.map_cons, List.mem_cons]
    by_cases e : p = t.proc.toNat
    · rw [if_pos e]
      have : (p : Int) = t.proc := by omega
      simp [this, h3]
    · rw [if_neg e]
      have : ¬ (p : Int) = t.proc := by omega
      simp [this]
theorem dT_has {l : List Tm} (h : InR l 8) {p : Nat} (hp : p < 8) : 0 ≤ dT l p ↔ (p : Int) ∈ l.map Tm.proc := by
  unfold dT
  rw [dF_has hp l noD h]
  simp [noD]
theorem dF_find {p : Nat} (hp : p < 8) : ∀ (l : List Tm) (D : Du), InR l 8 → Nod l → (l.foldl dF D) p = (findT l p).elim (D p) Tm.due
  | [], D, _, _ => rfl
  | t :: l, D, h, hn => by
    have ht := h t (by simp)
    have h1 := ht.1
    have h2 := ht.2.1
    have hn' := List.nodup_cons.1 (show ((t :: l).map Tm.proc).Nodup from hn)
    rw [List.foldl_cons, dF_find hp l _ (fun u hu => h u (by simp [hu])) hn'.2]
    unfold dF put findT
    by_cases e : p = t.proc.toNat
    · have e' : t.proc = (p : Int) := by omega
      rw [List.find?_cons_of_pos (by simpa using e'), if_pos e]
      have : l.find? (fun u => u.proc == (p : Int)) = none := List.find?_eq_none.2 fun u hu => by
        simp
        intro hup
        exact hn'.1 (List.mem_map.2 ⟨u, hu, by rw [hup, e']⟩)
      rw [this]
      rfl
    · have e' : ¬ t.proc = (p : Int) := by omega
      rw [List.find?_cons_of_neg (by simpa using e'), if_neg e]
theorem dT_find {l : List Tm} (h : InR l 8) (hn : Nod l) {p : Nat} (hp : p < 8) : dT l p = (findT l p).elim (-1) Tm.due := dF_find hp l noD h hn
end Go.Proofs.YtdckpecalglnoaaDoor
