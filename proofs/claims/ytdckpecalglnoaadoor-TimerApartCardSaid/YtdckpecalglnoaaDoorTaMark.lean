/-
  Lists that are marked and grown: what each slice shows, whichever of them share a block; no program in it but its types.
-/
import Derived.Test.YtdckpecalglnoaaDoorTmFns
import Derived.Deep.Upon
import Derived.Deep.MidRow
namespace Go.Proofs.YtdckpecalglnoaaDoor
open Go.RowKit
set_option linter.unusedVariables false
set_option linter.unusedSimpArgs false

theorem size_cells (b : Nat) : ∀ (vs : List Value) (o : Nat) (w : World), (w.setCells b o vs).heap.size = w.heap.size
  | [], _, _ => rfl
  | v :: vs, o, w => by rw [World.setCells, size_cells b vs]; simp [World.setCell]
theorem tape_cells (b : Nat) : ∀ (vs : List Value) (o : Nat) (w : World), (w.setCells b o vs).tape = w.tape
  | [], _, _ => rfl
  | v :: vs, o, w => by rw [World.setCells, tape_cells b vs]; rfl
/-- A slice. -/
structure Sl where
  a : Option Addr
  n : Nat
  c : Nat
def Sl.v (s : Sl) : Value := .slice s.a s.n s.c
/-- The j-th cell of a row of marks. -/
def mcell (m : Int) (j : Nat) : Value := if j % 2 = 0 then .int .i64 m else .int .i64 0
def mks (m : Int) (k : Nat) : List Value := (List.range (k * 2)).map (mcell m)
theorem mks_len (m : Int) (k : Nat) : (mks m k).length = k * 2 := by simp [mks]
theorem mks_at {m : Int} {k j : Nat} (h : j < k * 2) : (mks m k)[j]? = some (mcell m j) := by simp [mks, h]
theorem mks_one (m : Int) (k : Nat) : ∀ u ∈ mks m k, u.oneCell' = true := by
  intro u hu
  obtain ⟨j, _, rfl⟩ := List.mem_map.1 hu
  unfold mcell
  split <;> rfl
theorem mcell_even (m : Int) (n j : Nat) : mcell m (n * 2 + j) = mcell m j := by
  unfold mcell
  rw [show (n * 2 + j) % 2 = j % 2 by omega]
/-- A slice of whose block the colour is m shows marks m. -/
structure Mk (w : World) (col : Nat → Int) (s : Sl) (m : Int) : Prop where
  fit : s.n ≤ s.c
  null : s.a = none → s.n = 0 ∧ s.c = 0
  at0 : ∀ ad, s.a = some ad → ad.off = 0 ∧ ad.spot = none ∧ col ad.block = m ∧ ad.block < w.heap.size
  room : ∀ g, s.a = some ⟨g, 0, none⟩ → ∀ j, j < s.c * 2 → (w.cell? ⟨g, j, none⟩).isSome = true ∧ w.frozen? ⟨g, j, none⟩ = false
  vis : ∀ g, s.a = some ⟨g, 0, none⟩ → ∀ j, j < s.n * 2 → w.cell? ⟨g, j, none⟩ = some (mcell m j)
theorem Mk.below {w w' : World} {col col' : Nat → Int} {s : Sl} {m : Int} (h : Mk w col s m) (hb : Below w.heap.size w w') (hc : ∀ g, g < w.heap.size → col' g = col g) : Mk w' col' s m := by
  have hlt : ∀ g, s.a = some ⟨g, 0, none⟩ → g < w.heap.size := fun g hg => (h.at0 _ hg).2.2.2
  refine ⟨h.fit, h.null, fun ad ha => ?_, fun g hg j hj => ?_, fun g hg j hj => ?_⟩
  · obtain ⟨h1, h2, h3, h4⟩ := h.at0 ad ha
    exact ⟨h1, h2, by rw [hc _ h4]; exact h3, Nat.lt_of_lt_of_le h4 hb.size⟩
  · rw [hb.cell (p := ⟨g, j, none⟩) (hlt g hg), hb.frozen (p := ⟨g, j, none⟩) (hlt g hg)]
    exact h.room g hg j hj
  · rw [hb.cell (p := ⟨g, j, none⟩) (hlt g hg)]
    exact h.vis g hg j hj
/-- Marks m are written into a block of that colour. -/
theorem Mk.write {w : World} {col : Nat → Int} {s : Sl} {m m' : Int} (h : Mk w col s m') {b n k : Nat} (hb : col b = m) (hw : ∀ j, j < k * 2 → (w.cell? ⟨b, n * 2 + j, none⟩).isSome = true) : Mk (w.setCells b (n * 2) (mks m k)) col s m' := by
  have hsz : w.heap.size ≤ (w.setCells b (n * 2) (mks m k)).heap.size := by rw [size_cells]; exact Nat.le_refl _
  refine ⟨h.fit, h.null, fun ad ha => ?_, fun g hg j hj => ?_, fun g hg j hj => ?_⟩
  · obtain ⟨h1, h2, h3, h4⟩ := h.at0 ad ha
    exact ⟨h1, h2, h3, Nat.lt_of_lt_of_le h4 hsz⟩
  · rw [World.frozen?_setCells]
    exact ⟨World.isSome_setCells b _ _ w _ (h.room g hg j hj).1, (h.room g hg j hj).2⟩
  · by_cases hin : g = b ∧ n * 2 ≤ j ∧ j < n * 2 + k * 2
    · obtain ⟨rfl, h1, h2⟩ := hin
      have hm : m' = m := by rw [← hb]; exact (h.at0 _ hg).2.2.1.symm
      obtain ⟨i, rfl⟩ : ∃ i, j = n * 2 + i := ⟨j - n * 2, by omega⟩
      have hi : i < (mks m k).length := by rw [mks_len]; omega
      rw [World.cell?_setCells_in g (mks m k) (n * 2) w (fun j hj => hw j (by rw [mks_len] at hj; exact hj)) i hi, hm, mcell_even]
      have := mks_at (m := m) (k := k) (j := i) (by omega)
      rw [List.getElem?_eq_getElem hi] at this
      exact this
    · rw [World.cell?_setCells_out b (mks m k) (n * 2) w ⟨g, j, none⟩ (fun e _ => by rw [mks_len]; show j < n * 2 ∨ n * 2 + k * 2 ≤ j; have e' : g = b := e; omega)]
      exact h.vis g hg j hj
/-- What an append of marks does to the world. -/
structure Gr (w w' : World) (col col' : Nat → Int) (m : Int) : Prop where
  os : w'.os = w.os
  tape : w'.tape = w.tape
  output : w'.output = w.output
  size : w.heap.size ≤ w'.heap.size
  cols : ∀ g, g < w.heap.size → col' g = col g
  zero : ∀ g, w'.heap.size ≤ g → col' g = 0
  other : ∀ g, g < w.heap.size → col g ≠ m → w'.heap[g]? = w.heap[g]?
  keep : ∀ s m', Mk w col s m' → Mk w' col' s m'
theorem Gr.below {w w' : World} {col col' : Nat → Int} {m : Int} (h : Gr w w' col col' m) {B : Nat} (hB : B ≤ w.heap.size) (hc : ∀ g, g < B → col g ≠ m) : Below B w w' :=
  ⟨h.os, h.tape, h.output, h.size, fun g hg => h.other g (by omega) (hc g hg)⟩
/-- A row of one's own that shows marks. -/
theorem mk_own {w : World} {base : Nat} {col : Nat → Int} {v : Value} {m : Int} {n : Nat} (h : w.ownsRow base 48 2 v n (mks m n)) (hc : ∀ g, v.ownBlock = some g → col g = m) : ∃ s : Sl, v = s.v ∧ s.n = n ∧ Mk w col s m := by
  rcases h.2 with ⟨e, h0⟩ | ⟨g, cap, cur, e, hg, hh, hnc, hcm, hcs, htake⟩
  · exact ⟨⟨none, 0, 0⟩, e, h0.symm, ⟨Nat.le_refl _, fun _ => ⟨rfl, rfl⟩, fun ad ha => by simp at ha, fun g hg => by simp at hg, fun g hg => by simp at hg⟩⟩
  · refine ⟨⟨some ⟨g, 0, none⟩, n, cap⟩, e, rfl, ⟨hnc, fun e => by simp at e, fun ad ha => ?_, fun g' hg' j hj => ?_, fun g' hg' j hj => ?_⟩⟩
    · simp only [Option.some.injEq] at ha
      subst ha
      exact ⟨rfl, rfl, hc g (by rw [e]; rfl), (Array.getElem?_eq_some_iff.1 hh).1⟩
    · simp only [Option.some.injEq, Addr.mk.injEq, and_true] at hg'
      subst hg'
      subst e
      refine ⟨?_, World.ownsRow.frozenAt h _⟩
      rw [cell_of_row w g j cur _ _ hh]
      have : j < cur.size := by rw [hcs]; exact hj
      simp [this]
    · simp only [Option.some.injEq, Addr.mk.injEq, and_true] at hg'
      subst hg'
      subst e
      rw [World.ownsRow.cellAt h j hj]
      exact mks_at hj

theorem Mk.far {w : World} {col : Nat → Int} {s : Sl} {m : Int} (h : Mk w col s m) {b o : Nat} {u : Value} (hb : col b ≠ m) : Mk (w.setCell ⟨b, o, none⟩ u) col s m := by
  have hne : ∀ g, s.a = some ⟨g, 0, none⟩ → g ≠ b := fun g hg e => hb (by rw [← e]; exact (h.at0 _ hg).2.2.1)
  refine ⟨h.fit, h.null, fun ad ha => ?_, fun g hg j hj => ?_, fun g hg j hj => ?_⟩
  · obtain ⟨h1, h2, h3, h4⟩ := h.at0 ad ha
    exact ⟨h1, h2, h3, by simp [World.setCell]; exact h4⟩
  · rw [World.cell?_setCell_other _ _ _ _ (by simp; intro e; exact absurd e.symm (hne g hg)), World.frozen?_setCell]
    exact h.room g hg j hj
  · rw [World.cell?_setCell_other _ _ _ _ (by simp; intro e; exact absurd e.symm (hne g hg))]
    exact h.vis g hg j hj
theorem Mk.grown {w w' : World} {col : Nat → Int} {s : Sl} {m : Int} {row : Option Nat} (h : Mk w col s m) (hg : w.grownBy w' row) (hr : ∀ g, row = some g → col g ≠ m) : Mk w' col s m := by
  have hbk : ∀ g, s.a = some ⟨g, 0, none⟩ → w'.heap[g]? = w.heap[g]? := fun g hs => hg.block g (h.at0 _ hs).2.2.2 (fun e => hr g e.symm (h.at0 _ hs).2.2.1)
  refine ⟨h.fit, h.null, fun ad ha => ?_, fun g hg' j hj => ?_, fun g hg' j hj => ?_⟩
  · obtain ⟨h1, h2, h3, h4⟩ := h.at0 ad ha
    exact ⟨h1, h2, h3, Nat.lt_of_lt_of_le h4 hg.size⟩
  · rw [World.cell?_of_block (a := ⟨g, j, none⟩) (hbk g hg'), World.frozen?_of_block (a := ⟨g, j, none⟩) (hbk g hg')]
    exact h.room g hg' j hj
  · rw [World.cell?_of_block (a := ⟨g, j, none⟩) (hbk g hg')]
    exact h.vis g hg' j hj
/-- A timer is laid into its place. -/
theorem TOwn.put2 {w : World} {base G cap n : Nat} {l : List Tm} (h : TOwn w base (.slice (some ⟨G, 0, none⟩) n cap) l) (hn : l.length = n) {k : Nat} {p q : Tm} (hk : l[k]? = some p) :
    (∃ u, w.cell? ⟨G, k * 2, none⟩ = some u) ∧ (∃ u, w.cell? ⟨G, k * 2 + 1, none⟩ = some u) ∧ w.frozen? ⟨G, k * 2, none⟩ = false ∧ w.frozen? ⟨G, k * 2 + 1, none⟩ = false ∧
    TOwn ((w.setCell ⟨G, k * 2, none⟩ (.int .i64 q.proc)).setCell ⟨G, k * 2 + 1, none⟩ (.int .i64 q.due)) base (.slice (some ⟨G, 0, none⟩) n cap) (l.set k q) ∧
    w.grownBy ((w.setCell ⟨G, k * 2, none⟩ (.int .i64 q.proc)).setCell ⟨G, k * 2 + 1, none⟩ (.int .i64 q.due)) (some G) := by
  subst hn
  have hkl : k < l.length := (List.getElem?_eq_some_iff.1 hk).1
  obtain ⟨h1, g1⟩ := World.ownsRow.stored h (k * 2) (.int .i64 q.proc)
  obtain ⟨h2, g2⟩ := World.ownsRow.stored h1 (k * 2 + 1) (.int .i64 q.due)
  have c0 := World.ownsRow.cellAt h (k * 2) (by omega)
  have c1 := World.ownsRow.cellAt h (k * 2 + 1) (by omega)
  rw [fl_get tm2 1 hk (by decide)] at c1
  have e0 := fl_get tm2 0 hk (by decide)
  rw [Nat.add_zero] at e0
  rw [e0] at c0
  rw [fl_two tm2 hk (y := q) rfl] at h2
  refine ⟨⟨_, c0⟩, ⟨_, c1⟩, World.ownsRow.frozenAt h _, World.ownsRow.frozenAt h _, ?_, ⟨rfl, rfl, rfl, Nat.le_trans g1.size g2.size, fun j hj hne => by rw [g2.block j (Nat.lt_of_lt_of_le hj g1.size) hne, g1.block j hj hne]⟩⟩
  unfold TOwn
  rw [List.length_set]
  exact h2
theorem mks_rep (m : Int) (n : Nat) : (List.replicate n (⟨m, 0⟩ : Tm)).flatMap Tm.cells = mks m n := by
  refine List.ext_getElem? fun j => ?_
  by_cases hj : j < n * 2
  · rw [mks_at hj]
    have h1 := fl_get tm2 (l := List.replicate n (⟨m, 0⟩ : Tm)) (k := j / 2) (x := ⟨m, 0⟩) (j % 2) (by rw [List.getElem?_replicate, if_pos (by omega)]) (by omega)
    rw [show j / 2 * 2 + j % 2 = j by omega] at h1
    rw [h1]
    unfold mcell Tm.cells
    have : j % 2 = 0 ∨ j % 2 = 1 := by omega
    rcases this with e | e <;> simp [e]
  · rw [List.getElem?_eq_none (by rw [fl_len tm2]; simp; omega), List.getElem?_eq_none (by rw [mks_len]; omega)]

/-- append of marks to a slice that shows such. -/
theorem append_mark {w : World} {ops : Array Oper} {rest : List Oper} {o : Oper} {act : Act} {Q : Exit → Act → World → Prop} (hgd : o.guard = none) (s x : Operand)
    (ho : o.op = .call { callee := .builtin .append, args := #[s, x], argTypes := #[22, 22] })
    (col : Nat → Int) (hzero : ∀ g, w.heap.size ≤ g → col g = 0) (sl : Sl) (m : Int) (hs : act.eval s = sl.v) (hM : Mk w col sl m)
    (gx cx k : Nat) (hx : act.eval x = .slice (some ⟨gx, 0, none⟩) k cx) (hc : ∀ j, j < k * 2 → w.cell? ⟨gx, j, none⟩ = some (mcell m j)) (hk : 0 < k) (hb : sl.n + k ≤ 1000000)
    (h : ∀ sl' w' col', sl'.n = sl.n + k → Mk w' col' sl' m → Gr w w' col col' m → wpList Tryd.prog ops Q rest (act.put o.dst sl'.v) w') : wpList Tryd.prog ops Q (o :: rest) act w := by
  obtain ⟨i, z, hi, hz, hsz, hby, hzs⟩ := infoTimer
  have hnews : ∀ j u, (mks m k)[j]? = some u → w.cell? ((⟨gx, 0, none⟩ : Addr).add j) = some u := fun j u hu => by
    have hj := (List.getElem?_eq_some_iff.1 hu).1
    rw [mks_len] at hj
    rw [mks_at hj] at hu
    rw [add_lit', Nat.zero_add, hc j hj, hu]
  have hnew : ∀ v' w', w'.ownsRow w.heap.size 48 2 v' (sl.n + k) (mks m sl.n ++ mks m k) → w.grownBy w' none → ∃ sl' col', v' = sl'.v ∧ sl'.n = sl.n + k ∧ Mk w' col' sl' m ∧ Gr w w' col col' m := fun v' w' h1 h2 => by
    have e : mks m sl.n ++ mks m k = mks m (sl.n + k) := by
      refine List.ext_getElem? fun j => ?_
      by_cases hj : j < sl.n * 2
      · rw [List.getElem?_append_left (by rw [mks_len]; exact hj), mks_at hj, mks_at (by omega)]
      · rw [List.getElem?_append_right (by rw [mks_len]; omega), mks_len]
        by_cases hj2 : j < (sl.n + k) * 2
        · rw [mks_at (by omega), mks_at hj2]
          obtain ⟨q, rfl⟩ : ∃ q, j = sl.n * 2 + q := ⟨j - sl.n * 2, by omega⟩
          rw [mcell_even, show sl.n * 2 + q - sl.n * 2 = q by omega]
        · rw [List.getElem?_eq_none (by rw [mks_len]; omega), List.getElem?_eq_none (by rw [mks_len]; omega)]
    rw [e] at h1
    have hbl : Below w.heap.size w w' := (Below.refl _ _).grown h2 (Nat.le_refl _) (fun k hk => by simp at hk)
    obtain ⟨sl', e1, e2, h3⟩ := mk_own (col := fun g => if g < w.heap.size then col g else if g < w'.heap.size then m else 0) h1 (fun g hg => by
      have := (World.ownsRow.lt h1 g hg)
      show (if g < w.heap.size then col g else if g < w'.heap.size then m else 0) = m
      rw [if_neg (by omega), if_pos this.2])
    exact ⟨sl', _, e1, e2, h3, ⟨h2.os, h2.tape, h2.output, h2.size, fun g hg => if_pos hg, fun g hg => by have := h2.size; show (if g < w.heap.size then col g else if g < w'.heap.size then m else 0) = 0; rw [if_neg (by omega), if_neg (by omega)], fun g hg _ => hbl.block g hg, fun s m' hs => hs.below hbl (fun g hg => if_pos hg)⟩⟩
  cases ha : sl.a with
  | none =>
    obtain ⟨h1, h2⟩ := hM.null ha
    have hs' : act.eval s = .slice none 0 0 := by rw [hs]; unfold Sl.v; rw [ha, h1, h2]
    refine wpList_append_grows w hgd s x 22 ho 48 i z 2 16 Tryd.underlying22 hi hz hsz hby hzs (by decide) none 0 0 [] hs' (fun _ => ⟨rfl, rfl⟩) rfl (fun b e => by simp at e) ⟨gx, 0, none⟩ k cx (mks m k) hx (mks_len m k) hnews (mks_one m k) (by omega) (by unfold maxLen; omega) (by omega) ?_
    intro v' w' k1 k2
    obtain ⟨sl', col', rfl, e2, h3, h4⟩ := hnew v' w' (by rw [h1]; exact k1) k2
    exact h sl' w' col' e2 h3 h4
  | some ad =>
    obtain ⟨g, off, sp⟩ := ad
    obtain ⟨h1, h2, h3, h4⟩ := hM.at0 _ ha
    simp only at h1 h2 h3 h4
    subst h1 h2
    have hs' : act.eval s = .slice (some ⟨g, 0, none⟩) sl.n sl.c := by rw [hs]; unfold Sl.v; rw [ha]
    refine wpList_append_arg w hgd s x 22 ho 48 i z 2 16 Tryd.underlying22 hi hz hsz hby hzs (by decide) g 0 sl.n sl.c (mks m sl.n) hs' (mks_len m _) (fun j u hu => by
      have hj := (List.getElem?_eq_some_iff.1 hu).1
      rw [mks_len] at hj
      rw [mks_at hj] at hu
      rw [Nat.zero_add, hM.vis g ha j hj, hu]) ⟨gx, 0, none⟩ k cx (mks m k) hx (mks_len m k) hnews (mks_one m k) (fun hr j hj => by
        rw [mks_len] at hj
        rw [Nat.zero_add]
        exact hM.room g ha (sl.n * 2 + j) (by omega)) (by unfold maxLen; omega) (by omega) ?_ ?_
    · intro hr
      rw [Nat.zero_add]
      have hw : ∀ j, j < k * 2 → (w.cell? ⟨g, sl.n * 2 + j, none⟩).isSome = true := fun j hj => (hM.room g ha (sl.n * 2 + j) (by omega)).1
      have hM' := hM.write (b := g) (n := sl.n) (k := k) h3 hw
      refine h ⟨some ⟨g, 0, none⟩, sl.n + k, sl.c⟩ _ col rfl ⟨hr, fun e => by simp at e, fun ad e => ?_, fun g' e => ?_, fun g' e j hj => ?_⟩ ⟨World.os_setCells _ _ _ _, ?_, World.output_setCells _ _ _ _, ?_, fun _ _ => rfl, fun g' hg' => hzero g' (by rw [size_cells] at hg'; exact hg'), fun g' hg' hne => World.heap_setCells_other w g _ _ hg' (fun e => hne (by rw [e]; exact h3)), fun s m' hs => hs.write h3 hw⟩
      · exact hM'.at0 ad (by rw [ha]; exact e)
      · exact hM'.room g' (by rw [ha]; exact e)
      · simp only [Option.some.injEq, Addr.mk.injEq, and_true] at e
        subst e
        by_cases hj2 : j < sl.n * 2
        · exact hM'.vis g ha j hj2
        · obtain ⟨q, rfl⟩ : ∃ q, j = sl.n * 2 + q := ⟨j - sl.n * 2, by omega⟩
          have hq : q < (mks m k).length := by rw [mks_len]; simp at hj; omega
          rw [World.cell?_setCells_in g (mks m k) (sl.n * 2) w (fun j hj => hw j (by rw [mks_len] at hj; exact hj)) q hq, mcell_even]
          have := mks_at (m := m) (k := k) (j := q) (by rw [mks_len] at hq; exact hq)
          rw [List.getElem?_eq_getElem hq] at this
          exact this
      · exact tape_cells _ _ _ _
      · rw [size_cells]; exact Nat.le_refl _
    · intro hg v' w' k1 k2
      obtain ⟨sl', col', rfl, e2, h3, h4⟩ := hnew v' w' k1 k2
      exact h sl' w' col' e2 h3 h4
end Go.Proofs.YtdckpecalglnoaaDoor
