/-
  Lists of pages that are marked by their rights and grown: what each slice shows, whichever of them share a block; no program in it but its types.
-/
import Derived.Test.YtbekdbgnpcbklaaDoorCpBase
import Derived.Deep.Upon
import Derived.Deep.MidRow
namespace Go.Proofs.YtbekdbgnpcbklaaDoor
open Go.RowKit
set_option linter.unusedVariables false
set_option linter.unusedSimpArgs false

theorem size_cells (b : Nat) : ∀ (vs : List Value) (o : Nat) (w : World), (w.setCells b o vs).heap.size = w.heap.size
  | [], _, _ => rfl
  | v :: vs, o, w => by rw [World.setCells, size_cells b vs]; simp [World.setCell]
theorem tape_cells (b : Nat) : ∀ (vs : List Value) (o : Nat) (w : World), (w.setCells b o vs).tape = w.tape
  | [], _, _ => rfl
  | v :: vs, o, w => by rw [World.setCells, tape_cells b vs]; rfl
/-- A slice. -/
structure Sl where
  a : Option Addr
  n : Nat
  c : Nat
def Sl.v (s : Sl) : Value := .slice s.a s.n s.c
/-- The cells of k pages with rights m. -/
structure MkR (m : Int) (k : Nat) (ns : List Value) : Prop where
  len : ns.length = k * 66
  at0 : ∀ i, i < k → ns[i * 66]? = some (.int .i64 m)
theorem MkR.app {m : Int} {k k' : Nat} {ns ns' : List Value} (h : MkR m k ns) (h' : MkR m k' ns') : MkR m (k + k') (ns ++ ns') := by
  refine ⟨by rw [List.length_append, h.len, h'.len]; omega, fun i hi => ?_⟩
  by_cases hk : i < k
  · rw [List.getElem?_append_left (by rw [h.len]; omega)]
    exact h.at0 i hk
  · rw [List.getElem?_append_right (by rw [h.len]; omega), h.len, show i * 66 - k * 66 = (i - k) * 66 by omega]
    exact h'.at0 (i - k) (by omega)
/-- A slice of whose block the colour is m shows pages with rights m. -/
structure Mk (w : World) (col : Nat → Int) (s : Sl) (m : Int) : Prop where
  fit : s.n ≤ s.c
  null : s.a = none → s.n = 0 ∧ s.c = 0
  at0 : ∀ ad, s.a = some ad → ad.off = 0 ∧ ad.spot = none ∧ col ad.block = m ∧ ad.block < w.heap.size
  room : ∀ g, s.a = some ⟨g, 0, none⟩ → ∀ j, j < s.c * 66 → (w.cell? ⟨g, j, none⟩).isSome = true ∧ w.frozen? ⟨g, j, none⟩ = false
  vis : ∀ g, s.a = some ⟨g, 0, none⟩ → ∀ i, i < s.n → w.cell? ⟨g, i * 66, none⟩ = some (.int .i64 m)
theorem Mk.below {w w' : World} {col col' : Nat → Int} {s : Sl} {m : Int} (h : Mk w col s m) (hb : Below w.heap.size w w') (hc : ∀ g, g < w.heap.size → col' g = col g) : Mk w' col' s m := by
  have hlt : ∀ g, s.a = some ⟨g, 0, none⟩ → g < w.heap.size := fun g hg => (h.at0 _ hg).2.2.2
  refine ⟨h.fit, h.null, fun ad ha => ?_, fun g hg j hj => ?_, fun g hg i hi => ?_⟩
  · obtain ⟨h1, h2, h3, h4⟩ := h.at0 ad ha
    exact ⟨h1, h2, by rw [hc _ h4]; exact h3, Nat.lt_of_lt_of_le h4 hb.size⟩
  · rw [hb.cell (p := ⟨g, j, none⟩) (hlt g hg), hb.frozen (p := ⟨g, j, none⟩) (hlt g hg)]
    exact h.room g hg j hj
  · rw [hb.cell (p := ⟨g, i * 66, none⟩) (hlt g hg)]
    exact h.vis g hg i hi
/-- Pages with rights m are written into a block of that colour. -/
theorem Mk.write {w : World} {col : Nat → Int} {s : Sl} {m m' : Int} (h : Mk w col s m') {b n k : Nat} {ns : List Value} (hR : MkR m k ns) (hb : col b = m) (hw : ∀ j, j < k * 66 → (w.cell? ⟨b, n * 66 + j, none⟩).isSome = true) : Mk (w.setCells b (n * 66) ns) col s m' := by
  have hsz : w.heap.size ≤ (w.setCells b (n * 66) ns).heap.size := by rw [size_cells]; exact Nat.le_refl _
  refine ⟨h.fit, h.null, fun ad ha => ?_, fun g hg j hj => ?_, fun g hg i hi => ?_⟩
  · obtain ⟨h1, h2, h3, h4⟩ := h.at0 ad ha
    exact ⟨h1, h2, h3, Nat.lt_of_lt_of_le h4 hsz⟩
  · rw [World.frozen?_setCells]
    exact ⟨World.isSome_setCells b _ _ w _ (h.room g hg j hj).1, (h.room g hg j hj).2⟩
  · by_cases hin : g = b ∧ n ≤ i ∧ i < n + k
    · obtain ⟨rfl, h1, h2⟩ := hin
      have hm : m' = m := by rw [← hb]; exact (h.at0 _ hg).2.2.1.symm
      obtain ⟨q, rfl⟩ : ∃ q, i = n + q := ⟨i - n, by omega⟩
      have hq : q * 66 < ns.length := by rw [hR.len]; omega
      rw [Nat.add_mul, World.cell?_setCells_in g ns (n * 66) w (fun j hj => hw j (by rw [hR.len] at hj; exact hj)) (q * 66) hq, hm]
      have := hR.at0 q (by omega)
      rw [List.getElem?_eq_getElem hq] at this
      exact this
    · rw [World.cell?_setCells_out b ns (n * 66) w ⟨g, i * 66, none⟩ (fun e _ => by rw [hR.len]; show i * 66 < n * 66 ∨ n * 66 + k * 66 ≤ i * 66; have e' : g = b := e; omega)]
      exact h.vis g hg i hi
/-- What an append of marks does to the world. -/
structure Gr (w w' : World) (col col' : Nat → Int) (m : Int) : Prop where
  os : w'.os = w.os
  tape : w'.tape = w.tape
  output : w'.output = w.output
  size : w.heap.size ≤ w'.heap.size
  cols : ∀ g, g < w.heap.size → col' g = col g
  zero : ∀ g, w'.heap.size ≤ g → col' g = 0
  other : ∀ g, g < w.heap.size → col g ≠ m → w'.heap[g]? = w.heap[g]?
  keep : ∀ s m', Mk w col s m' → Mk w' col' s m'
theorem Gr.below {w w' : World} {col col' : Nat → Int} {m : Int} (h : Gr w w' col col' m) {B : Nat} (hB : B ≤ w.heap.size) (hc : ∀ g, g < B → col g ≠ m) : Below B w w' :=
  ⟨h.os, h.tape, h.output, h.size, fun g hg => h.other g (by omega) (hc g hg)⟩
/-- A row of one's own that shows marks. -/
theorem mk_own {w : World} {base : Nat} {col : Nat → Int} {v : Value} {m : Int} {n : Nat} {xs : List Value} (h : w.ownsRow base 59 66 v n xs) (hR : MkR m n xs) (hc : ∀ g, v.ownBlock = some g → col g = m) : ∃ s : Sl, v = s.v ∧ s.n = n ∧ Mk w col s m := by
  rcases h.2 with ⟨e, h0⟩ | ⟨g, cap, cur, e, hg, hh, hnc, hcm, hcs, htake⟩
  · exact ⟨⟨none, 0, 0⟩, e, h0.symm, ⟨Nat.le_refl _, fun _ => ⟨rfl, rfl⟩, fun ad ha => by simp at ha, fun g hg => by simp at hg, fun g hg => by simp at hg⟩⟩
  · refine ⟨⟨some ⟨g, 0, none⟩, n, cap⟩, e, rfl, ⟨hnc, fun e => by simp at e, fun ad ha => ?_, fun g' hg' j hj => ?_, fun g' hg' i hi => ?_⟩⟩
    · simp only [Option.some.injEq] at ha
      subst ha
      exact ⟨rfl, rfl, hc g (by rw [e]; rfl), (Array.getElem?_eq_some_iff.1 hh).1⟩
    · simp only [Option.some.injEq, Addr.mk.injEq, and_true] at hg'
      subst hg'
      subst e
      refine ⟨?_, World.ownsRow.frozenAt h _⟩
      rw [cell_of_row w g j cur _ _ hh]
      have : j < cur.size := by rw [hcs]; exact hj
      simp [this]
    · simp only [Option.some.injEq, Addr.mk.injEq, and_true] at hg'
      subst hg'
      subst e
      have hi' : i < n := hi
      rw [World.ownsRow.cellAt h (i * 66) (by omega)]
      exact hR.at0 i hi'

theorem Mk.far {w : World} {col : Nat → Int} {s : Sl} {m : Int} (h : Mk w col s m) {b o : Nat} {u : Value} (hb : col b ≠ m) : Mk (w.setCell ⟨b, o, none⟩ u) col s m := by
  have hne : ∀ g, s.a = some ⟨g, 0, none⟩ → g ≠ b := fun g hg e => hb (by rw [← e]; exact (h.at0 _ hg).2.2.1)
  refine ⟨h.fit, h.null, fun ad ha => ?_, fun g hg j hj => ?_, fun g hg i hi => ?_⟩
  · obtain ⟨h1, h2, h3, h4⟩ := h.at0 ad ha
    exact ⟨h1, h2, h3, by simp [World.setCell]; exact h4⟩
  · rw [World.cell?_setCell_other _ _ _ _ (by simp; intro e; exact absurd e.symm (hne g hg)), World.frozen?_setCell]
    exact h.room g hg j hj
  · rw [World.cell?_setCell_other _ _ _ _ (by simp; intro e; exact absurd e.symm (hne g hg))]
    exact h.vis g hg i hi
theorem Mk.grown {w w' : World} {col : Nat → Int} {s : Sl} {m : Int} {row : Option Nat} (h : Mk w col s m) (hg : w.grownBy w' row) (hr : ∀ g, row = some g → col g ≠ m) : Mk w' col s m := by
  have hbk : ∀ g, s.a = some ⟨g, 0, none⟩ → w'.heap[g]? = w.heap[g]? := fun g hs => hg.block g (h.at0 _ hs).2.2.2 (fun e => hr g e.symm (h.at0 _ hs).2.2.1)
  refine ⟨h.fit, h.null, fun ad ha => ?_, fun g hg' j hj => ?_, fun g hg' i hi => ?_⟩
  · obtain ⟨h1, h2, h3, h4⟩ := h.at0 ad ha
    exact ⟨h1, h2, h3, Nat.lt_of_lt_of_le h4 hg.size⟩
  · rw [World.cell?_of_block (a := ⟨g, j, none⟩) (hbk g hg'), World.frozen?_of_block (a := ⟨g, j, none⟩) (hbk g hg')]
    exact h.room g hg' j hj
  · rw [World.cell?_of_block (a := ⟨g, i * 66, none⟩) (hbk g hg')]
    exact h.vis g hg' i hi

theorem cells_ex {w : World} {g k : Nat} (h : ∀ j, j < k → (w.cell? ⟨g, j, none⟩).isSome = true) : ∃ xs : List Value, xs.length = k ∧ ∀ j u, xs[j]? = some u → w.cell? ⟨g, j, none⟩ = some u := by
  refine ⟨(List.range k).map fun j => (w.cell? ⟨g, j, none⟩).getD undef, by simp, fun j u hu => ?_⟩
  have hj : j < k := by have := (List.getElem?_eq_some_iff.1 hu).1; simpa using this
  rw [List.getElem?_map, List.getElem?_range hj, Option.map_some] at hu
  obtain ⟨v, hv⟩ := Option.isSome_iff_exists.1 (h j hj)
  rw [hv] at hu ⊢
  exact hu
/-- append of marked pages to a slice that shows such. -/
theorem append_mark {w : World} {ops : Array Oper} {rest : List Oper} {o : Oper} {act : Act} {Q : Exit → Act → World → Prop} (hgd : o.guard = none) (s x : Operand)
    (ho : o.op = .call { callee := .builtin .append, args := #[s, x], argTypes := #[22, 22] })
    (col : Nat → Int) (hzero : ∀ g, w.heap.size ≤ g → col g = 0) (sl : Sl) (m : Int) (hs : act.eval s = sl.v) (hM : Mk w col sl m)
    (gx cx k : Nat) (ns : List Value) (hx : act.eval x = .slice (some ⟨gx, 0, none⟩) k cx) (hR : MkR m k ns) (hc : ∀ j u, ns[j]? = some u → w.cell? ⟨gx, j, none⟩ = some u) (hone : ∀ u ∈ ns, u.oneCell' = true) (hk : 0 < k) (hb : sl.n + k ≤ 2000000)
    (h : ∀ sl' w' col', sl'.n = sl.n + k → Mk w' col' sl' m → Gr w w' col col' m → wpList Tryd.prog ops Q rest (act.put o.dst sl'.v) w') : wpList Tryd.prog ops Q (o :: rest) act w := by
  obtain ⟨i, z, hi, hz, hsz, hby, hzs⟩ := infoPage
  have hnews : ∀ j u, ns[j]? = some u → w.cell? ((⟨gx, 0, none⟩ : Addr).add j) = some u := fun j u hu => by
    rw [add_lit2, Nat.zero_add]
    exact hc j u hu
  have hnew : ∀ v' w' xs, MkR m sl.n xs → w'.ownsRow w.heap.size 59 66 v' (sl.n + k) (xs ++ ns) → w.grownBy w' none → ∃ sl' col', v' = sl'.v ∧ sl'.n = sl.n + k ∧ Mk w' col' sl' m ∧ Gr w w' col col' m := fun v' w' xs hxs h1 h2 => by
    have hbl : Below w.heap.size w w' := (Below.refl _ _).grown h2 (Nat.le_refl _) (fun k hk => by simp at hk)
    obtain ⟨sl', e1, e2, h3⟩ := mk_own (col := fun g => if g < w.heap.size then col g else if g < w'.heap.size then m else 0) h1 (hxs.app hR) (fun g hg => by
      have := (World.ownsRow.lt h1 g hg)
      show (if g < w.heap.size then col g else if g < w'.heap.size then m else 0) = m
      rw [if_neg (by omega), if_pos this.2])
    exact ⟨sl', _, e1, e2, h3, ⟨h2.os, h2.tape, h2.output, h2.size, fun g hg => if_pos hg, fun g hg => by have := h2.size; show (if g < w.heap.size then col g else if g < w'.heap.size then m else 0) = 0; rw [if_neg (by omega), if_neg (by omega)], fun g hg _ => hbl.block g hg, fun s m' hs => hs.below hbl (fun g hg => if_pos hg)⟩⟩
  cases ha : sl.a with
  | none =>
    obtain ⟨h1, h2⟩ := hM.null ha
    have hs' : act.eval s = .slice none 0 0 := by rw [hs]; unfold Sl.v; rw [ha, h1, h2]
    refine wpList_append_grows w hgd s x 22 ho 59 i z 66 80 Tryd.underlying22 hi hz hsz hby hzs (by decide) none 0 0 [] hs' (fun _ => ⟨rfl, rfl⟩) rfl (fun b e => by simp at e) ⟨gx, 0, none⟩ k cx ns hx hR.len hnews hone (by omega) (by unfold maxLen; omega) (by omega) ?_
    intro v' w' k1 k2
    obtain ⟨sl', col', rfl, e2, h3, h4⟩ := hnew v' w' [] ⟨by rw [h1]; rfl, fun i hi => by omega⟩ (by rw [h1]; exact k1) k2
    exact h sl' w' col' e2 h3 h4
  | some ad =>
    obtain ⟨g, off, sp⟩ := ad
    obtain ⟨h1, h2, h3, h4⟩ := hM.at0 _ ha
    simp only at h1 h2 h3 h4
    subst h1 h2
    have hs' : act.eval s = .slice (some ⟨g, 0, none⟩) sl.n sl.c := by rw [hs]; unfold Sl.v; rw [ha]
    have hfit := hM.fit
    obtain ⟨xs, hxl, hxc⟩ := cells_ex (w := w) (g := g) (k := sl.n * 66) (fun j hj => (hM.room g ha j (by omega)).1)
    have hxs : MkR m sl.n xs := ⟨hxl, fun i hi => by
      have hi' : i * 66 < xs.length := by omega
      have h5 := hxc (i * 66) _ (List.getElem?_eq_getElem hi')
      rw [hM.vis g ha i hi] at h5
      rw [List.getElem?_eq_getElem hi', ← h5]⟩
    refine wpList_append_arg w hgd s x 22 ho 59 i z 66 80 Tryd.underlying22 hi hz hsz hby hzs (by decide) g 0 sl.n sl.c xs hs' hxl (fun j u hu => by
      rw [Nat.zero_add]
      exact hxc j u hu) ⟨gx, 0, none⟩ k cx ns hx hR.len hnews hone (fun hr j hj => by
        rw [hR.len] at hj
        rw [Nat.zero_add]
        exact hM.room g ha (sl.n * 66 + j) (by omega)) (by unfold maxLen; omega) (by omega) ?_ ?_
    · intro hr
      rw [Nat.zero_add]
      have hw : ∀ j, j < k * 66 → (w.cell? ⟨g, sl.n * 66 + j, none⟩).isSome = true := fun j hj => (hM.room g ha (sl.n * 66 + j) (by omega)).1
      have hM' := hM.write (b := g) (n := sl.n) (k := k) hR h3 hw
      refine h ⟨some ⟨g, 0, none⟩, sl.n + k, sl.c⟩ _ col rfl ⟨hr, fun e => by simp at e, fun ad e => ?_, fun g' e => ?_, fun g' e i hi => ?_⟩ ⟨World.os_setCells _ _ _ _, ?_, World.output_setCells _ _ _ _, ?_, fun _ _ => rfl, fun g' hg' => hzero g' (by rw [size_cells] at hg'; exact hg'), fun g' hg' hne => World.heap_setCells_other w g _ _ hg' (fun e => hne (by rw [e]; exact h3)), fun s m' hs => hs.write hR h3 hw⟩
      · exact hM'.at0 ad (by rw [ha]; exact e)
      · exact hM'.room g' (by rw [ha]; exact e)
      · simp only [Option.some.injEq, Addr.mk.injEq, and_true] at e
        subst e
        by_cases hi2 : i < sl.n
        · exact hM'.vis g ha i hi2
        · obtain ⟨q, rfl⟩ : ∃ q, i = sl.n + q := ⟨i - sl.n, by omega⟩
          have hq0 : q < k := by simp at hi; omega
          have hq : q * 66 < ns.length := by rw [hR.len]; omega
          rw [Nat.add_mul, World.cell?_setCells_in g ns (sl.n * 66) w (fun j hj => hw j (by rw [hR.len] at hj; exact hj)) (q * 66) hq]
          have := hR.at0 q hq0
          rw [List.getElem?_eq_getElem hq] at this
          exact this
      · exact tape_cells _ _ _ _
      · rw [size_cells]; exact Nat.le_refl _
    · intro hg v' w' k1 k2
      obtain ⟨sl', col', rfl, e2, h3, h4⟩ := hnew v' w' xs hxs k1 k2
      exact h sl' w' col' e2 h3 h4
end Go.Proofs.YtbekdbgnpcbklaaDoor
