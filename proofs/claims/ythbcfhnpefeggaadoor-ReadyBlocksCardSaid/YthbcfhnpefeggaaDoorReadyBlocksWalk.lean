/-
  Walk of the law ReadyBlocks (under way).
-/
import Derived.Test.YthbcfhnpefeggaaDoorRbBlock
import Derived.Test.YthbcfhnpefeggaaDoorRbWake
import Derived.Test.YthbcfhnpefeggaaDoorTmSet
import Derived.Test.YthbcfhnpefeggaaDoorRyWait
import Derived.Test.YthbcfhnpefeggaaDoorRyEq
import Derived.Test.YthbcfhnpefeggaaDoorRyLaw
import Derived.Deep.Cut
import Derived.Deep.RegionHeld3
namespace Go.Proofs.YthbcfhnpefeggaaDoor
open Classical
open Go.RowKit
set_option linter.unusedVariables false
set_option linter.unusedSimpArgs false

/-- What Block answers. -/
def Rb3 (E : Nat → Addr) (l : List Pro) (r : List Int) (t : List Tm) (p wt ob d : Int) (w : World) (base : Nat) (v1 v2 v3 : Value) (n1 : Nat) (v : Value) : Prop :=
  ((∃ i, v = sent (E i)) ∧ n1 = 0) ∨ (v = .nilIface ∧ ∃ (k : Nat) (q : Pro), p = (k : Int) ∧ l[k]? = some q ∧ q.state = 1 ∧ Good l r t ∧ Rb.WaitOk wt ob d ∧ (d = -1 ∨ (0 ≤ d ∧ d ≤ 1010000)) ∧ Tab w base v1 v2 v3 (l.set k (Rb.blockP q wt ob)) (outOf r p) (Rb.blkT t p d))
theorem Rb3.mono {E : Nat → Addr} {l : List Pro} {r : List Int} {t : List Tm} {p wt ob d : Int} {w w' : World} {base base' : Nat} {v1 v2 v3 : Value} {n1 : Nat} {v : Value} (h : Rb3 E l r t p wt ob d w base v1 v2 v3 n1 v) (hf : ∀ {a : List Pro} {b : List Int} {c : List Tm}, Tab w base v1 v2 v3 a b c → Tab w' base' v1 v2 v3 a b c) : Rb3 E l r t p wt ob d w' base' v1 v2 v3 n1 v := by
  rcases h with h | ⟨h1, k, q, h2, h3, h4, h5, h6, h7, h8⟩
  · exact .inl h
  · exact .inr ⟨h1, k, q, h2, h3, h4, h5, h6, h7, hf h8⟩
theorem tab_far3 {w : World} {base g : Nat} {v1 v2 v3 : Value} {l : List Pro} {r : List Int} {t : List Tm} (h : Tab w base v1 v2 v3 l r t) (h1 : ∀ j, v1.ownBlock = some j → j ≠ g) (h2 : ∀ j, v2.ownBlock = some j → j ≠ g) (h3 : ∀ j, v3.ownBlock = some j → j ≠ g) (x y z : Value) : Tab (((w.setCell ⟨g, 0, none⟩ x).setCell ⟨g, 1, none⟩ y).setCell ⟨g, 2, none⟩ z) base v1 v2 v3 l r t := by
  have far : ∀ {e : TypeId} {sz n : Nat} {v : Value} {cs : List Value}, w.ownsRow base e sz v n cs → (∀ j, v.ownBlock = some j → j ≠ g) → (((w.setCell ⟨g, 0, none⟩ x).setCell ⟨g, 1, none⟩ y).setCell ⟨g, 2, none⟩ z).ownsRow base e sz v n cs := fun ho hn =>
    ownsRow_far (ownsRow_far (ownsRow_far ho (p := ⟨g, 0, none⟩) (fun e => hn _ e rfl) x) (p := ⟨g, 1, none⟩) (fun e => hn _ e rfl) y) (p := ⟨g, 2, none⟩) (fun e => hn _ e rfl) z
  exact ⟨far h.p h1, far h.r h2, far h.t h3, h.s12, h.s13, h.s23⟩

theorem from_any (w : World) (v1 v2 v3 : Value) (h1 : ∃ a n c, v1 = .slice a n c) (h2 : ∃ a n c, v2 = .slice a n c) (h3 : ∃ a n c, v3 = .slice a n c) :
    Calls Tryd.prog 11 #[.agg #[v1, v2, v3]] w fun e w' => e = .returned (.agg #[v1, v2, v3]) ∧ Below w.heap.size w w' := by
  obtain ⟨a1, n1, c1, rfl⟩ := h1
  obtain ⟨a2, n2, c2, rfl⟩ := h2
  obtain ⟨a3, n3, c3, rfl⟩ := h3
  go_enter Tryd.func11, Tryd.ntmps11
  go_wp2
  refine bodyPost_ret (v := .agg #[.slice a1 n1 c1, .slice a2 n2 c2, .slice a3 n3 c3]) (by simp [results, Tryd.results11, go_sem]) rfl ?_
  exact ⟨rfl, chain (new_below _ _) (new_below _ _)⟩
theorem tab_lists {w : World} {base : Nat} {a1 : Option Addr} {n1 c1 : Nat} {a2 : Option Addr} {n2 c2 : Nat} {a3 : Option Addr} {n3 c3 : Nat} {l : List Pro} {r : List Int} {t : List Tm} (h : Tab w base (.slice a1 n1 c1) (.slice a2 n2 c2) (.slice a3 n3 c3) l r t) : Pros w a1 n1 c1 l ∧ Is w a2 n2 c2 r ∧ Tms w a3 n3 c3 t := by
  obtain ⟨a, c, e, h1⟩ := prown_pros h.p
  obtain ⟨a', c', e', h2⟩ := iown_is h.r
  obtain ⟨a'', c'', e'', h3⟩ := town_tms h.t
  simp only [Value.slice.injEq] at e e' e''
  obtain ⟨rfl, rfl, rfl⟩ := e
  obtain ⟨rfl, rfl, rfl⟩ := e'
  obtain ⟨rfl, rfl, rfl⟩ := e''
  exact ⟨h1, h2, h3⟩
/-- Who has blocked waits for the thing. -/
theorem waits_mem {l : List Pro} {k : Nat} (hk : k < l.length) (q : Pro) (wt ob : Int) : (k : Int) ∈ waitsOf (l.set k (Rb.blockP q wt ob)) wt ob := by
  unfold waitsOf waitsK
  rw [List.take_length]
  refine List.mem_map.2 ⟨(Rb.blockP q wt ob, k), List.mem_filter.2 ⟨?_, ?_⟩, rfl⟩
  · rw [List.mem_zipIdx_iff_getElem?]
    simp [hk]
  · simp [isW, Rb.blockP]
/-- Blocked and woken: as it was, with r1. -/
theorem woken_back {l : List Pro} {r : List Int} {t : List Tm} (h : Good l r t) {k : Nat} {q : Pro} (hk : l[k]? = some q) (hs : q.state = 1) (wt ob x : Int) : (l.set k (Rb.blockP q wt ob)).set k (wokenP (Rb.blockP q wt ob) x) = l.set k { q with r1 := x } := by
  rw [List.set_set]
  congr 1
  have hin := h.2.1 q (List.mem_of_getElem? hk)
  obtain ⟨-, -, -, -, hw⟩ := hin
  rcases hw with ⟨-, h1, h2⟩ | ⟨h1, -⟩
  · cases q
    simp only [wokenP, Rb.blockP, Pro.mk.injEq] at *
    simp_all
  · omega
theorem held5 {W wz : World} {b g : Nat} {x y z u v t : Value} (hb : Bl W b [x, y, z]) (hl : b < W.heap.size) (hg : Bl W g [u, v, t]) (hl' : g < W.heap.size) (h : Below W.heap.size W wz) : wz.cell? ⟨b, 0, none⟩ = some x ∧ wz.cell? ⟨b, 1, none⟩ = some y ∧ wz.cell? ⟨b, 2, none⟩ = some z ∧ wz.cell? ⟨g, 1, none⟩ = some v ∧ wz.cell? ⟨g, 2, none⟩ = some t :=
  ⟨(hb.below hl h).cell 0 _ rfl, (hb.below hl h).cell 1 _ rfl, (hb.below hl h).cell 2 _ rfl, (hg.below hl' h).cell 1 _ rfl, (hg.below hl' h).cell 2 _ rfl⟩
/-- One cell of a process of one's own is another. -/
theorem prown_put {w : World} {base : Nat} {v : Value} {l : List Pro} (h : PrOwn w base v l) {k : Nat} {q : Pro} (hk : l[k]? = some q) : ∃ g c, v = .slice (some ⟨g, 0, none⟩) l.length c ∧ base ≤ g ∧ g < w.heap.size ∧ (∀ (j : Nat) (u : Value), q.cells[j]? = some u → w.cell? ⟨g, k * 21 + j, none⟩ = some u) ∧ (∀ j, w.frozen? ⟨g, j, none⟩ = false) ∧ ∀ (j : Nat) (q' : Pro) (u : Value), j < 21 → q'.cells = q.cells.set j u → PrOwn (w.setCell ⟨g, k * 21 + j, none⟩ u) base v (l.set k q') := by
  have hl := (List.getElem?_eq_some_iff.1 hk).1
  obtain ⟨a, c, rfl, hps⟩ := prown_pros h
  obtain ⟨b, off, rfl, hrow⟩ := hps.at pro21 (by decide) hk
  have hlt := h.lt b rfl
  rcases h.2 with ⟨e1, -⟩ | ⟨g, cap, cur, e, rest⟩
  · simp [Value.slice.injEq] at e1
  simp only [Value.slice.injEq, Option.some.injEq, Addr.mk.injEq, and_true, true_and] at e
  obtain ⟨⟨rfl, rfl⟩, rfl⟩ := e
  refine ⟨b, c, rfl, hlt.1, hlt.2, fun j u hu => by have := hrow j u hu; simpa using this, fun j => World.ownsRow.frozenAt h j, fun j q' u hj hq => ?_⟩
  have := (World.ownsRow.stored h (k * 21 + j) u).1
  rw [fl_upd pro21 hk hj hq] at this
  unfold PrOwn
  rw [List.length_set]
  exact this

set_option maxRecDepth 100000 in
set_option maxHeartbeats 3000000 in
theorem blocks_law {E : Nat → Addr} (pa : Option Addr) (pn pc : Nat) (l : List Pro) (ra : Option Addr) (rn rc : Nat) (r : List Int) (ta : Option Addr) (tn tc : Nat) (t : List Tm) (p wt ob du pr st nw x : Int) (w : World) (he : Er9 w E) (hp : Pros w pa pn pc l) (hr : Is w ra rn rc r) (ht : Tms w ta tn tc t) (hmp : pn ≤ 9223372036854775807) (hmr : rn ≤ 9223372036854775807) (hmt : tn ≤ 9223372036854775807) :
    Calls Tryd.prog 3 #[.agg #[.slice pa pn pc, .slice ra rn rc, .slice ta tn tc, .int .i64 p, .int .i64 wt, .int .i64 ob, .int .i64 du, .int .i64 pr, .int .i64 st, .int .i64 nw, .int .u32 x]] w fun e w' => e = .returned (.bool true) ∧ Below w.heap.size w w' := by
  have HE := hide he
  have HP := hide hp
  have HR := hide hr
  have HT := hide ht
  have NB0 := hide (bl_alloc w #[.slice pa pn pc, .slice ra rn rc, .slice ta tn tc, .int .i64 p, .int .i64 wt, .int .i64 ob, .int .i64 du, .int .i64 pr, .int .i64 st, .int .i64 nw, .int .u32 x] 29)
  have B0 := hide (new_below w (.cells #[.slice pa pn pc, .slice ra rn rc, .slice ta tn tc, .int .i64 p, .int .i64 wt, .int .i64 ob, .int .i64 du, .int .i64 pr, .int .i64 st, .int .i64 nw, .int .u32 x] 29))
  have hz : (w.alloc (.cells #[.slice pa pn pc, .slice ra rn rc, .slice ta tn tc, .int .i64 p, .int .i64 wt, .int .i64 ob, .int .i64 du, .int .i64 pr, .int .i64 st, .int .i64 nw, .int .u32 x] 29)).heap.size = w.heap.size + 1 := by simp
  have Z0 := hide hz
  clear he hp hr ht hz
  go_enter Tryd.func3, Tryd.ntmps3
  go_upto_region 1 with fail
  generalize w.alloc (.cells #[.slice pa pn pc, .slice ra rn rc, .slice ta tn tc, .int .i64 p, .int .i64 wt, .int .i64 ob, .int .i64 du, .int .i64 pr, .int .i64 st, .int .i64 nw, .int .u32 x] 29) = W0 at *
  go_wp2_with fail
  refine Calls.mono (awake_any (HE.out.below B0.out)) ?_
  rintro e w1 ⟨rfl, b1⟩
  have NB1 := hide (NB0.out.below (by rw [Z0.out]; omega) b1)
  have B1 := hide (chain B0.out b1)
  have HL1 : Hid (w.heap.size < w1.heap.size) := by have := b1.size; rw [Z0.out] at this; exact this
  have HE1 := hide (HE.out.below B1.out)
  clear b1 NB0 B0 Z0 HE
  go_upto_region 3 with fail
  go_cut [3, 4] from 18 (fun v3 v4 wx => ∃ gt a1 n1 c1 a2 n2 c2 a3 n3 c3, v3 = .pointer (some ⟨gt, 0, none⟩) ∧ Bl wx gt [.slice a1 n1 c1, .slice a2 n2 c2, .slice a3 n3 c3] ∧ Rb3 E l r t p wt ob du wx w1.heap.size (.slice a1 n1 c1) (.slice a2 n2 c2) (.slice a3 n3 c3) n1 v4 ∧ Below w1.heap.size w1 wx ∧ w1.heap.size ≤ gt ∧ gt < wx.heap.size)
  case first =>
    have C0 : Hid (Below w1.heap.size w1 w1.drew) := (Below.refl _ _).drew
    have H3 : Hid (∀ wz, Below w1.heap.size w1 wz → (fun wz => wz.cell? ⟨w.heap.size, 0, none⟩ = some (.slice pa pn pc) ∧ wz.cell? ⟨w.heap.size, 1, none⟩ = some (.slice ra rn rc) ∧ wz.cell? ⟨w.heap.size, 2, none⟩ = some (.slice ta tn tc) ∧ wz.cell? ⟨w.heap.size, 3, none⟩ = some (.int .i64 p) ∧ wz.cell? ⟨w.heap.size, 4, none⟩ = some (.int .i64 wt) ∧ wz.cell? ⟨w.heap.size, 5, none⟩ = some (.int .i64 ob) ∧ wz.cell? ⟨w.heap.size, 6, none⟩ = some (.int .i64 du)) wz) := fun wz hz => by
      have h1 := NB1.out.below HL1.out hz
      exact ⟨h1.cell 0 _ rfl, h1.cell 1 _ rfl, h1.cell 2 _ rfl, h1.cell 3 _ rfl, h1.cell 4 _ rfl, h1.cell 5 _ rfl, h1.cell 6 _ rfl⟩
    refine wp_region_held_drew (S := fun wz => wz.cell? ⟨w.heap.size, 0, none⟩ = some (.slice pa pn pc) ∧ wz.cell? ⟨w.heap.size, 1, none⟩ = some (.slice ra rn rc) ∧ wz.cell? ⟨w.heap.size, 2, none⟩ = some (.slice ta tn tc) ∧ wz.cell? ⟨w.heap.size, 3, none⟩ = some (.int .i64 p) ∧ wz.cell? ⟨w.heap.size, 4, none⟩ = some (.int .i64 wt) ∧ wz.cell? ⟨w.heap.size, 5, none⟩ = some (.int .i64 ob) ∧ wz.cell? ⟨w.heap.size, 6, none⟩ = some (.int .i64 du)) (by kernel_rfl) (H3.out _ C0.out) (fun hHeld => ?_)
    generalize w1.drew = Y0 at *
    refine wpAnyH_take (i := 0) (oi := { dst := some 19, op := Go.Op.fieldAddr 29 (Go.Operand.tmp 1) 0, type := 0, pos := "outright.go:149", after := #[], guard := none }) (v := ?_) rfl (by kernel_rfl) (by kernel_rfl) (by kernel_rfl) (fun _ _ _ h => h) (Or.inl ⟨by rfl, ?_⟩) (by assumption) ?_
    rotate_left
    · intro wq hSw
      try dsimp only at hSw
      go_split_ands
      go_simp
      try with_reducible rfl
    try simp only [Act.put, List.setIfInBounds_toArray, List.set_cons_zero, List.set_cons_succ]
    refine wpAnyH_take (i := 1) (oi := { dst := some 20, op := Go.Op.load 26 (Go.Operand.tmp 19), type := 26, pos := "outright.go:149", after := #[{ on := 0, ground := Go.Ground.data }], guard := none }) (v := ?_) rfl (by kernel_rfl) (by kernel_rfl) (by kernel_rfl) (fun _ _ _ h => h) (Or.inl ⟨by rfl, ?_⟩) (by assumption) ?_
    rotate_left
    · intro wq hSw
      try dsimp only at hSw
      go_split_ands
      go_simp
      try with_reducible rfl
    try simp only [Act.put, List.setIfInBounds_toArray, List.set_cons_zero, List.set_cons_succ]
    refine wpAnyH_take (i := 3) (oi := { dst := some 22, op := Go.Op.fieldAddr 29 (Go.Operand.tmp 1) 1, type := 0, pos := "outright.go:149", after := #[], guard := none }) (v := ?_) rfl (by kernel_rfl) (by kernel_rfl) (by kernel_rfl) (fun _ _ _ h => h) (Or.inl ⟨by rfl, ?_⟩) (by assumption) ?_
    rotate_left
    · intro wq hSw
      try dsimp only at hSw
      go_split_ands
      go_simp
      try with_reducible rfl
    try simp only [Act.put, List.setIfInBounds_toArray, List.set_cons_zero, List.set_cons_succ]
    refine wpAnyH_take (i := 4) (oi := { dst := some 23, op := Go.Op.load 3 (Go.Operand.tmp 22), type := 3, pos := "outright.go:149", after := #[{ on := 3, ground := Go.Ground.data }], guard := none }) (v := ?_) rfl (by kernel_rfl) (by kernel_rfl) (by kernel_rfl) (fun _ _ _ h => h) (Or.inl ⟨by rfl, ?_⟩) (by assumption) ?_
    rotate_left
    · intro wq hSw
      try dsimp only at hSw
      go_split_ands
      go_simp
      try with_reducible rfl
    try simp only [Act.put, List.setIfInBounds_toArray, List.set_cons_zero, List.set_cons_succ]
    refine wpAnyH_take (i := 5) (oi := { dst := some 24, op := Go.Op.fieldAddr 29 (Go.Operand.tmp 1) 2, type := 0, pos := "outright.go:149", after := #[], guard := none }) (v := ?_) rfl (by kernel_rfl) (by kernel_rfl) (by kernel_rfl) (fun _ _ _ h => h) (Or.inl ⟨by rfl, ?_⟩) (by assumption) ?_
    rotate_left
    · intro wq hSw
      try dsimp only at hSw
      go_split_ands
      go_simp
      try with_reducible rfl
    try simp only [Act.put, List.setIfInBounds_toArray, List.set_cons_zero, List.set_cons_succ]
    refine wpAnyH_take (i := 6) (oi := { dst := some 25, op := Go.Op.load 3 (Go.Operand.tmp 24), type := 3, pos := "outright.go:149", after := #[{ on := 5, ground := Go.Ground.data }], guard := none }) (v := ?_) rfl (by kernel_rfl) (by kernel_rfl) (by kernel_rfl) (fun _ _ _ h => h) (Or.inl ⟨by rfl, ?_⟩) (by assumption) ?_
    rotate_left
    · intro wq hSw
      try dsimp only at hSw
      go_split_ands
      go_simp
      try with_reducible rfl
    try simp only [Act.put, List.setIfInBounds_toArray, List.set_cons_zero, List.set_cons_succ]
    refine wpAnyH_take (i := 7) (oi := { dst := some 26, op := Go.Op.fieldAddr 29 (Go.Operand.tmp 1) 3, type := 0, pos := "outright.go:149", after := #[], guard := none }) (v := ?_) rfl (by kernel_rfl) (by kernel_rfl) (by kernel_rfl) (fun _ _ _ h => h) (Or.inl ⟨by rfl, ?_⟩) (by assumption) ?_
    rotate_left
    · intro wq hSw
      try dsimp only at hSw
      go_split_ands
      go_simp
      try with_reducible rfl
    try simp only [Act.put, List.setIfInBounds_toArray, List.set_cons_zero, List.set_cons_succ]
    refine wpAnyH_take (i := 8) (oi := { dst := some 27, op := Go.Op.load 3 (Go.Operand.tmp 26), type := 3, pos := "outright.go:149", after := #[{ on := 7, ground := Go.Ground.data }], guard := none }) (v := ?_) rfl (by kernel_rfl) (by kernel_rfl) (by kernel_rfl) (fun _ _ _ h => h) (Or.inl ⟨by rfl, ?_⟩) (by assumption) ?_
    rotate_left
    · intro wq hSw
      try dsimp only at hSw
      go_split_ands
      go_simp
      try with_reducible rfl
    try simp only [Act.put, List.setIfInBounds_toArray, List.set_cons_zero, List.set_cons_succ]
    refine wpAnyH_take (i := 9) (oi := { dst := some 28, op := Go.Op.fieldAddr 29 (Go.Operand.tmp 1) 4, type := 0, pos := "outright.go:149", after := #[], guard := none }) (v := ?_) rfl (by kernel_rfl) (by kernel_rfl) (by kernel_rfl) (fun _ _ _ h => h) (Or.inl ⟨by rfl, ?_⟩) (by assumption) ?_
    rotate_left
    · intro wq hSw
      try dsimp only at hSw
      go_split_ands
      go_simp
      try with_reducible rfl
    try simp only [Act.put, List.setIfInBounds_toArray, List.set_cons_zero, List.set_cons_succ]
    refine wpAnyH_take (i := 10) (oi := { dst := some 29, op := Go.Op.load 3 (Go.Operand.tmp 28), type := 3, pos := "outright.go:149", after := #[{ on := 9, ground := Go.Ground.data }], guard := none }) (v := ?_) rfl (by kernel_rfl) (by kernel_rfl) (by kernel_rfl) (fun _ _ _ h => h) (Or.inl ⟨by rfl, ?_⟩) (by assumption) ?_
    rotate_left
    · intro wq hSw
      try dsimp only at hSw
      go_split_ands
      go_simp
      try with_reducible rfl
    try simp only [Act.put, List.setIfInBounds_toArray, List.set_cons_zero, List.set_cons_succ]
    refine wpAnyH_ready (rs := [2, 15]) (by kernel_rfl) (by simp) ?_
    refine AllReadyH.cons (o := { dst := some 21, op := Go.Op.call { callee := Go.Callee.value (Go.Operand.func 6), args := #[Go.Operand.tmp 20], argTypes := #[26] }, type := 31, pos := "outright.go:149", after := #[{ on := 1, ground := Go.Ground.data }], guard := none }) rfl (fun K hK => ?_) (AllReadyH.cons (o := { dst := some 3, op := Go.Op.alloc 31, type := 0, pos := "outright.go:149", after := #[], guard := none }) rfl (fun K hK => ?_) AllReadyH.nil)
    · go_simp
      go_at_call 6
      refine (to_any Y0 _ _ _ ⟨_, _, _, rfl⟩ ⟨_, _, _, rfl⟩ ⟨_, _, _, rfl⟩).mono ?_
      rintro e y1 ⟨rfl, bt⟩
      have C1 := hide (chain C0.out bt)
      have BTT := hide bt
      clear bt
      try go_wp2_with fail
      refine hK.out _ _ (H3.out _ C1.out) (fun hHeld2 => ?_)
      clear hK K hHeld
      have hHeld := hHeld2
      clear hHeld2
      try simp only [Act.put, List.setIfInBounds_toArray, List.set_cons_zero, List.set_cons_succ]
      refine wpAnyH_ready (rs := [11, 15]) (by kernel_rfl) (by simp) ?_
      refine AllReadyH.cons (o := { dst := some 30, op := Go.Op.call { callee := Go.Callee.value (Go.Operand.func 5), args := #[Go.Operand.tmp 21, Go.Operand.tmp 23, Go.Operand.tmp 25, Go.Operand.tmp 27, Go.Operand.tmp 29], argTypes := #[31, 3, 3, 3, 3] }, type := 34, pos := "outright.go:149", after := #[{ on := 2, ground := Go.Ground.data }, { on := 4, ground := Go.Ground.data }, { on := 6, ground := Go.Ground.data }, { on := 8, ground := Go.Ground.data }, { on := 10, ground := Go.Ground.data }, { on := 2, ground := Go.Ground.chain }], guard := none }) rfl (fun K hK => ?_) (AllReadyH.cons (o := { dst := some 3, op := Go.Op.alloc 31, type := 0, pos := "outright.go:149", after := #[], guard := none }) rfl (fun K hK => ?_) AllReadyH.nil)
      · go_simp
        go_at_call 5
        refine (block_any (HE1.out.below C1.out) pa pn pc l (HP.out.below (chain B1.out C1.out)) ra rn rc r (HR.out.below (chain B1.out C1.out)) ta tn tc t (HT.out.below (chain B1.out C1.out)) hmp hmr hmt p wt ob du (fun W he a len cap l hs p d hm => tset_any he a len cap l hs p d hm)).mono ?_
        rintro e y2 ⟨a1, n1, c1, a2, n2, c2, a3, n3, c3, v, rfl, hres, bi⟩
        have HRES : Hid (Rb3 E l r t p wt ob du y2 y1.heap.size (.slice a1 n1 c1) (.slice a2 n2 c2) (.slice a3 n3 c3) n1 v) := hres
        have C2 := hide (chain C1.out bi)
        have BI := hide bi
        clear bi hres
        try go_wp2_with fail
        refine hK.out _ _ (H3.out _ C2.out) (fun hHeld2 => ?_)
        clear hK K hHeld
        have hHeld := hHeld2
        clear hHeld2
        try simp only [Act.put, List.setIfInBounds_toArray, List.set_cons_zero, List.set_cons_succ]
        refine wpAnyH_take (i := 12) (oi := { dst := some 18, op := Go.Op.move (Go.Operand.tmp 30), type := 34, pos := "outright.go:149", after := #[{ on := 11, ground := Go.Ground.data }], guard := none }) (v := ?_) rfl (by kernel_rfl) (by kernel_rfl) (by kernel_rfl) (fun _ _ _ h => h) (Or.inl ⟨by rfl, ?_⟩) (by assumption) ?_
        rotate_left
        · intro wq hSw
          try dsimp only at hSw
          go_split_ands
          go_simp
          try with_reducible rfl
        try simp only [Act.put, List.setIfInBounds_toArray, List.set_cons_zero, List.set_cons_succ]
        refine wpAnyH_take (i := 13) (oi := { dst := some 31, op := Go.Op.extract (Go.Operand.tmp 18) 0, type := 31, pos := "outright.go:149", after := #[{ on := 12, ground := Go.Ground.data }], guard := none }) (v := ?_) rfl (by kernel_rfl) (by kernel_rfl) (by kernel_rfl) (fun _ _ _ h => h) (Or.inl ⟨by rfl, ?_⟩) (by assumption) ?_
        rotate_left
        · intro wq hSw
          try dsimp only at hSw
          go_split_ands
          go_simp
          try with_reducible rfl
        try simp only [Act.put, List.setIfInBounds_toArray, List.set_cons_zero, List.set_cons_succ]
        refine wpAnyH_take (i := 14) (oi := { dst := some 32, op := Go.Op.extract (Go.Operand.tmp 18) 1, type := 33, pos := "outright.go:149", after := #[{ on := 12, ground := Go.Ground.data }, { on := 16, ground := Go.Ground.gcOnly Go.Departure.lateStores }], guard := none }) (v := ?_) rfl (by kernel_rfl) (by kernel_rfl) (by kernel_rfl) (fun _ _ _ h => h) (Or.inl ⟨by rfl, ?_⟩) (by assumption) ?_
        rotate_left
        · intro wq hSw
          try dsimp only at hSw
          go_split_ands
          go_simp
          try with_reducible rfl
        try simp only [Act.put, List.setIfInBounds_toArray, List.set_cons_zero, List.set_cons_succ]
        refine wpAnyH_ready (rs := [15]) (by kernel_rfl) (by simp) ?_
        refine AllReadyH.cons (o := { dst := some 3, op := Go.Op.alloc 31, type := 0, pos := "outright.go:149", after := #[], guard := none }) rfl (fun K hK => ?_) AllReadyH.nil
        have NB := hide (bl_alloc y2 #[.slice none 0 0, .slice none 0 0, .slice none 0 0] 31)
        have PBx := hide (new_below y2 (.cells #[.slice none 0 0, .slice none 0 0, .slice none 0 0] 31))
        have ZB : Hid ((y2.alloc (.cells #[.slice none 0 0, .slice none 0 0, .slice none 0 0] 31)).heap.size = y2.heap.size + 1) := by unfold Hid; simp
        have C3 := hide (chain C2.out PBx.out)
        go_simp
        try go_wp2_with fail
        refine hK.out _ _ (H3.out _ C3.out) (fun hHeld2 => ?_)
        clear hK K hHeld
        have hHeld := hHeld2
        clear hHeld2
        try simp only [Act.put, List.setIfInBounds_toArray, List.set_cons_zero, List.set_cons_succ]
        generalize y2.alloc (.cells #[.slice none 0 0, .slice none 0 0, .slice none 0 0] 31) = y3 at *
        refine wpAnyH_ready (rs := [16]) (by kernel_rfl) (by simp) ?_
        refine AllReadyH.cons (o := { dst := none, op := Go.Op.store 31 (Go.Operand.tmp 3) (Go.Operand.tmp 31), type := 0, pos := "outright.go:149", after := #[{ on := 15, ground := Go.Ground.data }, { on := 13, ground := Go.Ground.data }, { on := 11, ground := Go.Ground.chain }, { on := 0, ground := Go.Ground.phase }, { on := 1, ground := Go.Ground.phase }, { on := 2, ground := Go.Ground.phase }, { on := 3, ground := Go.Ground.phase }, { on := 4, ground := Go.Ground.phase }, { on := 5, ground := Go.Ground.phase }, { on := 6, ground := Go.Ground.phase }, { on := 7, ground := Go.Ground.phase }, { on := 8, ground := Go.Ground.phase }, { on := 9, ground := Go.Ground.phase }, { on := 10, ground := Go.Ground.phase }, { on := 11, ground := Go.Ground.phase }, { on := 12, ground := Go.Ground.phase }, { on := 13, ground := Go.Ground.phase }, { on := 14, ground := Go.Ground.textOnly Go.Departure.lateStores }, { on := 15, ground := Go.Ground.phase }], guard := none }) rfl (fun K hK => ?_) AllReadyH.nil
        have NBF := NB.out
        have g0 := NBF.cell 0 _ rfl
        have f0 := NBF.free 0
        have g1 := NBF.cell 1 _ rfl
        have f1 := NBF.free 1
        have g2 := NBF.cell 2 _ rfl
        have f2 := NBF.free 2
        go_simp
        try go_wp2_with fail
        clear g0 g1 g2 f0 f1 f2
        have FX := hide (bl_three NBF (.slice a1 n1 c1) (.slice a2 n2 c2) (.slice a3 n3 c3))
        have FB : Hid (Below w1.heap.size w1 (((y3.setCell ⟨y2.heap.size, 0, none⟩ (.slice a1 n1 c1)).setCell ⟨y2.heap.size, 1, none⟩ (.slice a2 n2 c2)).setCell ⟨y2.heap.size, 2, none⟩ (.slice a3 n3 c3))) := below3 (.slice a1 n1 c1) (.slice a2 n2 c2) (.slice a3 n3 c3) C3.out (C2.out.size)
        have FR : Hid (Rb3 E l r t p wt ob du (((y3.setCell ⟨y2.heap.size, 0, none⟩ (.slice a1 n1 c1)).setCell ⟨y2.heap.size, 1, none⟩ (.slice a2 n2 c2)).setCell ⟨y2.heap.size, 2, none⟩ (.slice a3 n3 c3)) w1.heap.size (.slice a1 n1 c1) (.slice a2 n2 c2) (.slice a3 n3 c3) n1 v) := Rb3.mono HRES.out (fun h => (tab_far3 (h.below PBx.out) (fun j e => by have := (h.p.lt j e).2; omega) (fun j e => by have := (h.r.lt j e).2; omega) (fun j e => by have := (h.t.lt j e).2; omega) _ _ _).weaken C1.out.size)
        have FZ : Hid (y2.heap.size < (((y3.setCell ⟨y2.heap.size, 0, none⟩ (.slice a1 n1 c1)).setCell ⟨y2.heap.size, 1, none⟩ (.slice a2 n2 c2)).setCell ⟨y2.heap.size, 2, none⟩ (.slice a3 n3 c3)).heap.size) := block_lt_of_cell (FX.out.cell 0 _ rfl)
        clear NBF HRES
        refine hK.out _ _ (H3.out _ FB.out) (fun hHeld2 => ?_)
        clear hK K hHeld
        have hHeld := hHeld2
        clear hHeld2
        generalize (((y3.setCell ⟨y2.heap.size, 0, none⟩ (.slice a1 n1 c1)).setCell ⟨y2.heap.size, 1, none⟩ (.slice a2 n2 c2)).setCell ⟨y2.heap.size, 2, none⟩ (.slice a3 n3 c3)) = WF at *
        try simp only [Act.put, List.setIfInBounds_toArray, List.set_cons_zero, List.set_cons_succ]
        refine wpAnyH_take (i := 17) (oi := { dst := some 4, op := Go.Op.assign (Go.Operand.tmp 32), type := 33, pos := "outright.go:149", after := #[{ on := 14, ground := Go.Ground.data }, { on := 16, ground := Go.Ground.chain }, { on := 0, ground := Go.Ground.phase }, { on := 1, ground := Go.Ground.phase }, { on := 2, ground := Go.Ground.phase }, { on := 3, ground := Go.Ground.phase }, { on := 4, ground := Go.Ground.phase }, { on := 5, ground := Go.Ground.phase }, { on := 6, ground := Go.Ground.phase }, { on := 7, ground := Go.Ground.phase }, { on := 8, ground := Go.Ground.phase }, { on := 9, ground := Go.Ground.phase }, { on := 10, ground := Go.Ground.phase }, { on := 11, ground := Go.Ground.phase }, { on := 12, ground := Go.Ground.phase }, { on := 13, ground := Go.Ground.phase }, { on := 14, ground := Go.Ground.phase }, { on := 15, ground := Go.Ground.phase }, { on := 16, ground := Go.Ground.phase }], guard := none }) (v := ?_) rfl (by kernel_rfl) (by kernel_rfl) (by kernel_rfl) (fun _ _ _ h => h) (Or.inl ⟨by rfl, ?_⟩) (by assumption) ?_
        rotate_left
        · intro wq hSw
          try dsimp only at hSw
          go_split_ands
          go_simp
          try with_reducible rfl
        try simp only [Act.put, List.setIfInBounds_toArray, List.set_cons_zero, List.set_cons_succ]
        refine wpAnyH_done (by kernel_rfl) ?_ _
        go_wp2
        go_meet
        case rel => exact ⟨_, _, _, _, _, _, _, _, _, _, rfl, FX.out, FR.out, FB.out, C2.out.size, FZ.out⟩
      · have NB := hide (bl_alloc y1 #[.slice none 0 0, .slice none 0 0, .slice none 0 0] 31)
        have PBx := hide (new_below y1 (.cells #[.slice none 0 0, .slice none 0 0, .slice none 0 0] 31))
        have ZB : Hid ((y1.alloc (.cells #[.slice none 0 0, .slice none 0 0, .slice none 0 0] 31)).heap.size = y1.heap.size + 1) := by unfold Hid; simp
        have C2 := hide (chain C1.out PBx.out)
        go_simp
        try go_wp2_with fail
        refine hK.out _ _ (H3.out _ C2.out) (fun hHeld2 => ?_)
        clear hK K hHeld
        have hHeld := hHeld2
        clear hHeld2
        try simp only [Act.put, List.setIfInBounds_toArray, List.set_cons_zero, List.set_cons_succ]
        generalize y1.alloc (.cells #[.slice none 0 0, .slice none 0 0, .slice none 0 0] 31) = y2 at *
        refine wpAnyH_ready (rs := [11]) (by kernel_rfl) (by simp) ?_
        refine AllReadyH.cons (o := { dst := some 30, op := Go.Op.call { callee := Go.Callee.value (Go.Operand.func 5), args := #[Go.Operand.tmp 21, Go.Operand.tmp 23, Go.Operand.tmp 25, Go.Operand.tmp 27, Go.Operand.tmp 29], argTypes := #[31, 3, 3, 3, 3] }, type := 34, pos := "outright.go:149", after := #[{ on := 2, ground := Go.Ground.data }, { on := 4, ground := Go.Ground.data }, { on := 6, ground := Go.Ground.data }, { on := 8, ground := Go.Ground.data }, { on := 10, ground := Go.Ground.data }, { on := 2, ground := Go.Ground.chain }], guard := none }) rfl (fun K hK => ?_) AllReadyH.nil
        go_simp
        go_at_call 5
        refine (block_any (HE1.out.below C2.out) pa pn pc l (HP.out.below (chain B1.out C2.out)) ra rn rc r (HR.out.below (chain B1.out C2.out)) ta tn tc t (HT.out.below (chain B1.out C2.out)) hmp hmr hmt p wt ob du (fun W he a len cap l hs p d hm => tset_any he a len cap l hs p d hm)).mono ?_
        rintro e y3 ⟨a1, n1, c1, a2, n2, c2, a3, n3, c3, v, rfl, hres, bi⟩
        have HRES : Hid (Rb3 E l r t p wt ob du y3 y2.heap.size (.slice a1 n1 c1) (.slice a2 n2 c2) (.slice a3 n3 c3) n1 v) := hres
        have C3 := hide (chain C2.out bi)
        have BI := hide bi
        clear bi hres
        try go_wp2_with fail
        refine hK.out _ _ (H3.out _ C3.out) (fun hHeld2 => ?_)
        clear hK K hHeld
        have hHeld := hHeld2
        clear hHeld2
        try simp only [Act.put, List.setIfInBounds_toArray, List.set_cons_zero, List.set_cons_succ]
        refine wpAnyH_take (i := 12) (oi := { dst := some 18, op := Go.Op.move (Go.Operand.tmp 30), type := 34, pos := "outright.go:149", after := #[{ on := 11, ground := Go.Ground.data }], guard := none }) (v := ?_) rfl (by kernel_rfl) (by kernel_rfl) (by kernel_rfl) (fun _ _ _ h => h) (Or.inl ⟨by rfl, ?_⟩) (by assumption) ?_
        rotate_left
        · intro wq hSw
          try dsimp only at hSw
          go_split_ands
          go_simp
          try with_reducible rfl
        try simp only [Act.put, List.setIfInBounds_toArray, List.set_cons_zero, List.set_cons_succ]
        refine wpAnyH_take (i := 13) (oi := { dst := some 31, op := Go.Op.extract (Go.Operand.tmp 18) 0, type := 31, pos := "outright.go:149", after := #[{ on := 12, ground := Go.Ground.data }], guard := none }) (v := ?_) rfl (by kernel_rfl) (by kernel_rfl) (by kernel_rfl) (fun _ _ _ h => h) (Or.inl ⟨by rfl, ?_⟩) (by assumption) ?_
        rotate_left
        · intro wq hSw
          try dsimp only at hSw
          go_split_ands
          go_simp
          try with_reducible rfl
        try simp only [Act.put, List.setIfInBounds_toArray, List.set_cons_zero, List.set_cons_succ]
        refine wpAnyH_take (i := 14) (oi := { dst := some 32, op := Go.Op.extract (Go.Operand.tmp 18) 1, type := 33, pos := "outright.go:149", after := #[{ on := 12, ground := Go.Ground.data }, { on := 16, ground := Go.Ground.gcOnly Go.Departure.lateStores }], guard := none }) (v := ?_) rfl (by kernel_rfl) (by kernel_rfl) (by kernel_rfl) (fun _ _ _ h => h) (Or.inl ⟨by rfl, ?_⟩) (by assumption) ?_
        rotate_left
        · intro wq hSw
          try dsimp only at hSw
          go_split_ands
          go_simp
          try with_reducible rfl
        try simp only [Act.put, List.setIfInBounds_toArray, List.set_cons_zero, List.set_cons_succ]
        refine wpAnyH_ready (rs := [16]) (by kernel_rfl) (by simp) ?_
        refine AllReadyH.cons (o := { dst := none, op := Go.Op.store 31 (Go.Operand.tmp 3) (Go.Operand.tmp 31), type := 0, pos := "outright.go:149", after := #[{ on := 15, ground := Go.Ground.data }, { on := 13, ground := Go.Ground.data }, { on := 11, ground := Go.Ground.chain }, { on := 0, ground := Go.Ground.phase }, { on := 1, ground := Go.Ground.phase }, { on := 2, ground := Go.Ground.phase }, { on := 3, ground := Go.Ground.phase }, { on := 4, ground := Go.Ground.phase }, { on := 5, ground := Go.Ground.phase }, { on := 6, ground := Go.Ground.phase }, { on := 7, ground := Go.Ground.phase }, { on := 8, ground := Go.Ground.phase }, { on := 9, ground := Go.Ground.phase }, { on := 10, ground := Go.Ground.phase }, { on := 11, ground := Go.Ground.phase }, { on := 12, ground := Go.Ground.phase }, { on := 13, ground := Go.Ground.phase }, { on := 14, ground := Go.Ground.textOnly Go.Departure.lateStores }, { on := 15, ground := Go.Ground.phase }], guard := none }) rfl (fun K hK => ?_) AllReadyH.nil
        have NBF := (NB.out.below (by have := ZB.out; omega) BI.out)
        have g0 := NBF.cell 0 _ rfl
        have f0 := NBF.free 0
        have g1 := NBF.cell 1 _ rfl
        have f1 := NBF.free 1
        have g2 := NBF.cell 2 _ rfl
        have f2 := NBF.free 2
        go_simp
        try go_wp2_with fail
        clear g0 g1 g2 f0 f1 f2
        have FX := hide (bl_three NBF (.slice a1 n1 c1) (.slice a2 n2 c2) (.slice a3 n3 c3))
        have FB : Hid (Below w1.heap.size w1 (((y3.setCell ⟨y1.heap.size, 0, none⟩ (.slice a1 n1 c1)).setCell ⟨y1.heap.size, 1, none⟩ (.slice a2 n2 c2)).setCell ⟨y1.heap.size, 2, none⟩ (.slice a3 n3 c3))) := below3 (.slice a1 n1 c1) (.slice a2 n2 c2) (.slice a3 n3 c3) C3.out (C1.out.size)
        have FR : Hid (Rb3 E l r t p wt ob du (((y3.setCell ⟨y1.heap.size, 0, none⟩ (.slice a1 n1 c1)).setCell ⟨y1.heap.size, 1, none⟩ (.slice a2 n2 c2)).setCell ⟨y1.heap.size, 2, none⟩ (.slice a3 n3 c3)) w1.heap.size (.slice a1 n1 c1) (.slice a2 n2 c2) (.slice a3 n3 c3) n1 v) := Rb3.mono HRES.out (fun h => (h.three (by have := ZB.out; omega) _ _ _).weaken C2.out.size)
        have FZ : Hid (y1.heap.size < (((y3.setCell ⟨y1.heap.size, 0, none⟩ (.slice a1 n1 c1)).setCell ⟨y1.heap.size, 1, none⟩ (.slice a2 n2 c2)).setCell ⟨y1.heap.size, 2, none⟩ (.slice a3 n3 c3)).heap.size) := block_lt_of_cell (FX.out.cell 0 _ rfl)
        clear NBF HRES
        refine hK.out _ _ (H3.out _ FB.out) (fun hHeld2 => ?_)
        clear hK K hHeld
        have hHeld := hHeld2
        clear hHeld2
        generalize (((y3.setCell ⟨y1.heap.size, 0, none⟩ (.slice a1 n1 c1)).setCell ⟨y1.heap.size, 1, none⟩ (.slice a2 n2 c2)).setCell ⟨y1.heap.size, 2, none⟩ (.slice a3 n3 c3)) = WF at *
        try simp only [Act.put, List.setIfInBounds_toArray, List.set_cons_zero, List.set_cons_succ]
        refine wpAnyH_take (i := 17) (oi := { dst := some 4, op := Go.Op.assign (Go.Operand.tmp 32), type := 33, pos := "outright.go:149", after := #[{ on := 14, ground := Go.Ground.data }, { on := 16, ground := Go.Ground.chain }, { on := 0, ground := Go.Ground.phase }, { on := 1, ground := Go.Ground.phase }, { on := 2, ground := Go.Ground.phase }, { on := 3, ground := Go.Ground.phase }, { on := 4, ground := Go.Ground.phase }, { on := 5, ground := Go.Ground.phase }, { on := 6, ground := Go.Ground.phase }, { on := 7, ground := Go.Ground.phase }, { on := 8, ground := Go.Ground.phase }, { on := 9, ground := Go.Ground.phase }, { on := 10, ground := Go.Ground.phase }, { on := 11, ground := Go.Ground.phase }, { on := 12, ground := Go.Ground.phase }, { on := 13, ground := Go.Ground.phase }, { on := 14, ground := Go.Ground.phase }, { on := 15, ground := Go.Ground.phase }, { on := 16, ground := Go.Ground.phase }], guard := none }) (v := ?_) rfl (by kernel_rfl) (by kernel_rfl) (by kernel_rfl) (fun _ _ _ h => h) (Or.inl ⟨by rfl, ?_⟩) (by assumption) ?_
        rotate_left
        · intro wq hSw
          try dsimp only at hSw
          go_split_ands
          go_simp
          try with_reducible rfl
        try simp only [Act.put, List.setIfInBounds_toArray, List.set_cons_zero, List.set_cons_succ]
        refine wpAnyH_done (by kernel_rfl) ?_ _
        go_wp2
        go_meet
        case rel => exact ⟨_, _, _, _, _, _, _, _, _, _, rfl, FX.out, FR.out, FB.out, C1.out.size, FZ.out⟩
    · have NB := hide (bl_alloc Y0 #[.slice none 0 0, .slice none 0 0, .slice none 0 0] 31)
      have PBx := hide (new_below Y0 (.cells #[.slice none 0 0, .slice none 0 0, .slice none 0 0] 31))
      have ZB : Hid ((Y0.alloc (.cells #[.slice none 0 0, .slice none 0 0, .slice none 0 0] 31)).heap.size = Y0.heap.size + 1) := by unfold Hid; simp
      have C1 := hide (chain C0.out PBx.out)
      go_simp
      try go_wp2_with fail
      refine hK.out _ _ (H3.out _ C1.out) (fun hHeld2 => ?_)
      clear hK K hHeld
      have hHeld := hHeld2
      clear hHeld2
      try simp only [Act.put, List.setIfInBounds_toArray, List.set_cons_zero, List.set_cons_succ]
      generalize Y0.alloc (.cells #[.slice none 0 0, .slice none 0 0, .slice none 0 0] 31) = y1 at *
      refine wpAnyH_ready (rs := [2]) (by kernel_rfl) (by simp) ?_
      refine AllReadyH.cons (o := { dst := some 21, op := Go.Op.call { callee := Go.Callee.value (Go.Operand.func 6), args := #[Go.Operand.tmp 20], argTypes := #[26] }, type := 31, pos := "outright.go:149", after := #[{ on := 1, ground := Go.Ground.data }], guard := none }) rfl (fun K hK => ?_) AllReadyH.nil
      go_simp
      go_at_call 6
      refine (to_any y1 _ _ _ ⟨_, _, _, rfl⟩ ⟨_, _, _, rfl⟩ ⟨_, _, _, rfl⟩).mono ?_
      rintro e y2 ⟨rfl, bt⟩
      have C2 := hide (chain C1.out bt)
      have BTT := hide bt
      clear bt
      try go_wp2_with fail
      refine hK.out _ _ (H3.out _ C2.out) (fun hHeld2 => ?_)
      clear hK K hHeld
      have hHeld := hHeld2
      clear hHeld2
      try simp only [Act.put, List.setIfInBounds_toArray, List.set_cons_zero, List.set_cons_succ]
      refine wpAnyH_ready (rs := [11]) (by kernel_rfl) (by simp) ?_
      refine AllReadyH.cons (o := { dst := some 30, op := Go.Op.call { callee := Go.Callee.value (Go.Operand.func 5), args := #[Go.Operand.tmp 21, Go.Operand.tmp 23, Go.Operand.tmp 25, Go.Operand.tmp 27, Go.Operand.tmp 29], argTypes := #[31, 3, 3, 3, 3] }, type := 34, pos := "outright.go:149", after := #[{ on := 2, ground := Go.Ground.data }, { on := 4, ground := Go.Ground.data }, { on := 6, ground := Go.Ground.data }, { on := 8, ground := Go.Ground.data }, { on := 10, ground := Go.Ground.data }, { on := 2, ground := Go.Ground.chain }], guard := none }) rfl (fun K hK => ?_) AllReadyH.nil
      go_simp
      go_at_call 5
      refine (block_any (HE1.out.below C2.out) pa pn pc l (HP.out.below (chain B1.out C2.out)) ra rn rc r (HR.out.below (chain B1.out C2.out)) ta tn tc t (HT.out.below (chain B1.out C2.out)) hmp hmr hmt p wt ob du (fun W he a len cap l hs p d hm => tset_any he a len cap l hs p d hm)).mono ?_
      rintro e y3 ⟨a1, n1, c1, a2, n2, c2, a3, n3, c3, v, rfl, hres, bi⟩
      have HRES : Hid (Rb3 E l r t p wt ob du y3 y2.heap.size (.slice a1 n1 c1) (.slice a2 n2 c2) (.slice a3 n3 c3) n1 v) := hres
      have C3 := hide (chain C2.out bi)
      have BI := hide bi
      clear bi hres
      try go_wp2_with fail
      refine hK.out _ _ (H3.out _ C3.out) (fun hHeld2 => ?_)
      clear hK K hHeld
      have hHeld := hHeld2
      clear hHeld2
      try simp only [Act.put, List.setIfInBounds_toArray, List.set_cons_zero, List.set_cons_succ]
      refine wpAnyH_take (i := 12) (oi := { dst := some 18, op := Go.Op.move (Go.Operand.tmp 30), type := 34, pos := "outright.go:149", after := #[{ on := 11, ground := Go.Ground.data }], guard := none }) (v := ?_) rfl (by kernel_rfl) (by kernel_rfl) (by kernel_rfl) (fun _ _ _ h => h) (Or.inl ⟨by rfl, ?_⟩) (by assumption) ?_
      rotate_left
      · intro wq hSw
        try dsimp only at hSw
        go_split_ands
        go_simp
        try with_reducible rfl
      try simp only [Act.put, List.setIfInBounds_toArray, List.set_cons_zero, List.set_cons_succ]
      refine wpAnyH_take (i := 13) (oi := { dst := some 31, op := Go.Op.extract (Go.Operand.tmp 18) 0, type := 31, pos := "outright.go:149", after := #[{ on := 12, ground := Go.Ground.data }], guard := none }) (v := ?_) rfl (by kernel_rfl) (by kernel_rfl) (by kernel_rfl) (fun _ _ _ h => h) (Or.inl ⟨by rfl, ?_⟩) (by assumption) ?_
      rotate_left
      · intro wq hSw
        try dsimp only at hSw
        go_split_ands
        go_simp
        try with_reducible rfl
      try simp only [Act.put, List.setIfInBounds_toArray, List.set_cons_zero, List.set_cons_succ]
      refine wpAnyH_take (i := 14) (oi := { dst := some 32, op := Go.Op.extract (Go.Operand.tmp 18) 1, type := 33, pos := "outright.go:149", after := #[{ on := 12, ground := Go.Ground.data }, { on := 16, ground := Go.Ground.gcOnly Go.Departure.lateStores }], guard := none }) (v := ?_) rfl (by kernel_rfl) (by kernel_rfl) (by kernel_rfl) (fun _ _ _ h => h) (Or.inl ⟨by rfl, ?_⟩) (by assumption) ?_
      rotate_left
      · intro wq hSw
        try dsimp only at hSw
        go_split_ands
        go_simp
        try with_reducible rfl
      try simp only [Act.put, List.setIfInBounds_toArray, List.set_cons_zero, List.set_cons_succ]
      refine wpAnyH_ready (rs := [16]) (by kernel_rfl) (by simp) ?_
      refine AllReadyH.cons (o := { dst := none, op := Go.Op.store 31 (Go.Operand.tmp 3) (Go.Operand.tmp 31), type := 0, pos := "outright.go:149", after := #[{ on := 15, ground := Go.Ground.data }, { on := 13, ground := Go.Ground.data }, { on := 11, ground := Go.Ground.chain }, { on := 0, ground := Go.Ground.phase }, { on := 1, ground := Go.Ground.phase }, { on := 2, ground := Go.Ground.phase }, { on := 3, ground := Go.Ground.phase }, { on := 4, ground := Go.Ground.phase }, { on := 5, ground := Go.Ground.phase }, { on := 6, ground := Go.Ground.phase }, { on := 7, ground := Go.Ground.phase }, { on := 8, ground := Go.Ground.phase }, { on := 9, ground := Go.Ground.phase }, { on := 10, ground := Go.Ground.phase }, { on := 11, ground := Go.Ground.phase }, { on := 12, ground := Go.Ground.phase }, { on := 13, ground := Go.Ground.phase }, { on := 14, ground := Go.Ground.textOnly Go.Departure.lateStores }, { on := 15, ground := Go.Ground.phase }], guard := none }) rfl (fun K hK => ?_) AllReadyH.nil
      have NBF := ((NB.out.below (by have := ZB.out; omega) BTT.out).below (by have := ZB.out; have := BTT.out.size; omega) BI.out)
      have g0 := NBF.cell 0 _ rfl
      have f0 := NBF.free 0
      have g1 := NBF.cell 1 _ rfl
      have f1 := NBF.free 1
      have g2 := NBF.cell 2 _ rfl
      have f2 := NBF.free 2
      go_simp
      try go_wp2_with fail
      clear g0 g1 g2 f0 f1 f2
      have FX := hide (bl_three NBF (.slice a1 n1 c1) (.slice a2 n2 c2) (.slice a3 n3 c3))
      have FB : Hid (Below w1.heap.size w1 (((y3.setCell ⟨Y0.heap.size, 0, none⟩ (.slice a1 n1 c1)).setCell ⟨Y0.heap.size, 1, none⟩ (.slice a2 n2 c2)).setCell ⟨Y0.heap.size, 2, none⟩ (.slice a3 n3 c3))) := below3 (.slice a1 n1 c1) (.slice a2 n2 c2) (.slice a3 n3 c3) C3.out (C0.out.size)
      have FR : Hid (Rb3 E l r t p wt ob du (((y3.setCell ⟨Y0.heap.size, 0, none⟩ (.slice a1 n1 c1)).setCell ⟨Y0.heap.size, 1, none⟩ (.slice a2 n2 c2)).setCell ⟨Y0.heap.size, 2, none⟩ (.slice a3 n3 c3)) w1.heap.size (.slice a1 n1 c1) (.slice a2 n2 c2) (.slice a3 n3 c3) n1 v) := Rb3.mono HRES.out (fun h => (h.three (by have := ZB.out; have := BTT.out.size; omega) _ _ _).weaken C2.out.size)
      have FZ : Hid (Y0.heap.size < (((y3.setCell ⟨Y0.heap.size, 0, none⟩ (.slice a1 n1 c1)).setCell ⟨Y0.heap.size, 1, none⟩ (.slice a2 n2 c2)).setCell ⟨Y0.heap.size, 2, none⟩ (.slice a3 n3 c3)).heap.size) := block_lt_of_cell (FX.out.cell 0 _ rfl)
      clear NBF HRES
      refine hK.out _ _ (H3.out _ FB.out) (fun hHeld2 => ?_)
      clear hK K hHeld
      have hHeld := hHeld2
      clear hHeld2
      generalize (((y3.setCell ⟨Y0.heap.size, 0, none⟩ (.slice a1 n1 c1)).setCell ⟨Y0.heap.size, 1, none⟩ (.slice a2 n2 c2)).setCell ⟨Y0.heap.size, 2, none⟩ (.slice a3 n3 c3)) = WF at *
      try simp only [Act.put, List.setIfInBounds_toArray, List.set_cons_zero, List.set_cons_succ]
      refine wpAnyH_take (i := 17) (oi := { dst := some 4, op := Go.Op.assign (Go.Operand.tmp 32), type := 33, pos := "outright.go:149", after := #[{ on := 14, ground := Go.Ground.data }, { on := 16, ground := Go.Ground.chain }, { on := 0, ground := Go.Ground.phase }, { on := 1, ground := Go.Ground.phase }, { on := 2, ground := Go.Ground.phase }, { on := 3, ground := Go.Ground.phase }, { on := 4, ground := Go.Ground.phase }, { on := 5, ground := Go.Ground.phase }, { on := 6, ground := Go.Ground.phase }, { on := 7, ground := Go.Ground.phase }, { on := 8, ground := Go.Ground.phase }, { on := 9, ground := Go.Ground.phase }, { on := 10, ground := Go.Ground.phase }, { on := 11, ground := Go.Ground.phase }, { on := 12, ground := Go.Ground.phase }, { on := 13, ground := Go.Ground.phase }, { on := 14, ground := Go.Ground.phase }, { on := 15, ground := Go.Ground.phase }, { on := 16, ground := Go.Ground.phase }], guard := none }) (v := ?_) rfl (by kernel_rfl) (by kernel_rfl) (by kernel_rfl) (fun _ _ _ h => h) (Or.inl ⟨by rfl, ?_⟩) (by assumption) ?_
      rotate_left
      · intro wq hSw
        try dsimp only at hSw
        go_split_ands
        go_simp
        try with_reducible rfl
      try simp only [Act.put, List.setIfInBounds_toArray, List.set_cons_zero, List.set_cons_succ]
      refine wpAnyH_done (by kernel_rfl) ?_ _
      go_wp2
      go_meet
      case rel => exact ⟨_, _, _, _, _, _, _, _, _, _, rfl, FX.out, FR.out, FB.out, C0.out.size, FZ.out⟩
  case rest =>
    obtain ⟨gt, a1, n1, c1, a2, n2, c2, a3, n3, c3, rfl, hbt, hres, hb2, hg1, hg2⟩ := hcut
    rename World => w2
    have BT := hide hbt
    have HB2 := hide hb2
    have HZ2 := hide hg2
    have B2 := hide (chain B1.out hb2)
    have NB2 := hide (NB1.out.below HL1.out hb2)
    have HL2 : Hid (w.heap.size < w2.heap.size) := Nat.lt_of_lt_of_le HL1.out hb2.size
    rcases hres with ⟨⟨i, rfl⟩, rfl⟩ | ⟨rfl, k, q, rfl, hkq, hst, hgd, hwo, hdd, htab⟩
    · clear hbt hb2 hg1 hg2 NB1 HL1 HE1 HP HR HT
      have t0 := BT.out.cell 0 _ rfl
      simp only [sent]
      go_wp2
      go_ret
      exact ⟨rfl, B2.out⟩
    have HTL := hide (tab_lists htab)
    have HGD2 := hide (Rb.good_block hgd hkq hst hwo hdd)
    have HKL : Hid (k < l.length) := (List.getElem?_eq_some_iff.1 hkq).1
    have HKB : Hid ((l.set k (Rb.blockP q wt ob))[k]? = some (Rb.blockP q wt ob)) := by have := HKL.out; unfold Hid; simp [this]
    have HKQ := hide hkq
    have HST := hide hst
    have HGD := hide hgd
    have HWB := hide (woken_back hgd hkq hst wt ob x)
    have HDB := hide (Rb.blk_drop hgd.2.2.2.1.2.2 (Rb.no_timer hgd hkq hst) du)
    have HN : Hid (n1 ≤ 8 ∧ n2 ≤ 8 ∧ n3 ≤ 8) := by
      have s1 := HTL.out.1.size
      have s2 := HTL.out.2.1.size
      have s3 := HTL.out.2.2.size
      have h1 := HGD2.out.1
      have h2 := goodR_few HGD2.out.2.2.1 HGD2.out.1
      have h3 := HGD2.out.tfew
      exact ⟨by omega, by omega, by omega⟩
    have hn1 := HN.out.1
    have hn2 := HN.out.2.1
    have HLR : Hid ((outOf r (k : Int)).length = n2) := HTL.out.2.1.size
    have HMW := hide (waits_mem HKL.out q wt ob)
    have HLW : Hid ((waitsOf (l.set k (Rb.blockP q wt ob)) wt ob).length ≤ 8) := Nat.le_trans (waitsK_len _ _ _ _) HGD2.out.1
    clear hbt hb2 hg1 hg2 hkq hst hgd hwo hdd htab NB1 HL1
    have t1 := BT.out.cell 1 _ rfl
    go_wp2
    go_loopw [5, 42] (fun b i wr => ∃ j : Nat, j ≤ n2 ∧ i = .int .i64 (j : Int) ∧ b = .bool false ∧ wr = w2) (fun _ i _ => n2 - (intOf i).toNat)
    case atStart => exact ⟨0, by omega, rfl, rfl, rfl⟩
    case round =>
      obtain ⟨j, hj, rfl, rfl, rfl⟩ := hrel
      by_cases hlt : j < n2
      · obtain ⟨y, hy⟩ : ∃ p, (outOf r (k : Int))[j]? = some p := ⟨_, List.getElem?_eq_getElem (by rw [HLR.out]; exact hlt)⟩
        obtain ⟨b, off, rfl, hc⟩ := HTL.out.2.1.at ci1 (by decide) hy
        have q0 := hc 0 _ rfl
        simp only [Nat.add_zero, Nat.mul_one] at q0
        have dne : (y == (k : Int)) = false := by
          have := (List.mem_filter.1 (List.mem_of_getElem? hy)).2
          simpa using this
        have N3 := NB2.out.cell 3 _ rfl
        have hk1 : (j : Int) < (n2 : Int) := by omega
        clear hy hc t1
        go_wp2
        go_roundw
        case rel => exact ⟨j + 1, by omega, by go_num, rfl, by trivial⟩
        case measure => simp [intOf]; omega
      · obtain rfl : j = n2 := by omega
        have t0 := BT.out.cell 0 _ rfl
        have t2 := BT.out.cell 2 _ rfl
        have N4 := NB2.out.cell 4 _ rfl
        have N5 := NB2.out.cell 5 _ rfl
        go_wp2_with fail
        refine Calls.mono (waiters_any _ a1 n1 c1 _ HTL.out.1 a2 j c2 a3 n3 c3 wt ob (by omega)) ?_
        rintro e w3 ⟨v, rfl, hio, b3⟩
        obtain ⟨va, vc, rfl, his⟩ := iown_is hio
        have HVI := hide his
        have HB3 := hide (chain HB2.out b3)
        have B3 := hide (chain B2.out b3)
        have NB3 := hide (NB2.out.below HL2.out b3)
        have HL3 : Hid (w.heap.size < w3.heap.size) := Nat.lt_of_lt_of_le HL2.out b3.size
        have BT3 := hide (BT.out.below HZ2.out b3)
        have HZ3 : Hid (gt < w3.heap.size) := Nat.lt_of_lt_of_le HZ2.out b3.size
        have HTL3 : Hid (Pros w3 a1 n1 c1 _ ∧ Is w3 a2 j c2 _ ∧ Tms w3 a3 n3 c3 _) := ⟨HTL.out.1.below b3, HTL.out.2.1.below b3, HTL.out.2.2.below b3⟩
        clear hio his b3 t0 t1 t2 N4 N5 hlt HB2 B2 NB2 HL2 BT HZ2 HTL
        generalize waitsOf (l.set k (Rb.blockP q wt ob)) wt ob = WL at *
        have hlw := HLW.out
        go_wp2
        go_loopw [9, 62] (fun b i wr => ∃ (m : Nat) (f : Bool), m ≤ WL.length ∧ i = .int .i64 (m : Int) ∧ b = .bool f ∧ Hid (f = true ↔ (k : Int) ∈ WL.take m) ∧ wr = w3) (fun _ i _ => WL.length - (intOf i).toNat)
        case atStart => exact ⟨0, false, by omega, rfl, rfl, by unfold Hid; simp, rfl⟩
        case round =>
          obtain ⟨m, f, hm, rfl, rfl, hf, rfl⟩ := hrel
          by_cases hlt : m < WL.length
          · obtain ⟨y, hy⟩ : ∃ p, WL[m]? = some p := ⟨_, List.getElem?_eq_getElem hlt⟩
            obtain ⟨b, off, rfl, hc⟩ := HVI.out.at ci1 (by decide) hy
            have q0 := hc 0 _ rfl
            simp only [Nat.add_zero, Nat.mul_one] at q0
            have HTK : Hid ((k : Int) ∈ WL.take (m + 1) ↔ ((k : Int) ∈ WL.take m ∨ y = (k : Int))) := by
              unfold Hid
              rw [take_snoc hy, List.mem_append, List.mem_singleton]
              exact or_congr Iff.rfl eq_comm
            have N3 := NB3.out.cell 3 _ rfl
            have hk1 : (m : Int) < (WL.length : Int) := by omega
            clear hy hc
            cases f with
            | true =>
              go_wp2
              go_roundw
              case rel => exact ⟨m + 1, true, by omega, by go_num, rfl, iff_of_true rfl (HTK.out.2 (.inl (hf.out.1 rfl))), by trivial⟩
              case measure => simp [intOf]; omega
            | false =>
              by_cases hyk : y = (k : Int)
              · have dne : (y == (k : Int)) = true := by simpa using hyk
                have HYK := hide hyk
                clear hyk
                go_wp2
                go_roundw
                case rel => exact ⟨m + 1, true, by omega, by go_num, rfl, iff_of_true rfl (HTK.out.2 (.inr HYK.out)), by trivial⟩
                case measure => simp [intOf]; omega
              · have dne : (y == (k : Int)) = false := by simpa using hyk
                have HYK := hide hyk
                clear hyk
                go_wp2
                go_roundw
                case rel => exact ⟨m + 1, false, by omega, by go_num, rfl, iff_of_false (by simp) (fun h => (HTK.out.1 h).elim (fun h => by have := hf.out.2 h; simp at this) HYK.out), by trivial⟩
                case measure => simp [intOf]; omega
          · obtain rfl : m = WL.length := by omega
            obtain rfl : f = true := hf.out.2 (by rw [List.take_length]; exact HMW.out)
            clear hf hlt HMW HLW HVI
            have t0 := BT3.out.cell 0 _ rfl
            have t1 := BT3.out.cell 1 _ rfl
            have t2 := BT3.out.cell 2 _ rfl
            have N3 := NB3.out.cell 3 _ rfl
            have N10 := NB3.out.cell 10 _ rfl
            go_wp2_with fail
            refine Calls.mono (wakeOk_any (HE1.out.below HB3.out) a1 n1 c1 _ HTL3.out.1 a2 j c2 _ HTL3.out.2.1 a3 n3 c3 _ HTL3.out.2.2 (by have := HN.out.1; omega) (by have := HN.out.2.1; omega) (by have := HN.out.2.2; omega) (k : Int) k rfl (Rb.blockP q wt ob) HKB.out rfl HGD2.out x) ?_
            rintro e w4 ⟨ua1, un1, uc1, ua2, un2, uc2, ua3, un3, uc3, rfl, htu, b4⟩
            have X5 := new_below w4 (.cells #[.slice ua1 un1 uc1, .slice ua2 un2 uc2, .slice ua3 un3 uc3] 31)
            have D5 := hide (chain b4 X5)
            have HUL := hide (tab_lists (htu.below X5))
            have HUB : Hid (Bl (w4.alloc (.cells #[.slice ua1 un1 uc1, .slice ua2 un2 uc2, .slice ua3 un3 uc3] 31)) w4.heap.size [.slice ua1 un1 uc1, .slice ua2 un2 uc2, .slice ua3 un3 uc3]) := bl_alloc w4 #[.slice ua1 un1 uc1, .slice ua2 un2 uc2, .slice ua3 un3 uc3] 31
            have HUZ : Hid (w4.heap.size < (w4.alloc (.cells #[.slice ua1 un1 uc1, .slice ua2 un2 uc2, .slice ua3 un3 uc3] 31)).heap.size) := by unfold Hid; simp
            clear htu b4 X5 t0 t1 t2 N3 N10
            go_upto_region 22 with fail
            generalize w4.alloc (.cells #[.slice ua1 un1 uc1, .slice ua2 un2 uc2, .slice ua3 un3 uc3] 31) = w5 at *
            generalize w4.heap.size = ub at *
            have NB5 := hide (NB3.out.below HL3.out D5.out)
            have HL5 : Hid (w.heap.size < w5.heap.size) := Nat.lt_of_lt_of_le HL3.out D5.out.size
            have B5 := hide (chain B3.out D5.out)
            have HE5 := hide ((HE1.out.below HB3.out).below D5.out)
            have HOK : Hid (Good l r t ∧ OkP l (k : Int) [1]) := ⟨HGD.out, by omega, by have := HKL.out; omega, by rw [show stateAt l (k : Int) = q.state from stateAt_of HKQ.out, HST.out]; simp⟩
            clear NB3 HL3 B3 HB3 HE1 D5 BT3 HTL3 HZ3
            go_cut [13, 14] from 16 (fun v13 v14 wx => ∃ gy b1 m1 d1 b2 m2 d2 b3 m3 d3, v13 = .pointer (some ⟨gy, 0, none⟩) ∧ v14 = .nilIface ∧ Bl wx gy [.slice b1 m1 d1, .slice b2 m2 d2, .slice b3 m3 d3] ∧ Tab wx w5.heap.size (.slice b1 m1 d1) (.slice b2 m2 d2) (.slice b3 m3 d3) l (yldR r (k : Int)) t ∧ Below w5.heap.size w5 wx ∧ w5.heap.size ≤ gy ∧ gy < wx.heap.size)
            case first =>
              have C0 : Hid (Below w5.heap.size w5 w5.drew) := (Below.refl _ _).drew
              have H3 : Hid (∀ wz, Below w5.heap.size w5 wz → (fun wz => wz.cell? ⟨w.heap.size, 0, none⟩ = some (.slice pa pn pc) ∧ wz.cell? ⟨w.heap.size, 1, none⟩ = some (.slice ra rn rc) ∧ wz.cell? ⟨w.heap.size, 2, none⟩ = some (.slice ta tn tc) ∧ wz.cell? ⟨w.heap.size, 3, none⟩ = some (.int .i64 (k : Int))) wz) := fun wz hz => by
                have h1 := NB5.out.below HL5.out hz
                exact ⟨h1.cell 0 _ rfl, h1.cell 1 _ rfl, h1.cell 2 _ rfl, h1.cell 3 _ rfl⟩
              refine wp_region_held_drew (S := fun wz => wz.cell? ⟨w.heap.size, 0, none⟩ = some (.slice pa pn pc) ∧ wz.cell? ⟨w.heap.size, 1, none⟩ = some (.slice ra rn rc) ∧ wz.cell? ⟨w.heap.size, 2, none⟩ = some (.slice ta tn tc) ∧ wz.cell? ⟨w.heap.size, 3, none⟩ = some (.int .i64 (k : Int))) (by kernel_rfl) (H3.out _ C0.out) (fun hHeld => ?_)
              generalize w5.drew = Y0 at *
              refine wpAnyH_take (i := 0) (oi := { dst := some 89, op := Go.Op.fieldAddr 29 (Go.Operand.tmp 1) 0, type := 0, pos := "outright.go:166", after := #[], guard := none }) (v := ?_) rfl (by kernel_rfl) (by kernel_rfl) (by kernel_rfl) (fun _ _ _ h => h) (Or.inl ⟨by rfl, ?_⟩) (by assumption) ?_
              rotate_left
              · intro wq hSw
                try dsimp only at hSw
                go_split_ands
                go_simp
                try with_reducible rfl
              try simp only [Act.put, List.setIfInBounds_toArray, List.set_cons_zero, List.set_cons_succ]
              refine wpAnyH_take (i := 1) (oi := { dst := some 90, op := Go.Op.load 26 (Go.Operand.tmp 89), type := 26, pos := "outright.go:166", after := #[{ on := 0, ground := Go.Ground.data }], guard := none }) (v := ?_) rfl (by kernel_rfl) (by kernel_rfl) (by kernel_rfl) (fun _ _ _ h => h) (Or.inl ⟨by rfl, ?_⟩) (by assumption) ?_
              rotate_left
              · intro wq hSw
                try dsimp only at hSw
                go_split_ands
                go_simp
                try with_reducible rfl
              try simp only [Act.put, List.setIfInBounds_toArray, List.set_cons_zero, List.set_cons_succ]
              refine wpAnyH_take (i := 3) (oi := { dst := some 92, op := Go.Op.fieldAddr 29 (Go.Operand.tmp 1) 1, type := 0, pos := "outright.go:166", after := #[], guard := none }) (v := ?_) rfl (by kernel_rfl) (by kernel_rfl) (by kernel_rfl) (fun _ _ _ h => h) (Or.inl ⟨by rfl, ?_⟩) (by assumption) ?_
              rotate_left
              · intro wq hSw
                try dsimp only at hSw
                go_split_ands
                go_simp
                try with_reducible rfl
              try simp only [Act.put, List.setIfInBounds_toArray, List.set_cons_zero, List.set_cons_succ]
              refine wpAnyH_take (i := 4) (oi := { dst := some 93, op := Go.Op.load 3 (Go.Operand.tmp 92), type := 3, pos := "outright.go:166", after := #[{ on := 3, ground := Go.Ground.data }], guard := none }) (v := ?_) rfl (by kernel_rfl) (by kernel_rfl) (by kernel_rfl) (fun _ _ _ h => h) (Or.inl ⟨by rfl, ?_⟩) (by assumption) ?_
              rotate_left
              · intro wq hSw
                try dsimp only at hSw
                go_split_ands
                go_simp
                try with_reducible rfl
              try simp only [Act.put, List.setIfInBounds_toArray, List.set_cons_zero, List.set_cons_succ]
              refine wpAnyH_ready (rs := [2, 9]) (by kernel_rfl) (by simp) ?_
              refine AllReadyH.cons (o := { dst := some 91, op := Go.Op.call { callee := Go.Callee.value (Go.Operand.func 6), args := #[Go.Operand.tmp 90], argTypes := #[26] }, type := 31, pos := "outright.go:166", after := #[{ on := 1, ground := Go.Ground.data }], guard := none }) rfl (fun K hK => ?_) (AllReadyH.cons (o := { dst := some 13, op := Go.Op.alloc 31, type := 0, pos := "outright.go:166", after := #[], guard := none }) rfl (fun K hK => ?_) AllReadyH.nil)
              · go_simp
                go_at_call 6
                refine (to_any Y0 _ _ _ ⟨_, _, _, rfl⟩ ⟨_, _, _, rfl⟩ ⟨_, _, _, rfl⟩).mono ?_
                rintro e y1 ⟨rfl, bt⟩
                have C1 := hide (chain C0.out bt)
                have BTT := hide bt
                clear bt
                try go_wp2_with fail
                refine hK.out _ _ (H3.out _ C1.out) (fun hHeld2 => ?_)
                clear hK K hHeld
                have hHeld := hHeld2
                clear hHeld2
                try simp only [Act.put, List.setIfInBounds_toArray, List.set_cons_zero, List.set_cons_succ]
                refine wpAnyH_ready (rs := [5, 9]) (by kernel_rfl) (by simp) ?_
                refine AllReadyH.cons (o := { dst := some 94, op := Go.Op.call { callee := Go.Callee.value (Go.Operand.func 9), args := #[Go.Operand.tmp 91, Go.Operand.tmp 93], argTypes := #[31, 3] }, type := 34, pos := "outright.go:166", after := #[{ on := 2, ground := Go.Ground.data }, { on := 4, ground := Go.Ground.data }, { on := 2, ground := Go.Ground.chain }], guard := none }) rfl (fun K hK => ?_) (AllReadyH.cons (o := { dst := some 13, op := Go.Op.alloc 31, type := 0, pos := "outright.go:166", after := #[], guard := none }) rfl (fun K hK => ?_) AllReadyH.nil)
                · go_simp
                  go_at_call 9
                  refine (yield_any (HE5.out.below C1.out) pa pn pc l (HP.out.below (chain B5.out C1.out)) ra rn rc r (HR.out.below (chain B5.out C1.out)) ta tn tc t (HT.out.below (chain B5.out C1.out)) hmp hmr hmt (k : Int)).mono ?_
                  rintro e y2 ⟨b1, m1, d1, b2, m2, d2, b3, m3, d3, v, rfl, hbare, htab, bi⟩
                  rw [show ofE (Good l r t) (OkP l (k : Int) [1]) = 0 from (if_pos HOK.out.1).trans (if_pos HOK.out.2)] at hbare
                  rw [show ownT (Good l r t ∧ OkP l (k : Int) [1]) l = l from if_pos HOK.out, show ownT (Good l r t ∧ OkP l (k : Int) [1]) (yldR r (k : Int)) = yldR r (k : Int) from if_pos HOK.out, show ownT (Good l r t ∧ OkP l (k : Int) [1]) t = t from if_pos HOK.out] at htab
                  obtain rfl := bare0 hbare
                  have HRES : Hid (Tab y2 y1.heap.size (.slice b1 m1 d1) (.slice b2 m2 d2) (.slice b3 m3 d3) l (yldR r (k : Int)) t) := htab
                  have C2 := hide (chain C1.out bi)
                  have BI := hide bi
                  clear bi htab hbare
                  try go_wp2_with fail
                  refine hK.out _ _ (H3.out _ C2.out) (fun hHeld2 => ?_)
                  clear hK K hHeld
                  have hHeld := hHeld2
                  clear hHeld2
                  try simp only [Act.put, List.setIfInBounds_toArray, List.set_cons_zero, List.set_cons_succ]
                  refine wpAnyH_take (i := 6) (oi := { dst := some 88, op := Go.Op.move (Go.Operand.tmp 94), type := 34, pos := "outright.go:166", after := #[{ on := 5, ground := Go.Ground.data }], guard := none }) (v := ?_) rfl (by kernel_rfl) (by kernel_rfl) (by kernel_rfl) (fun _ _ _ h => h) (Or.inl ⟨by rfl, ?_⟩) (by assumption) ?_
                  rotate_left
                  · intro wq hSw
                    try dsimp only at hSw
                    go_split_ands
                    go_simp
                    try with_reducible rfl
                  try simp only [Act.put, List.setIfInBounds_toArray, List.set_cons_zero, List.set_cons_succ]
                  refine wpAnyH_take (i := 7) (oi := { dst := some 95, op := Go.Op.extract (Go.Operand.tmp 88) 0, type := 31, pos := "outright.go:166", after := #[{ on := 6, ground := Go.Ground.data }], guard := none }) (v := ?_) rfl (by kernel_rfl) (by kernel_rfl) (by kernel_rfl) (fun _ _ _ h => h) (Or.inl ⟨by rfl, ?_⟩) (by assumption) ?_
                  rotate_left
                  · intro wq hSw
                    try dsimp only at hSw
                    go_split_ands
                    go_simp
                    try with_reducible rfl
                  try simp only [Act.put, List.setIfInBounds_toArray, List.set_cons_zero, List.set_cons_succ]
                  refine wpAnyH_take (i := 8) (oi := { dst := some 96, op := Go.Op.extract (Go.Operand.tmp 88) 1, type := 33, pos := "outright.go:166", after := #[{ on := 6, ground := Go.Ground.data }, { on := 10, ground := Go.Ground.gcOnly Go.Departure.lateStores }], guard := none }) (v := ?_) rfl (by kernel_rfl) (by kernel_rfl) (by kernel_rfl) (fun _ _ _ h => h) (Or.inl ⟨by rfl, ?_⟩) (by assumption) ?_
                  rotate_left
                  · intro wq hSw
                    try dsimp only at hSw
                    go_split_ands
                    go_simp
                    try with_reducible rfl
                  try simp only [Act.put, List.setIfInBounds_toArray, List.set_cons_zero, List.set_cons_succ]
                  refine wpAnyH_ready (rs := [9]) (by kernel_rfl) (by simp) ?_
                  refine AllReadyH.cons (o := { dst := some 13, op := Go.Op.alloc 31, type := 0, pos := "outright.go:166", after := #[], guard := none }) rfl (fun K hK => ?_) AllReadyH.nil
                  have NB := hide (bl_alloc y2 #[.slice none 0 0, .slice none 0 0, .slice none 0 0] 31)
                  have PBx := hide (new_below y2 (.cells #[.slice none 0 0, .slice none 0 0, .slice none 0 0] 31))
                  have ZB : Hid ((y2.alloc (.cells #[.slice none 0 0, .slice none 0 0, .slice none 0 0] 31)).heap.size = y2.heap.size + 1) := by unfold Hid; simp
                  have C3 := hide (chain C2.out PBx.out)
                  go_simp
                  try go_wp2_with fail
                  refine hK.out _ _ (H3.out _ C3.out) (fun hHeld2 => ?_)
                  clear hK K hHeld
                  have hHeld := hHeld2
                  clear hHeld2
                  try simp only [Act.put, List.setIfInBounds_toArray, List.set_cons_zero, List.set_cons_succ]
                  generalize y2.alloc (.cells #[.slice none 0 0, .slice none 0 0, .slice none 0 0] 31) = y3 at *
                  refine wpAnyH_ready (rs := [10]) (by kernel_rfl) (by simp) ?_
                  refine AllReadyH.cons (o := { dst := none, op := Go.Op.store 31 (Go.Operand.tmp 13) (Go.Operand.tmp 95), type := 0, pos := "outright.go:166", after := #[{ on := 9, ground := Go.Ground.data }, { on := 7, ground := Go.Ground.data }, { on := 5, ground := Go.Ground.chain }, { on := 0, ground := Go.Ground.phase }, { on := 1, ground := Go.Ground.phase }, { on := 2, ground := Go.Ground.phase }, { on := 3, ground := Go.Ground.phase }, { on := 4, ground := Go.Ground.phase }, { on := 5, ground := Go.Ground.phase }, { on := 6, ground := Go.Ground.phase }, { on := 7, ground := Go.Ground.phase }, { on := 8, ground := Go.Ground.textOnly Go.Departure.lateStores }, { on := 9, ground := Go.Ground.phase }], guard := none }) rfl (fun K hK => ?_) AllReadyH.nil
                  have NBF := NB.out
                  have g0 := NBF.cell 0 _ rfl
                  have f0 := NBF.free 0
                  have g1 := NBF.cell 1 _ rfl
                  have f1 := NBF.free 1
                  have g2 := NBF.cell 2 _ rfl
                  have f2 := NBF.free 2
                  go_simp
                  try go_wp2_with fail
                  clear g0 g1 g2 f0 f1 f2
                  have FX := hide (bl_three NBF (.slice b1 m1 d1) (.slice b2 m2 d2) (.slice b3 m3 d3))
                  have FB : Hid (Below w5.heap.size w5 (((y3.setCell ⟨y2.heap.size, 0, none⟩ (.slice b1 m1 d1)).setCell ⟨y2.heap.size, 1, none⟩ (.slice b2 m2 d2)).setCell ⟨y2.heap.size, 2, none⟩ (.slice b3 m3 d3))) := below3 (.slice b1 m1 d1) (.slice b2 m2 d2) (.slice b3 m3 d3) C3.out (C2.out.size)
                  have FR : Hid (Tab (((y3.setCell ⟨y2.heap.size, 0, none⟩ (.slice b1 m1 d1)).setCell ⟨y2.heap.size, 1, none⟩ (.slice b2 m2 d2)).setCell ⟨y2.heap.size, 2, none⟩ (.slice b3 m3 d3)) w5.heap.size (.slice b1 m1 d1) (.slice b2 m2 d2) (.slice b3 m3 d3) l (yldR r (k : Int)) t) := (by have h := HRES.out; exact (tab_far3 (h.below PBx.out) (fun j e => by have := (h.p.lt j e).2; omega) (fun j e => by have := (h.r.lt j e).2; omega) (fun j e => by have := (h.t.lt j e).2; omega) _ _ _).weaken C1.out.size)
                  have FZ : Hid (y2.heap.size < (((y3.setCell ⟨y2.heap.size, 0, none⟩ (.slice b1 m1 d1)).setCell ⟨y2.heap.size, 1, none⟩ (.slice b2 m2 d2)).setCell ⟨y2.heap.size, 2, none⟩ (.slice b3 m3 d3)).heap.size) := block_lt_of_cell (FX.out.cell 0 _ rfl)
                  clear NBF HRES
                  refine hK.out _ _ (H3.out _ FB.out) (fun hHeld2 => ?_)
                  clear hK K hHeld
                  have hHeld := hHeld2
                  clear hHeld2
                  generalize (((y3.setCell ⟨y2.heap.size, 0, none⟩ (.slice b1 m1 d1)).setCell ⟨y2.heap.size, 1, none⟩ (.slice b2 m2 d2)).setCell ⟨y2.heap.size, 2, none⟩ (.slice b3 m3 d3)) = WF at *
                  try simp only [Act.put, List.setIfInBounds_toArray, List.set_cons_zero, List.set_cons_succ]
                  refine wpAnyH_take (i := 11) (oi := { dst := some 14, op := Go.Op.assign (Go.Operand.tmp 96), type := 33, pos := "outright.go:166", after := #[{ on := 8, ground := Go.Ground.data }, { on := 10, ground := Go.Ground.chain }, { on := 0, ground := Go.Ground.phase }, { on := 1, ground := Go.Ground.phase }, { on := 2, ground := Go.Ground.phase }, { on := 3, ground := Go.Ground.phase }, { on := 4, ground := Go.Ground.phase }, { on := 5, ground := Go.Ground.phase }, { on := 6, ground := Go.Ground.phase }, { on := 7, ground := Go.Ground.phase }, { on := 8, ground := Go.Ground.phase }, { on := 9, ground := Go.Ground.phase }, { on := 10, ground := Go.Ground.phase }], guard := none }) (v := ?_) rfl (by kernel_rfl) (by kernel_rfl) (by kernel_rfl) (fun _ _ _ h => h) (Or.inl ⟨by rfl, ?_⟩) (by assumption) ?_
                  rotate_left
                  · intro wq hSw
                    try dsimp only at hSw
                    go_split_ands
                    go_simp
                    try with_reducible rfl
                  try simp only [Act.put, List.setIfInBounds_toArray, List.set_cons_zero, List.set_cons_succ]
                  refine wpAnyH_done (by kernel_rfl) ?_ _
                  go_wp2
                  go_meet
                  case rel => exact ⟨_, _, _, _, _, _, _, _, _, _, rfl, rfl, FX.out, FR.out, FB.out, C2.out.size, FZ.out⟩
                · have NB := hide (bl_alloc y1 #[.slice none 0 0, .slice none 0 0, .slice none 0 0] 31)
                  have PBx := hide (new_below y1 (.cells #[.slice none 0 0, .slice none 0 0, .slice none 0 0] 31))
                  have ZB : Hid ((y1.alloc (.cells #[.slice none 0 0, .slice none 0 0, .slice none 0 0] 31)).heap.size = y1.heap.size + 1) := by unfold Hid; simp
                  have C2 := hide (chain C1.out PBx.out)
                  go_simp
                  try go_wp2_with fail
                  refine hK.out _ _ (H3.out _ C2.out) (fun hHeld2 => ?_)
                  clear hK K hHeld
                  have hHeld := hHeld2
                  clear hHeld2
                  try simp only [Act.put, List.setIfInBounds_toArray, List.set_cons_zero, List.set_cons_succ]
                  generalize y1.alloc (.cells #[.slice none 0 0, .slice none 0 0, .slice none 0 0] 31) = y2 at *
                  refine wpAnyH_ready (rs := [5]) (by kernel_rfl) (by simp) ?_
                  refine AllReadyH.cons (o := { dst := some 94, op := Go.Op.call { callee := Go.Callee.value (Go.Operand.func 9), args := #[Go.Operand.tmp 91, Go.Operand.tmp 93], argTypes := #[31, 3] }, type := 34, pos := "outright.go:166", after := #[{ on := 2, ground := Go.Ground.data }, { on := 4, ground := Go.Ground.data }, { on := 2, ground := Go.Ground.chain }], guard := none }) rfl (fun K hK => ?_) AllReadyH.nil
                  go_simp
                  go_at_call 9
                  refine (yield_any (HE5.out.below C2.out) pa pn pc l (HP.out.below (chain B5.out C2.out)) ra rn rc r (HR.out.below (chain B5.out C2.out)) ta tn tc t (HT.out.below (chain B5.out C2.out)) hmp hmr hmt (k : Int)).mono ?_
                  rintro e y3 ⟨b1, m1, d1, b2, m2, d2, b3, m3, d3, v, rfl, hbare, htab, bi⟩
                  rw [show ofE (Good l r t) (OkP l (k : Int) [1]) = 0 from (if_pos HOK.out.1).trans (if_pos HOK.out.2)] at hbare
                  rw [show ownT (Good l r t ∧ OkP l (k : Int) [1]) l = l from if_pos HOK.out, show ownT (Good l r t ∧ OkP l (k : Int) [1]) (yldR r (k : Int)) = yldR r (k : Int) from if_pos HOK.out, show ownT (Good l r t ∧ OkP l (k : Int) [1]) t = t from if_pos HOK.out] at htab
                  obtain rfl := bare0 hbare
                  have HRES : Hid (Tab y3 y2.heap.size (.slice b1 m1 d1) (.slice b2 m2 d2) (.slice b3 m3 d3) l (yldR r (k : Int)) t) := htab
                  have C3 := hide (chain C2.out bi)
                  have BI := hide bi
                  clear bi htab hbare
                  try go_wp2_with fail
                  refine hK.out _ _ (H3.out _ C3.out) (fun hHeld2 => ?_)
                  clear hK K hHeld
                  have hHeld := hHeld2
                  clear hHeld2
                  try simp only [Act.put, List.setIfInBounds_toArray, List.set_cons_zero, List.set_cons_succ]
                  refine wpAnyH_take (i := 6) (oi := { dst := some 88, op := Go.Op.move (Go.Operand.tmp 94), type := 34, pos := "outright.go:166", after := #[{ on := 5, ground := Go.Ground.data }], guard := none }) (v := ?_) rfl (by kernel_rfl) (by kernel_rfl) (by kernel_rfl) (fun _ _ _ h => h) (Or.inl ⟨by rfl, ?_⟩) (by assumption) ?_
                  rotate_left
                  · intro wq hSw
                    try dsimp only at hSw
                    go_split_ands
                    go_simp
                    try with_reducible rfl
                  try simp only [Act.put, List.setIfInBounds_toArray, List.set_cons_zero, List.set_cons_succ]
                  refine wpAnyH_take (i := 7) (oi := { dst := some 95, op := Go.Op.extract (Go.Operand.tmp 88) 0, type := 31, pos := "outright.go:166", after := #[{ on := 6, ground := Go.Ground.data }], guard := none }) (v := ?_) rfl (by kernel_rfl) (by kernel_rfl) (by kernel_rfl) (fun _ _ _ h => h) (Or.inl ⟨by rfl, ?_⟩) (by assumption) ?_
                  rotate_left
                  · intro wq hSw
                    try dsimp only at hSw
                    go_split_ands
                    go_simp
                    try with_reducible rfl
                  try simp only [Act.put, List.setIfInBounds_toArray, List.set_cons_zero, List.set_cons_succ]
                  refine wpAnyH_take (i := 8) (oi := { dst := some 96, op := Go.Op.extract (Go.Operand.tmp 88) 1, type := 33, pos := "outright.go:166", after := #[{ on := 6, ground := Go.Ground.data }, { on := 10, ground := Go.Ground.gcOnly Go.Departure.lateStores }], guard := none }) (v := ?_) rfl (by kernel_rfl) (by kernel_rfl) (by kernel_rfl) (fun _ _ _ h => h) (Or.inl ⟨by rfl, ?_⟩) (by assumption) ?_
                  rotate_left
                  · intro wq hSw
                    try dsimp only at hSw
                    go_split_ands
                    go_simp
                    try with_reducible rfl
                  try simp only [Act.put, List.setIfInBounds_toArray, List.set_cons_zero, List.set_cons_succ]
                  refine wpAnyH_ready (rs := [10]) (by kernel_rfl) (by simp) ?_
                  refine AllReadyH.cons (o := { dst := none, op := Go.Op.store 31 (Go.Operand.tmp 13) (Go.Operand.tmp 95), type := 0, pos := "outright.go:166", after := #[{ on := 9, ground := Go.Ground.data }, { on := 7, ground := Go.Ground.data }, { on := 5, ground := Go.Ground.chain }, { on := 0, ground := Go.Ground.phase }, { on := 1, ground := Go.Ground.phase }, { on := 2, ground := Go.Ground.phase }, { on := 3, ground := Go.Ground.phase }, { on := 4, ground := Go.Ground.phase }, { on := 5, ground := Go.Ground.phase }, { on := 6, ground := Go.Ground.phase }, { on := 7, ground := Go.Ground.phase }, { on := 8, ground := Go.Ground.textOnly Go.Departure.lateStores }, { on := 9, ground := Go.Ground.phase }], guard := none }) rfl (fun K hK => ?_) AllReadyH.nil
                  have NBF := (NB.out.below (by have := ZB.out; omega) BI.out)
                  have g0 := NBF.cell 0 _ rfl
                  have f0 := NBF.free 0
                  have g1 := NBF.cell 1 _ rfl
                  have f1 := NBF.free 1
                  have g2 := NBF.cell 2 _ rfl
                  have f2 := NBF.free 2
                  go_simp
                  try go_wp2_with fail
                  clear g0 g1 g2 f0 f1 f2
                  have FX := hide (bl_three NBF (.slice b1 m1 d1) (.slice b2 m2 d2) (.slice b3 m3 d3))
                  have FB : Hid (Below w5.heap.size w5 (((y3.setCell ⟨y1.heap.size, 0, none⟩ (.slice b1 m1 d1)).setCell ⟨y1.heap.size, 1, none⟩ (.slice b2 m2 d2)).setCell ⟨y1.heap.size, 2, none⟩ (.slice b3 m3 d3))) := below3 (.slice b1 m1 d1) (.slice b2 m2 d2) (.slice b3 m3 d3) C3.out (C1.out.size)
                  have FR : Hid (Tab (((y3.setCell ⟨y1.heap.size, 0, none⟩ (.slice b1 m1 d1)).setCell ⟨y1.heap.size, 1, none⟩ (.slice b2 m2 d2)).setCell ⟨y1.heap.size, 2, none⟩ (.slice b3 m3 d3)) w5.heap.size (.slice b1 m1 d1) (.slice b2 m2 d2) (.slice b3 m3 d3) l (yldR r (k : Int)) t) := (by have h := HRES.out; exact (h.three (by have := ZB.out; omega) _ _ _).weaken C2.out.size)
                  have FZ : Hid (y1.heap.size < (((y3.setCell ⟨y1.heap.size, 0, none⟩ (.slice b1 m1 d1)).setCell ⟨y1.heap.size, 1, none⟩ (.slice b2 m2 d2)).setCell ⟨y1.heap.size, 2, none⟩ (.slice b3 m3 d3)).heap.size) := block_lt_of_cell (FX.out.cell 0 _ rfl)
                  clear NBF HRES
                  refine hK.out _ _ (H3.out _ FB.out) (fun hHeld2 => ?_)
                  clear hK K hHeld
                  have hHeld := hHeld2
                  clear hHeld2
                  generalize (((y3.setCell ⟨y1.heap.size, 0, none⟩ (.slice b1 m1 d1)).setCell ⟨y1.heap.size, 1, none⟩ (.slice b2 m2 d2)).setCell ⟨y1.heap.size, 2, none⟩ (.slice b3 m3 d3)) = WF at *
                  try simp only [Act.put, List.setIfInBounds_toArray, List.set_cons_zero, List.set_cons_succ]
                  refine wpAnyH_take (i := 11) (oi := { dst := some 14, op := Go.Op.assign (Go.Operand.tmp 96), type := 33, pos := "outright.go:166", after := #[{ on := 8, ground := Go.Ground.data }, { on := 10, ground := Go.Ground.chain }, { on := 0, ground := Go.Ground.phase }, { on := 1, ground := Go.Ground.phase }, { on := 2, ground := Go.Ground.phase }, { on := 3, ground := Go.Ground.phase }, { on := 4, ground := Go.Ground.phase }, { on := 5, ground := Go.Ground.phase }, { on := 6, ground := Go.Ground.phase }, { on := 7, ground := Go.Ground.phase }, { on := 8, ground := Go.Ground.phase }, { on := 9, ground := Go.Ground.phase }, { on := 10, ground := Go.Ground.phase }], guard := none }) (v := ?_) rfl (by kernel_rfl) (by kernel_rfl) (by kernel_rfl) (fun _ _ _ h => h) (Or.inl ⟨by rfl, ?_⟩) (by assumption) ?_
                  rotate_left
                  · intro wq hSw
                    try dsimp only at hSw
                    go_split_ands
                    go_simp
                    try with_reducible rfl
                  try simp only [Act.put, List.setIfInBounds_toArray, List.set_cons_zero, List.set_cons_succ]
                  refine wpAnyH_done (by kernel_rfl) ?_ _
                  go_wp2
                  go_meet
                  case rel => exact ⟨_, _, _, _, _, _, _, _, _, _, rfl, rfl, FX.out, FR.out, FB.out, C1.out.size, FZ.out⟩
              · have NB := hide (bl_alloc Y0 #[.slice none 0 0, .slice none 0 0, .slice none 0 0] 31)
                have PBx := hide (new_below Y0 (.cells #[.slice none 0 0, .slice none 0 0, .slice none 0 0] 31))
                have ZB : Hid ((Y0.alloc (.cells #[.slice none 0 0, .slice none 0 0, .slice none 0 0] 31)).heap.size = Y0.heap.size + 1) := by unfold Hid; simp
                have C1 := hide (chain C0.out PBx.out)
                go_simp
                try go_wp2_with fail
                refine hK.out _ _ (H3.out _ C1.out) (fun hHeld2 => ?_)
                clear hK K hHeld
                have hHeld := hHeld2
                clear hHeld2
                try simp only [Act.put, List.setIfInBounds_toArray, List.set_cons_zero, List.set_cons_succ]
                generalize Y0.alloc (.cells #[.slice none 0 0, .slice none 0 0, .slice none 0 0] 31) = y1 at *
                refine wpAnyH_ready (rs := [2]) (by kernel_rfl) (by simp) ?_
                refine AllReadyH.cons (o := { dst := some 91, op := Go.Op.call { callee := Go.Callee.value (Go.Operand.func 6), args := #[Go.Operand.tmp 90], argTypes := #[26] }, type := 31, pos := "outright.go:166", after := #[{ on := 1, ground := Go.Ground.data }], guard := none }) rfl (fun K hK => ?_) AllReadyH.nil
                go_simp
                go_at_call 6
                refine (to_any y1 _ _ _ ⟨_, _, _, rfl⟩ ⟨_, _, _, rfl⟩ ⟨_, _, _, rfl⟩).mono ?_
                rintro e y2 ⟨rfl, bt⟩
                have C2 := hide (chain C1.out bt)
                have BTT := hide bt
                clear bt
                try go_wp2_with fail
                refine hK.out _ _ (H3.out _ C2.out) (fun hHeld2 => ?_)
                clear hK K hHeld
                have hHeld := hHeld2
                clear hHeld2
                try simp only [Act.put, List.setIfInBounds_toArray, List.set_cons_zero, List.set_cons_succ]
                refine wpAnyH_ready (rs := [5]) (by kernel_rfl) (by simp) ?_
                refine AllReadyH.cons (o := { dst := some 94, op := Go.Op.call { callee := Go.Callee.value (Go.Operand.func 9), args := #[Go.Operand.tmp 91, Go.Operand.tmp 93], argTypes := #[31, 3] }, type := 34, pos := "outright.go:166", after := #[{ on := 2, ground := Go.Ground.data }, { on := 4, ground := Go.Ground.data }, { on := 2, ground := Go.Ground.chain }], guard := none }) rfl (fun K hK => ?_) AllReadyH.nil
                go_simp
                go_at_call 9
                refine (yield_any (HE5.out.below C2.out) pa pn pc l (HP.out.below (chain B5.out C2.out)) ra rn rc r (HR.out.below (chain B5.out C2.out)) ta tn tc t (HT.out.below (chain B5.out C2.out)) hmp hmr hmt (k : Int)).mono ?_
                rintro e y3 ⟨b1, m1, d1, b2, m2, d2, b3, m3, d3, v, rfl, hbare, htab, bi⟩
                rw [show ofE (Good l r t) (OkP l (k : Int) [1]) = 0 from (if_pos HOK.out.1).trans (if_pos HOK.out.2)] at hbare
                rw [show ownT (Good l r t ∧ OkP l (k : Int) [1]) l = l from if_pos HOK.out, show ownT (Good l r t ∧ OkP l (k : Int) [1]) (yldR r (k : Int)) = yldR r (k : Int) from if_pos HOK.out, show ownT (Good l r t ∧ OkP l (k : Int) [1]) t = t from if_pos HOK.out] at htab
                obtain rfl := bare0 hbare
                have HRES : Hid (Tab y3 y2.heap.size (.slice b1 m1 d1) (.slice b2 m2 d2) (.slice b3 m3 d3) l (yldR r (k : Int)) t) := htab
                have C3 := hide (chain C2.out bi)
                have BI := hide bi
                clear bi htab hbare
                try go_wp2_with fail
                refine hK.out _ _ (H3.out _ C3.out) (fun hHeld2 => ?_)
                clear hK K hHeld
                have hHeld := hHeld2
                clear hHeld2
                try simp only [Act.put, List.setIfInBounds_toArray, List.set_cons_zero, List.set_cons_succ]
                refine wpAnyH_take (i := 6) (oi := { dst := some 88, op := Go.Op.move (Go.Operand.tmp 94), type := 34, pos := "outright.go:166", after := #[{ on := 5, ground := Go.Ground.data }], guard := none }) (v := ?_) rfl (by kernel_rfl) (by kernel_rfl) (by kernel_rfl) (fun _ _ _ h => h) (Or.inl ⟨by rfl, ?_⟩) (by assumption) ?_
                rotate_left
                · intro wq hSw
                  try dsimp only at hSw
                  go_split_ands
                  go_simp
                  try with_reducible rfl
                try simp only [Act.put, List.setIfInBounds_toArray, List.set_cons_zero, List.set_cons_succ]
                refine wpAnyH_take (i := 7) (oi := { dst := some 95, op := Go.Op.extract (Go.Operand.tmp 88) 0, type := 31, pos := "outright.go:166", after := #[{ on := 6, ground := Go.Ground.data }], guard := none }) (v := ?_) rfl (by kernel_rfl) (by kernel_rfl) (by kernel_rfl) (fun _ _ _ h => h) (Or.inl ⟨by rfl, ?_⟩) (by assumption) ?_
                rotate_left
                · intro wq hSw
                  try dsimp only at hSw
                  go_split_ands
                  go_simp
                  try with_reducible rfl
                try simp only [Act.put, List.setIfInBounds_toArray, List.set_cons_zero, List.set_cons_succ]
                refine wpAnyH_take (i := 8) (oi := { dst := some 96, op := Go.Op.extract (Go.Operand.tmp 88) 1, type := 33, pos := "outright.go:166", after := #[{ on := 6, ground := Go.Ground.data }, { on := 10, ground := Go.Ground.gcOnly Go.Departure.lateStores }], guard := none }) (v := ?_) rfl (by kernel_rfl) (by kernel_rfl) (by kernel_rfl) (fun _ _ _ h => h) (Or.inl ⟨by rfl, ?_⟩) (by assumption) ?_
                rotate_left
                · intro wq hSw
                  try dsimp only at hSw
                  go_split_ands
                  go_simp
                  try with_reducible rfl
                try simp only [Act.put, List.setIfInBounds_toArray, List.set_cons_zero, List.set_cons_succ]
                refine wpAnyH_ready (rs := [10]) (by kernel_rfl) (by simp) ?_
                refine AllReadyH.cons (o := { dst := none, op := Go.Op.store 31 (Go.Operand.tmp 13) (Go.Operand.tmp 95), type := 0, pos := "outright.go:166", after := #[{ on := 9, ground := Go.Ground.data }, { on := 7, ground := Go.Ground.data }, { on := 5, ground := Go.Ground.chain }, { on := 0, ground := Go.Ground.phase }, { on := 1, ground := Go.Ground.phase }, { on := 2, ground := Go.Ground.phase }, { on := 3, ground := Go.Ground.phase }, { on := 4, ground := Go.Ground.phase }, { on := 5, ground := Go.Ground.phase }, { on := 6, ground := Go.Ground.phase }, { on := 7, ground := Go.Ground.phase }, { on := 8, ground := Go.Ground.textOnly Go.Departure.lateStores }, { on := 9, ground := Go.Ground.phase }], guard := none }) rfl (fun K hK => ?_) AllReadyH.nil
                have NBF := ((NB.out.below (by have := ZB.out; omega) BTT.out).below (by have := ZB.out; have := BTT.out.size; omega) BI.out)
                have g0 := NBF.cell 0 _ rfl
                have f0 := NBF.free 0
                have g1 := NBF.cell 1 _ rfl
                have f1 := NBF.free 1
                have g2 := NBF.cell 2 _ rfl
                have f2 := NBF.free 2
                go_simp
                try go_wp2_with fail
                clear g0 g1 g2 f0 f1 f2
                have FX := hide (bl_three NBF (.slice b1 m1 d1) (.slice b2 m2 d2) (.slice b3 m3 d3))
                have FB : Hid (Below w5.heap.size w5 (((y3.setCell ⟨Y0.heap.size, 0, none⟩ (.slice b1 m1 d1)).setCell ⟨Y0.heap.size, 1, none⟩ (.slice b2 m2 d2)).setCell ⟨Y0.heap.size, 2, none⟩ (.slice b3 m3 d3))) := below3 (.slice b1 m1 d1) (.slice b2 m2 d2) (.slice b3 m3 d3) C3.out (C0.out.size)
                have FR : Hid (Tab (((y3.setCell ⟨Y0.heap.size, 0, none⟩ (.slice b1 m1 d1)).setCell ⟨Y0.heap.size, 1, none⟩ (.slice b2 m2 d2)).setCell ⟨Y0.heap.size, 2, none⟩ (.slice b3 m3 d3)) w5.heap.size (.slice b1 m1 d1) (.slice b2 m2 d2) (.slice b3 m3 d3) l (yldR r (k : Int)) t) := (by have h := HRES.out; exact (h.three (by have := ZB.out; have := BTT.out.size; omega) _ _ _).weaken C2.out.size)
                have FZ : Hid (Y0.heap.size < (((y3.setCell ⟨Y0.heap.size, 0, none⟩ (.slice b1 m1 d1)).setCell ⟨Y0.heap.size, 1, none⟩ (.slice b2 m2 d2)).setCell ⟨Y0.heap.size, 2, none⟩ (.slice b3 m3 d3)).heap.size) := block_lt_of_cell (FX.out.cell 0 _ rfl)
                clear NBF HRES
                refine hK.out _ _ (H3.out _ FB.out) (fun hHeld2 => ?_)
                clear hK K hHeld
                have hHeld := hHeld2
                clear hHeld2
                generalize (((y3.setCell ⟨Y0.heap.size, 0, none⟩ (.slice b1 m1 d1)).setCell ⟨Y0.heap.size, 1, none⟩ (.slice b2 m2 d2)).setCell ⟨Y0.heap.size, 2, none⟩ (.slice b3 m3 d3)) = WF at *
                try simp only [Act.put, List.setIfInBounds_toArray, List.set_cons_zero, List.set_cons_succ]
                refine wpAnyH_take (i := 11) (oi := { dst := some 14, op := Go.Op.assign (Go.Operand.tmp 96), type := 33, pos := "outright.go:166", after := #[{ on := 8, ground := Go.Ground.data }, { on := 10, ground := Go.Ground.chain }, { on := 0, ground := Go.Ground.phase }, { on := 1, ground := Go.Ground.phase }, { on := 2, ground := Go.Ground.phase }, { on := 3, ground := Go.Ground.phase }, { on := 4, ground := Go.Ground.phase }, { on := 5, ground := Go.Ground.phase }, { on := 6, ground := Go.Ground.phase }, { on := 7, ground := Go.Ground.phase }, { on := 8, ground := Go.Ground.phase }, { on := 9, ground := Go.Ground.phase }, { on := 10, ground := Go.Ground.phase }], guard := none }) (v := ?_) rfl (by kernel_rfl) (by kernel_rfl) (by kernel_rfl) (fun _ _ _ h => h) (Or.inl ⟨by rfl, ?_⟩) (by assumption) ?_
                rotate_left
                · intro wq hSw
                  try dsimp only at hSw
                  go_split_ands
                  go_simp
                  try with_reducible rfl
                try simp only [Act.put, List.setIfInBounds_toArray, List.set_cons_zero, List.set_cons_succ]
                refine wpAnyH_done (by kernel_rfl) ?_ _
                go_wp2
                go_meet
                case rel => exact ⟨_, _, _, _, _, _, _, _, _, _, rfl, rfl, FX.out, FR.out, FB.out, C0.out.size, FZ.out⟩
            case rest =>
              obtain ⟨gy, b1, m1, d1, b2, m2, d2, b3, m3, d3, rfl, rfl, hby, hty, hb6, hg1, hg2⟩ := hcut
              rename World => w6
              have NB6 := hide (NB5.out.below HL5.out hb6)
              have HL6 : Hid (w.heap.size < w6.heap.size) := Nat.lt_of_lt_of_le HL5.out hb6.size
              have B6 := hide (chain B5.out hb6)
              have HYB := hide hby
              have HYZ := hide hg2
              have HYL := hide (tab_lists hty)
              have HUB6 := hide (HUB.out.below HUZ.out hb6)
              have HUZ6 : Hid (ub < w6.heap.size) := Nat.lt_of_lt_of_le HUZ.out hb6.size
              have HUL6 : Hid (Pros w6 ua1 un1 uc1 _ ∧ Is w6 ua2 un2 uc2 _ ∧ Tms w6 ua3 un3 uc3 _) := ⟨HUL.out.1.below hb6, HUL.out.2.1.below hb6, HUL.out.2.2.below hb6⟩
              have HM1 : Hid (m1 = l.length) := HYL.out.1.size.symm
              have hm1 : m1 ≤ 8 := by have := HM1.out; have := HOK.out.1.1; omega
              clear hby hty hb6 hg1 hg2 NB5 HL5 HUB HUZ HUL HE5
              have N3 := NB6.out.cell 3 _ rfl
              have y0 := HYB.out.cell 0 _ rfl
              have dk0 : decide ((k : Int) < 0) = false := decide_eq_false (by omega)
              have dk1 : decide ((m1 : Int) ≤ (k : Int)) = false := decide_eq_false (by have := HM1.out; have := HKL.out; omega)
              have dk2 : decide (m1 ≤ k) = false := decide_eq_false (by have := HM1.out; have := HKL.out; omega)
              have dk3 : k < m1 := by have := HM1.out; have := HKL.out; omega
              have HIP := hide infoProc
              have BE := hide (new_below w6 (.cells #[] 42))
              have y0e := (HYB.out.below HYZ.out BE.out).cell 0 _ rfl
              go_upto_region 26 with (at_builtin; refine append_list rfl (.tmp 116) (.tmp 118) 22 42 rfl Tryd.underlying22 HIP.out (by decide) w6.heap.size _ 0 [] rfl (World.ownsRow_lit w6 #[] 0 (Nat.le_refl _) (by decide) rfl) b1 m1 d1 (l.flatMap Pro.cells) rfl ((HYL.out.1.below BE.out).row) (pro_one l) (by unfold maxLen; omega) (by omega) BE.out.size ?_; intro v7 w7 h7 b7; have h8 : PrOwn w7 w6.heap.size v7 l := (by rw [List.nil_append, Nat.zero_add, ← HYL.out.1.size] at h7; exact h7); have B67 := hide (BE.out.trans b7); obtain ⟨g, c, rfl, hg1, hg2, hcl, hfr, hput⟩ := prown_put h8 HKQ.out; have z1 := hcl 1 _ rfl; have zf := hfr (k * 21 + 1); have HGB := hide hg1; have HGL := hide hg2; have HPUT := hide (hput 1 { q with r1 := x } (.int .u32 x) (by decide) rfl); clear h7 b7 h8 hg1 hg2 hput hcl hfr)
              have NB7 := hide (NB6.out.below HL6.out B67.out)
              have N3 := NB7.out.cell 3 _ rfl
              have N10 := NB7.out.cell 10 _ rfl
              have hk1 : (k : Int) < (l.length : Int) := by have := HKL.out; omega
              have hk0 : (0 : Int) ≤ (k : Int) := by omega
              have M3 : (w7.setCell ⟨g, k * 21 + 1, none⟩ (.int .u32 x)).cell? ⟨w.heap.size, 3, none⟩ = some (.int .i64 (k : Int)) := by
                rw [World.cell?_setCell_other _ _ _ _ (fun e => by have := congrArg Addr.block e; simp only at this; have := HGB.out; have := HL6.out; omega)]; exact N3
              have M10 : (w7.setCell ⟨g, k * 21 + 1, none⟩ (.int .u32 x)).cell? ⟨w.heap.size, 10, none⟩ = some (.int .u32 x) := by
                rw [World.cell?_setCell_other _ _ _ _ (fun e => by have := congrArg Addr.block e; simp only at this; have := HGB.out; have := HL6.out; omega)]; exact N10
              go_region_held3 (fun wz => wz.cell? ⟨w.heap.size, 3, none⟩ = some (.int .i64 (k : Int)) ∧ wz.cell? ⟨w.heap.size, 10, none⟩ = some (.int .u32 x))
                (first | exact ⟨N3, N10⟩ | exact ⟨M3, M10⟩)
                (first | fail)
              have B68 := hide ((B67.out.setCell (p := ⟨g, k * 21 + 1, none⟩) HGB.out (.int .u32 x)).drew)
              have HZ8 : Hid (PrOwn (w7.setCell ⟨g, k * 21 + 1, none⟩ (.int .u32 x)).drew w6.heap.size (.slice (some ⟨g, 0, none⟩) l.length c) (l.set k { q with r1 := x })) := ownsRow_below HPUT.out (Below.refl _ _).drew
              clear N3 N10 M3 M10 z1 zf hk0 hk1 NB7 HPUT HGB HGL B67 dk0 dk1 dk2 dk3 y0 y0e
              go_upto_region 27 with fail
              generalize (w7.setCell ⟨g, k * 21 + 1, none⟩ (.int .u32 x)).drew = w8 at *
              have HU1 : Hid (Pros w8 ua1 un1 uc1 (l.set k { q with r1 := x })) := by
                have h := HUL6.out.1.below B68.out
                rw [HWB.out] at h
                exact h
              have HU2 : Hid (Is w8 ua2 un2 uc2 (yldR r (k : Int))) := HUL6.out.2.1.below B68.out
              have HU3 : Hid (Tms w8 ua3 un3 uc3 t) := by
                have h := HUL6.out.2.2.below B68.out
                rw [show others (Rb.blkT t (k : Int) du) (k : Int) = t from HDB.out] at h
                exact h
              have HV1 : Hid (Pros w8 (some ⟨g, 0, none⟩) l.length c (l.set k { q with r1 := x })) := by
                obtain ⟨a, cc, e, h⟩ := prown_pros HZ8.out
                simp only [Value.slice.injEq, List.length_set] at e
                obtain ⟨rfl, -, rfl⟩ := e
                rw [List.length_set] at h
                exact h
              have HV2 : Hid (Is w8 b2 m2 d2 (yldR r (k : Int))) := HYL.out.2.1.below B68.out
              have HV3 : Hid (Tms w8 b3 m3 d3 t) := HYL.out.2.2.below B68.out
              have HUB8 := hide (HUB6.out.below HUZ6.out B68.out)
              have HUZ8 : Hid (ub < w8.heap.size) := Nat.lt_of_lt_of_le HUZ6.out B68.out.size
              have HYB8 := hide (HYB.out.below HYZ.out B68.out)
              have HYZ8 : Hid (gy < w8.heap.size) := Nat.lt_of_lt_of_le HYZ.out B68.out.size
              have B8 := hide (chain B6.out B68.out)
              obtain rfl : un1 = l.length := by have := HU1.out.size; rw [List.length_set] at this; exact this.symm
              obtain rfl : m2 = un2 := by rw [← HV2.out.size, ← HU2.out.size]
              obtain rfl : m3 = un3 := by rw [← HV3.out.size, ← HU3.out.size]
              have HQ : Hid (l.length ≤ 8 ∧ m2 ≤ 9 ∧ m3 ≤ 8) := by
                have h1 := HGD.out.1
                have h2 := goodR_few HGD.out.2.2.1 HGD.out.1
                have h3 := HGD.out.tfew
                have s2 := HV2.out.size
                have s3 := HV3.out.size
                have h4 : (outOf r (k : Int)).length ≤ r.length := List.length_filter_le _ _
                simp only [yldR, List.length_append, List.length_cons, List.length_nil] at s2
                exact ⟨h1, by omega, by omega⟩
              clear HUL6 HYL HZ8 HUB6 HUZ6 HYB HYZ B68
              have HW := hide (Below.refl w8.heap.size w8)
              go_region_held3 (fun wz => wz.cell? ⟨ub, 0, none⟩ = some (.slice ua1 l.length uc1) ∧ wz.cell? ⟨ub, 1, none⟩ = some (.slice ua2 m2 uc2) ∧ wz.cell? ⟨ub, 2, none⟩ = some (.slice ua3 m3 uc3) ∧ wz.cell? ⟨gy, 1, none⟩ = some (.slice b2 m2 d2) ∧ wz.cell? ⟨gy, 2, none⟩ = some (.slice b3 m3 d3))
                (first | exact held5 HUB8.out HUZ8.out HYB8.out HYZ8.out HW.out | exact held5 HUB8.out HUZ8.out HYB8.out HYZ8.out HW.out.drew)
                (first
                  | (go_at_call 11; refine (from_any _ _ _ _ ⟨_, _, _, rfl⟩ ⟨_, _, _, rfl⟩ ⟨_, _, _, rfl⟩).mono ?_; rintro e wf ⟨rfl, bf⟩; have HW := hide (chain HW.out (by first | exact bf | exact undrewB bf)); clear bf)
                  | (go_at_call 10; refine (requal_same _ ua1 l.length uc1 _ (HU1.out.below HW.out) ua2 m2 uc2 _ (HU2.out.below HW.out) ua3 m3 uc3 _ (HU3.out.below HW.out) (some ⟨g, 0, none⟩) c (HV1.out.below HW.out) b2 d2 (HV2.out.below HW.out) b3 d3 (HV3.out.below HW.out) (by have := HQ.out.1; omega) (by have := HQ.out.2.1; omega) (by have := HQ.out.2.2; omega)).mono ?_; rintro e wq ⟨rfl, bf⟩; have HW := hide (chain HW.out (by first | exact bf | exact undrewB bf)); clear bf)
                  | fail)
              have B9 := hide (chain B8.out HW.out)
              go_wp2
              go_ret
              exact ⟨rfl, B9.out⟩
namespace readyBlocks
open Classical
theorem law (pa : Option Addr) (pn pc : Nat) (l : List Pro) (ra : Option Addr) (rn rc : Nat) (r : List Int) (ta : Option Addr) (tn tc : Nat) (t : List Tm) (p wt ob du pr st nw x : Int) (w : World) {E : Nat → Addr} (he : Er9 w E) (hp : Pros w pa pn pc l) (hr : Is w ra rn rc r) (ht : Tms w ta tn tc t) (hmp : pn ≤ 9223372036854775807) (hmr : rn ≤ 9223372036854775807) (hmt : tn ≤ 9223372036854775807) :
    Calls Tryd.prog 3 #[.agg #[.slice pa pn pc, .slice ra rn rc, .slice ta tn tc, .int .i64 p, .int .i64 wt, .int .i64 ob, .int .i64 du, .int .i64 pr, .int .i64 st, .int .i64 nw, .int .u32 x]] w fun e w' => e = .returned (.bool true) ∧ Below w.heap.size w w' :=
  blocks_law pa pn pc l ra rn rc r ta tn tc t p wt ob du pr st nw x w he hp hr ht hmp hmr hmt
end readyBlocks
end Go.Proofs.YthbcfhnpefeggaaDoor
