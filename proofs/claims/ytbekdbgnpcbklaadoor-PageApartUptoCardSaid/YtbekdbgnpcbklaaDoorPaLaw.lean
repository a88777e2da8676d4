/-
  What the law PageApart keeps: lists of pages of one's own that share no block, a list with room behind it.
-/
import Derived.Test.YtbekdbgnpcbklaaDoorPaApart
namespace Go.Proofs.YtbekdbgnpcbklaaDoor
open Go.RowKit FerryCrc
set_option linter.unusedVariables false
set_option linter.unusedSimpArgs false

/-- Lists of one's own that share no block. -/
structure Five (w : World) (B : Nat) (LL : List Sl) (MM : List (List Pg)) : Prop where
  all : ∀ (j : Nat) (s : Sl), LL[j]? = some s → ∃ m, MM[j]? = some m ∧ POwn w B s.v m ∧ Oks m ∧ m.length = s.n
  apt : Apt LL
theorem Five.nil (w : World) (B : Nat) : Five w B [] [] := ⟨fun j s hs => by simp at hs, fun i j s t g hs => by simp at hs⟩
theorem Five.below {w w' : World} {B : Nat} {LL : List Sl} {MM : List (List Pg)} (h : Five w B LL MM) (hb : Below w.heap.size w w') : Five w' B LL MM :=
  ⟨fun j s hs => by obtain ⟨m, h1, h2, h3, h4⟩ := h.all j s hs; exact ⟨m, h1, h2.below hb, h3, h4⟩, h.apt⟩
theorem Five.snoc {w w' : World} {B : Nat} {LL : List Sl} {MM : List (List Pg)} (h : Five w B LL MM) (hl : LL.length = MM.length) (hb : Below w.heap.size w w') (hB : B ≤ w.heap.size) {v : Value} {m : List Pg} (ho : POwn w' w.heap.size v m) (ok : Oks m) (hm : m.length ≤ 1759218604391) : ∃ a c, v = .slice a m.length c ∧ Five w' B (LL ++ [⟨a, m.length, c⟩]) (MM ++ [m]) := by
  obtain ⟨a, c, rfl, ht, _⟩ := ho.pgs ok hm
  refine ⟨a, c, rfl, ⟨fun j s hs => ?_, fun i j s t g hs ht hg hg' => ?_⟩⟩
  · by_cases hj : j < LL.length
    · rw [List.getElem?_append_left hj] at hs
      obtain ⟨m', h1, h2, h3, h4⟩ := h.all j s hs
      exact ⟨m', by rw [List.getElem?_append_left (by omega)]; exact h1, h2.below hb, h3, h4⟩
    · rw [List.getElem?_append_right (by omega)] at hs
      have hj0 : j - LL.length = 0 := by
        have := (List.getElem?_eq_some_iff.1 hs).1
        simp at this
        omega
      rw [hj0] at hs
      simp only [List.getElem?_cons_zero, Option.some.injEq] at hs
      subst hs
      exact ⟨m, by rw [List.getElem?_append_right (by omega), show j - MM.length = 0 by omega]; rfl, ho.weaken hB, ok, rfl⟩
  · have old : ∀ (k : Nat) (r : Sl), k < LL.length → (LL ++ [⟨a, m.length, c⟩])[k]? = some r → r.v.ownBlock = some g → g < w.heap.size := fun k r hk hr hgr => by
      rw [List.getElem?_append_left hk] at hr
      obtain ⟨m', _, h2, _, _⟩ := h.all k r hr
      exact (World.ownsRow.lt h2 g hgr).2
    have new : ∀ (k : Nat) (r : Sl), ¬ k < LL.length → (LL ++ [⟨a, m.length, c⟩])[k]? = some r → r.v.ownBlock = some g → w.heap.size ≤ g ∧ k = LL.length := fun k r hk hr hgr => by
      have hk1 := (List.getElem?_eq_some_iff.1 hr).1
      simp at hk1
      have hk2 : k = LL.length := by omega
      rw [List.getElem?_append_right (by omega), hk2, Nat.sub_self] at hr
      simp only [List.getElem?_cons_zero, Option.some.injEq] at hr
      subst hr
      exact ⟨(World.ownsRow.lt ho g hgr).1, hk2⟩
    by_cases hi : i < LL.length
    · by_cases hj : j < LL.length
      · rw [List.getElem?_append_left hi] at hs
        rw [List.getElem?_append_left hj] at ht
        exact h.apt i j s t g hs ht hg hg'
      · have h1 := old i s hi hs hg
        have h2 := (new j t hj ht hg').1
        omega
    · by_cases hj : j < LL.length
      · have h1 := old j t hj ht hg'
        have h2 := (new i s hi hs hg).1
        omega
      · rw [(new i s hi hs hg).2, (new j t hj ht hg').2]
theorem Five.pgs {w : World} {B : Nat} {LL : List Sl} {MM : List (List Pg)} (h : Five w B LL MM) (j : Nat) {a : Option Addr} {n c : Nat} {m : List Pg} (hs : LL[j]? = some ⟨a, n, c⟩) (hm : MM[j]? = some m) (hb : m.length ≤ 1759218604391) : Pgs w a n c m := by
  obtain ⟨m', h1, h2, h3, h4⟩ := h.all j _ hs
  rw [hm] at h1
  obtain rfl := Option.some.inj h1
  obtain ⟨a', c', e, ht, _⟩ := h2.pgs h3 hb
  simp only [Sl.v, Value.slice.injEq] at e
  obtain ⟨rfl, e2, rfl⟩ := e
  rw [e2]
  exact ht
theorem Five.lists {w : World} {B : Nat} {LL : List Sl} {MM : List (List Pg)} (h : Five w B LL MM) : Lists w B LL (fun j => (MM[j]?).getD []) :=
  ⟨fun j s hs => by obtain ⟨m, h1, h2, h3, h4⟩ := h.all j s hs; show POwn w B s.v ((MM[j]?).getD []); rw [h1]; exact h2, fun j s hs => by obtain ⟨m, h1, h2, h3, h4⟩ := h.all j s hs; show Oks ((MM[j]?).getD []); rw [h1]; exact h3, fun j s hs => by obtain ⟨m, h1, h2, h3, h4⟩ := h.all j s hs; show ((MM[j]?).getD []).length = s.n; rw [h1]; exact h4⟩
theorem Five.lt {w : World} {B : Nat} {LL : List Sl} {MM : List (List Pg)} (h : Five w B LL MM) {s : Sl} (hs : s ∈ LL) {g : Nat} (hg : s.v.ownBlock = some g) : B ≤ g ∧ g < w.heap.size := by
  obtain ⟨j, hj⟩ := List.mem_iff_getElem?.1 hs
  obtain ⟨m, _, h2, _⟩ := h.all j s hj
  exact World.ownsRow.lt h2 g hg
/-- Nine pages of nothing. -/
def z9 : List Pg := List.replicate 9 (pk 0)
theorem z9_ok : Oks z9 := fun p hp => by rw [List.eq_of_mem_replicate hp]; exact pk_ok 0 (by decide) (by decide)
theorem z9_drop (k : Nat) : (flat (List.replicate (k + 9) (pk 0))).drop (k * 66) = flat z9 := by
  have h : List.replicate (k + 9) (pk 0) = List.replicate k (pk 0) ++ z9 := by unfold z9; rw [List.replicate_append_replicate]
  have ok : Oks (List.replicate k (pk 0)) := fun p hp => by rw [List.eq_of_mem_replicate hp]; exact pk_ok 0 (by decide) (by decide)
  have hf : flat (List.replicate k (pk 0) ++ z9) = flat (List.replicate k (pk 0)) ++ flat z9 := by simp [flat]
  rw [h, hf, List.drop_left' (by rw [flat_len ok, List.length_replicate])]
theorem copy9 {w : World} {base g len cap : Nat} {a : Option Addr} {l : List Pg} (ho : POwn w base (.slice (some ⟨g, 0, none⟩) (len + 9) (len + 9)) (List.replicate (len + 9) (pk 0))) (hs : Pgs w a len cap l) (ty : TypeId) :
    ∃ w2, Sem.run Tryd.prog (Builtin.copy_ #[22, 22] ty #[.slice (some ⟨g, 0, none⟩) (len + 9) (len + 9), .slice a len cap]) w = .ok (.int .i64 (len : Int)) w2 ∧ POwn w2 base (.slice (some ⟨g, 0, none⟩) (len + 9) (len + 9)) (l ++ z9) ∧ Below g w w2 := by
  cases a with
  | none =>
    obtain ⟨rfl, rfl⟩ := hs.null rfl
    obtain rfl : l = [] := List.length_eq_zero_iff.1 hs.size
    exact ⟨w, run_copy_nil w _ _ _ 59 _ _ _ 66 Tryd.underlying22 sizePage, ho, Below.refl _ _⟩
  | some ad =>
    obtain ⟨h1, h2⟩ := ho
    rcases h2 with ⟨e, _⟩ | ⟨g', cap', cur, e, hg, hh, hnc, hcm, hcs, htake⟩
    · simp at e
    rw [List.length_replicate] at e hnc htake
    simp only [Value.slice.injEq, Option.some.injEq, Addr.mk.injEq, and_true, true_and] at e
    obtain ⟨rfl, rfl⟩ := e
    have hfl := flat_len hs.ok
    rw [hs.size] at hfl
    have hmin : Nat.min len (len + 9) = len := Nat.min_eq_left (by omega)
    have hcl : cur.toList = flat (List.replicate (len + 9) (pk 0)) := by
      rw [← htake, List.take_of_length_le (by rw [Array.length_toList, hcs]; exact Nat.le_refl _)]
    have hrun := run_copy_wide (P := Tryd.prog) w 22 22 ty 59 g 0 (len + 9) (len + 9) ad len cap cur 59 (flat l) 66 Tryd.underlying22 sizePage hh (by rw [hfl, hmin]) hs.flat_cells (by omega) (flat_one l)
    rw [hmin] at hrun
    have hz : (l ++ z9).length = len + 9 := by rw [List.length_append, hs.size]; rfl
    have okA : Oks (l ++ z9) := fun q hq => by
      rcases List.mem_append.1 hq with h | h
      · exact hs.ok q h
      · exact z9_ok q h
    refine ⟨_, hrun, ?_, below_setRow (Nat.le_refl _) _ (Below.refl _ _)⟩
    have hnew : (List.take 0 cur.toList ++ flat l ++ cur.toList.drop (0 + (flat l).length)) = flat (l ++ z9) := by
      rw [List.take_zero, List.nil_append, Nat.zero_add, hfl, hcl, z9_drop]
      simp [flat]
    refine ⟨by rw [flat_len okA], .inr ⟨g, len + 9, _, by rw [hz], hg, setRow_heap w g cur _ _ (0, 0) hh, by rw [hz]; exact Nat.le_refl _, hcm, ?_, ?_⟩⟩
    · rw [hnew, List.size_toArray, flat_len okA, hz]
    · rw [hnew, hz, List.take_of_length_le (by rw [flat_len okA, hz]; exact Nat.le_refl _)]
theorem four_row (w : World) (s0 s1 s2 s3 : Sl) (t : TypeId) : Rcs Sl.cell 1 (w.alloc (.cells #[s0.v, s1.v, s2.v, s3.v] t)) (some ⟨w.heap.size, 0, none⟩) 4 4 [s0, s1, s2, s3] :=
  ⟨rfl, rfl, by decide, fun e => by simp at e, fun j v hv => ⟨w.heap.size, 0, rfl, by
    rw [Nat.zero_add]
    match j, hv with
    | 0, hv => exact (World.cell?_alloc_at _ _ _ _ rfl).trans hv
    | 1, hv => exact (World.cell?_alloc_at _ _ _ _ rfl).trans hv
    | 2, hv => exact (World.cell?_alloc_at _ _ _ _ rfl).trans hv
    | 3, hv => exact (World.cell?_alloc_at _ _ _ _ rfl).trans hv
    | (j + 4), hv => simp [Sl.cell] at hv⟩⟩
theorem alloc_lt (w : World) (o : Obj) : w.heap.size < (w.alloc o).heap.size := by
  unfold World.alloc
  first | (simp only [Array.size_push]; omega) | simp
theorem own_unt {U : Nat → Prop} {w w' : World} {base : Nat} {e : TypeId} {sz n : Nat} {v : Value} {xs : List Value} (h : w.ownsRow base e sz v n xs) (hb : Unt U w w') (hU : ∀ g, v.ownBlock = some g → U g) : w'.ownsRow base e sz v n xs :=
  ownsRow_block h (fun g hg => hb.block g (hU g hg))
theorem cell_unt {U : Nat → Prop} {w w' : World} {b o : Nat} {v : Value} (h : w.cell? ⟨b, o, none⟩ = some v) (hb : Unt U w w') (hU : U b) : w'.cell? ⟨b, o, none⟩ = some v := by
  rw [World.cell?_of_block (a := ⟨b, o, none⟩) (hb.block b hU)]
  exact h
/-- A page with one byte and the mark changed. -/
def turn (k : Nat) (p : Pg) : Pg := ⟨p.rights, !p.dirty, p.data.set (k + 3) ((p.data.getD (k + 3) 0 + 1) % 256)⟩
theorem turn_ok {p : Pg} (h : p.Ok) (k : Nat) : (turn k p).Ok := ⟨h.lo, h.hi, by simp [turn, h.size], fun c hc => by
  rcases List.mem_or_eq_of_mem_set hc with h1 | rfl
  · exact h.small c h1
  · omega⟩
theorem wpList_load_g {P : Program} {ops : Array Oper} {rest : List Oper} {op : Oper} {a : Act} {w : World} {Q : Exit → Act → World → Prop} (hw : Region.wanted op (yielded ops a.tmps) = true) (ty : TypeId) (x : Operand) (ho : op.op = .load ty x)
    (b o : Nat) (hx : a.eval x = .pointer (some ⟨b, o, none⟩)) (cs : List Value) (d : TypeDesc) (hc : w.rangeAt b o cs) (hu : P.underlying ty = some d) (hd : d.isRow = true) (hi : (P.info? ty).map (·.size) = some cs.length)
    (h : wpList P ops Q rest (a.put op.dst (.agg cs.toArray)) w) : wpList P ops Q (op :: rest) a w :=
  wpList_step fun K hK => by rw [if_pos hw]; exact wp_load_mid ty x ho b o hx cs d hc hu hd hi (hK _ _ h)
theorem wpList_run_g {P : Program} {ops : Array Oper} {rest : List Oper} {op : Oper} {a : Act} {w : World} {Q : Exit → Act → World → Prop} (hw : Region.wanted op (yielded ops a.tmps) = true) (v : Value) (hrun : (execOp a.eval op).run P w = .ok (.value v) w)
    (h : wpList P ops Q rest (a.put op.dst v) w) : wpList P ops Q (op :: rest) a w :=
  wpList_step fun K hK => by
    rw [if_pos hw]
    unfold Oper.wp
    rw [hrun]
    exact hK _ _ h
theorem neq_pg {p : Pg} (hp : p.Ok) (ev : Operand → Value) (x y : Operand) (hx : ev x = .agg p.cells.toArray) (hy : ev y = .agg p.cells.toArray) (o : Oper) (t : TypeId) (ho : o.op = .binOp .neq 59 x y t) (w : World) : (execOp ev o).run Tryd.prog w = .ok (.value (.bool false)) w := by
  unfold execOp
  simp only [ho, hx, hy, Sem.run_bind, run_eqGuard_agg _ _ _ _ _ _ _ (show Tryd.prog.eqGuardType Tryd.prog.depth 59 = false by kernel_rfl), Result.andThen_ok, neq_page hp]
  rfl
theorem z9_at {w : World} {base g n cap r : Nat} {l : List Pg} (h : POwn w base (.slice (some ⟨g, 0, none⟩) n cap) (l ++ z9)) (ok : Oks l) {len : Nat} (hl : l.length = len) (h0 : len ≤ r) (h1 : r < len + 9) : w.rangeAt g (r * 66) (pk 0).cells := by
  have okA : Oks (l ++ z9) := fun q hq => by
    rcases List.mem_append.1 hq with h | h
    · exact ok q h
    · exact z9_ok q h
  have hL : (l ++ z9).length = len + 9 := by rw [List.length_append, hl]; rfl
  have hp : (l ++ z9)[r]? = some (pk 0) := by
    rw [List.getElem?_append_right (by omega), hl]
    unfold z9
    rw [List.getElem?_replicate, if_pos (by omega)]
  have hn : n = len + 9 := by
    rcases h.2 with ⟨e, _⟩ | ⟨g', cap', cur, e, _⟩
    · simp at e
    · simp only [Value.slice.injEq] at e
      omega
  have h' : w.ownsRow base 59 66 (.slice (some ⟨g, 0, none⟩) n cap) n (flat (l ++ z9)) := by
    have h2 := h
    unfold POwn at h2
    rw [hL, ← hn] at h2
    exact h2
  intro j v hv
  have hj : j < 66 := by
    have := (List.getElem?_eq_some_iff.1 hv).1
    rw [(pk_ok 0 (by decide) (by decide)).cells] at this
    exact this
  rw [World.ownsRow.cellAt h' (r * 66 + j) (by omega), flat_get okA j hp hj]
  exact hv
/-- The cells of the law's record. -/
structure Bx (w : World) (p : Nat) (sz : Int) (ad vv : Nat) (D : List Nat) : Prop where
  c1 : w.cell? ⟨p, 1, none⟩ = some (.int .i64 sz)
  c2 : w.cell? ⟨p, 2, none⟩ = some (.int .u32 (ad : Int))
  c3 : w.cell? ⟨p, 3, none⟩ = some (.int .u32 (vv : Int))
  c4 : w.cell? ⟨p, 4, none⟩ = some (.string (str D))
theorem Bx.below {w w' : World} {p : Nat} {sz : Int} {ad vv : Nat} {D : List Nat} (h : Bx w p sz ad vv D) (hb : Below w.heap.size w w') : Bx w' p sz ad vv D := ⟨cell_below h.c1 hb, cell_below h.c2 hb, cell_below h.c3 hb, cell_below h.c4 hb⟩
theorem Bx.unt {U : Nat → Prop} {w w' : World} {p : Nat} {sz : Int} {ad vv : Nat} {D : List Nat} (h : Bx w p sz ad vv D) (hb : Unt U w w') (hU : U p) : Bx w' p sz ad vv D := ⟨cell_unt h.c1 hb hU, cell_unt h.c2 hb hU, cell_unt h.c3 hb hU, cell_unt h.c4 hb hU⟩
theorem Bx.far {w : World} {p b o : Nat} {u : Value} {sz : Int} {ad vv : Nat} {D : List Nat} (h : Bx w p sz ad vv D) (hne : b ≠ p) : Bx (w.setCell ⟨b, o, none⟩ u) p sz ad vv D :=
  ⟨by rw [World.cell?_setCell_other _ _ _ _ (by intro e; exact hne (congrArg Addr.block e))]; exact h.c1, by rw [World.cell?_setCell_other _ _ _ _ (by intro e; exact hne (congrArg Addr.block e))]; exact h.c2, by rw [World.cell?_setCell_other _ _ _ _ (by intro e; exact hne (congrArg Addr.block e))]; exact h.c3, by rw [World.cell?_setCell_other _ _ _ _ (by intro e; exact hne (congrArg Addr.block e))]; exact h.c4⟩
theorem IOwn.low {w w' : World} {base : Nat} {v : Value} {l : List Nat} (h : IOwn w base v l) (hb : Below w.heap.size w w') : IOwn w' base v l := ownsRow_below h hb
theorem bel_unt {U : Nat → Prop} {w W W' : World} {B : Nat} (h : Below B w W) (hu : Unt U W W') (hU : ∀ g, g < B → U g) : Below B w W' :=
  ⟨hu.os.trans h.os, hu.tape.trans h.tape, hu.output.trans h.output, Nat.le_trans h.size hu.size, fun g hg => (hu.block g (hU g hg)).trans (h.block g hg)⟩
/-- Rows of unlike elements share no block. -/
theorem own_ne {w : World} {b1 b2 : Nat} {e1 e2 : TypeId} {s1 s2 n1 n2 : Nat} {v1 v2 : Value} {x1 x2 : List Value} (h1 : w.ownsRow b1 e1 s1 v1 n1 x1) (h2 : w.ownsRow b2 e2 s2 v2 n2 x2) (hne : e1 ≠ e2) {g : Nat} (hg : v1.ownBlock = some g) : v2.ownBlock ≠ some g := by
  intro hg2
  rcases h1.2 with ⟨e, _⟩ | ⟨g1, c1, cur1, e, _, hh1, _⟩
  · rw [e] at hg; simp [Value.ownBlock] at hg
  · rcases h2.2 with ⟨e', _⟩ | ⟨g2, c2, cur2, e', _, hh2, _⟩
    · rw [e'] at hg2; simp [Value.ownBlock] at hg2
    · rw [e] at hg
      rw [e'] at hg2
      have i1 : g1 = g := by simpa [Value.ownBlock] using hg
      have i2 : g2 = g := by simpa [Value.ownBlock] using hg2
      subst i1
      subst i2
      rw [hh1] at hh2
      have := Option.some.inj hh2
      simp only [Obj.cells.injEq] at this
      exact hne this.2.1
theorem differ_len (E : Nat → Addr) (l m : List Pg) {len : Nat} (hl : l.length = len) (hm : m.length = len) (hb : len ≤ 1759218604391) :
    ∃ (L : List Nat) (i : Nat) (v : Value), L.length ≤ 1759218604391 ∧ Bare E v i ∧
      (∀ w a cap a' cap', Pgs w a len cap l → Pgs w a' len cap' m → Calls Tryd.prog 17 #[.slice a len cap, .slice a' len cap'] w fun e w' => ∃ x, e = .returned (.tuple #[x, .int .i64 (i : Int)]) ∧ IOwn w' w.heap.size x L ∧ Below w.heap.size w w') ∧
      (∀ w a cap a' cap', Errs w E → Pgs w a len cap l → Pgs w a' len cap' m → Calls Tryd.prog 16 #[.slice a len cap, .slice a' len cap'] w fun e w' => ∃ x, e = .returned (.tuple #[x, v]) ∧ IOwn w' w.heap.size x L ∧ Below w.heap.size w w') := by
  have h := differ_both E l m (by omega)
  rw [hl, hm] at h
  exact h
theorem drt_le (l : List Pg) {len : Nat} (h : len ≤ 1048576) : (drt l len).length ≤ 1759218604391 := Nat.le_trans (drt_len l len) (by omega)
theorem own_dirty {w : World} {base g cap n : Nat} {l F : List Pg} (h : POwn w base (.slice (some ⟨g, 0, none⟩) n cap) (l ++ F)) (ok : Oks l) (okF : Oks F) {k : Nat} {p : Pg} (hp : l[k]? = some p) :
    w.cell? ⟨g, k * 66 + 1, none⟩ = some (.bool p.dirty) ∧ w.frozen? ⟨g, k * 66 + 1, none⟩ = false ∧
      ∀ d : Bool, POwn (w.setCell ⟨g, k * 66 + 1, none⟩ (.bool d)) base (.slice (some ⟨g, 0, none⟩) n cap) (l.set k ⟨p.rights, d, p.data⟩ ++ F) ∧ Oks (l.set k ⟨p.rights, d, p.data⟩) := by
  have hpo := ok p (List.mem_of_getElem? hp)
  have okA : Oks (l ++ F) := fun q hq => by
    rcases List.mem_append.1 hq with h1 | h1
    · exact ok q h1
    · exact okF q h1
  obtain rfl : n = (l ++ F).length := by
    rcases h.2 with ⟨e, _⟩ | ⟨g', cap', cur, e, _⟩
    · simp at e
    · simp only [Value.slice.injEq] at e
      exact e.2.1
  have hkl : k < l.length := (List.getElem?_eq_some_iff.1 hp).1
  have hpA : (l ++ F)[k]? = some p := by rw [List.getElem?_append_left hkl]; exact hp
  refine ⟨?_, World.ownsRow.frozenAt h _, fun d => ?_⟩
  · rw [World.ownsRow.cellAt h (k * 66 + 1) (by rw [List.length_append]; omega), flat_get okA 1 hpA (by decide)]
    rfl
  · have hst := POwn.stored h okA hpA (j := 1) (q := ⟨p.rights, d, p.data⟩) (u := .bool d) (by decide) rfl
    rw [List.set_append_left _ _ hkl] at hst
    exact ⟨hst, ok.set k ⟨hpo.lo, hpo.hi, hpo.size, hpo.small⟩⟩
end Go.Proofs.YtbekdbgnpcbklaaDoor
