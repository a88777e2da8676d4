/-
  The law's like: two answers with the same numbers and lists.
-/
import Derived.Test.YtchmfjendnaflaaDoorCkApart
import Derived.Test.YtchmfjendnaflaaDoorEqual
import Derived.Laws.StructEq
import Derived.ChangeKeysEq
namespace Go.Proofs.YtchmfjendnaflaaDoor
open Go.RowKit FerryCrc
set_option linter.unusedVariables false
set_option linter.unusedSimpArgs false

/-- The cells of a block that may be written. -/
structure Bl (w : World) (g : Nat) (cs : List Value) : Prop where
  cell : ∀ (j : Nat) (v : Value), cs[j]? = some v → w.cell? ⟨g, j, none⟩ = some v
  free : ∀ j, w.frozen? ⟨g, j, none⟩ = false
theorem bl_alloc (w : World) (c : Array Value) (t : TypeId) : Bl (w.alloc (.cells c t)) w.heap.size c.toList :=
  ⟨fun j v hv => by rw [World.cell?_alloc_at _ _ _ _ rfl]; simpa using hv, fun j => World.frozen?_alloc_new _ _ _ _⟩
theorem Bl.below {w w' : World} {g : Nat} {cs : List Value} (h : Bl w g cs) (hb : Below w.heap.size w w') (h0 : 0 < cs.length) : Bl w' g cs := by
  obtain ⟨v, hv⟩ : ∃ v, cs[0]? = some v := ⟨_, List.getElem?_eq_getElem h0⟩
  have hg : g < w.heap.size := block_lt_of_cell (h.cell 0 v hv)
  have hk := hb.block g hg
  exact ⟨fun j u hu => (World.cell?_of_block (w := w) hk).trans (h.cell j u hu), fun j => (World.frozen?_of_block (w := w) hk).trans (h.free j)⟩
theorem Bl.frm {S : Nat → Prop} {w w' : World} {g : Nat} {cs : List Value} (h : Bl w g cs) (hf : Frm S w w') (hS : ¬ S g) (h0 : 0 < cs.length) : Bl w' g cs := by
  obtain ⟨v, hv⟩ : ∃ v, cs[0]? = some v := ⟨_, List.getElem?_eq_getElem h0⟩
  have hg : g < w.heap.size := block_lt_of_cell (h.cell 0 v hv)
  have hk := hf.block g hg hS
  exact ⟨fun j u hu => (World.cell?_of_block (w := w) hk).trans (h.cell j u hu), fun j => (World.frozen?_of_block (w := w) hk).trans (h.free j)⟩
theorem Bl.set {w : World} {g : Nat} {cs : List Value} (h : Bl w g cs) (i : Nat) (v : Value) (hi : i < cs.length) : Bl (w.setCell ⟨g, i, none⟩ v) g (cs.set i v) := by
  obtain ⟨u, hu⟩ : ∃ u, cs[i]? = some u := ⟨_, List.getElem?_eq_getElem hi⟩
  have hc := h.cell i u hu
  refine ⟨fun j x hx => ?_, fun j => by rw [World.frozen?_setCell]; exact h.free j⟩
  rw [List.getElem?_set] at hx
  split at hx
  · rename_i e
    subst e
    obtain rfl := Option.some.inj hx
    exact World.cell?_setCell_same _ _ _ hc
  · rename_i e
    rw [World.cell?_setCell_other _ _ _ _ (fun e2 => e (by simpa using congrArg Addr.off e2))]
    exact h.cell j x hx
/-- What a value of the law's struct is. -/
def askC (n0 n1 n2 : Nat) (P : Int) (v0 v1 v2 v3 : Value) : List Value := [.int .u32 (n0 : Int), .int .u32 (n1 : Int), .int .u32 (n2 : Int), .int .u32 0, .int .u32 0, .int .i64 P, v0, v1, v2, v3]
/-- A slice that shows these bytes. -/
def Sh (w : World) (v : Value) (l : List Nat) : Prop := ∃ a c, v = .slice a l.length c ∧ Bts w a l.length c l
theorem Sh.below {w w' : World} {v : Value} {l : List Nat} (h : Sh w v l) (hb : Below w.heap.size w w') : Sh w' v l := by
  obtain ⟨a, c, e, hb2⟩ := h
  exact ⟨a, c, e, hb2.below hb⟩

theorem part_int {t : TypeId} {k : IntKind} (hu : Tryd.prog.underlying t = some (.int k)) {xs : Array Value} {off : Nat} {v : Value} (hx : xs[off]? = some v) (w : World) : (part t xs off).run Tryd.prog w = .ok v w := by
  simp [part, isAgg, run_underlying hu, hx]
theorem cells32 : Tryd.prog.cellsOf 23 = 1 := by kernel_rfl
theorem info32 : ∃ i, Tryd.prog.info? 23 = some i := by
  cases h : Tryd.prog.info? 23 with
  | none => exact absurd (show (Tryd.prog.info? 23).isSome = true by kernel_rfl) (by rw [h]; decide)
  | some i => exact ⟨i, rfl⟩
theorem five_same (x0 x1 x2 x3 x4 : Int) (w : World) : (Op.equalIn 10000 26 (.agg #[.int .u32 x0, .int .u32 x1, .int .u32 x2, .int .u32 x3, .int .u32 x4]) (.agg #[.int .u32 x0, .int .u32 x1, .int .u32 x2, .int .u32 x3, .int .u32 x4])).run Tryd.prog w = .ok true w := by
  obtain ⟨i, hi⟩ := info32
  rw [run_equalIn_array (P := Tryd.prog) w 9999 _ _ Tryd.underlying26 hi, cells32]
  have e : ∀ x : Int, (Op.equalIn 9999 23 (.int .u32 x) (.int .u32 x)).run Tryd.prog w = .ok true w := fun x => by
    have := run_equalIn_int (P := Tryd.prog) w 9998 23 .u32 .u32 x x Tryd.underlying23
    rw [beq_self_eq_true] at this
    exact this
  have p := fun (off : Nat) (v : Value) (hx : (#[Value.int .u32 x0, .int .u32 x1, .int .u32 x2, .int .u32 x3, .int .u32 x4] : Array Value)[off]? = some v) => part_int Tryd.underlying23 hx w
  simp only [List.range, List.range.loop, Op.eqItems, Nat.mul_one, Sem.run_bind, Sem.run_ite, p 0 (.int .u32 x0) rfl, p 1 (.int .u32 x1) rfl, p 2 (.int .u32 x2) rfl, p 3 (.int .u32 x3) rfl, p 4 (.int .u32 x4) rfl, e, Result.andThen_ok, Bool.not_true, Bool.false_eq_true, if_false, Sem.run_pure]

set_option maxRecDepth 100000 in
set_option maxHeartbeats 1600000 in
theorem like_any (n0 n1 n2 : Nat) (P : Int) (v0 v1 v2 v3 u0 u1 u2 u3 : Value) (l0 l1 l2 l3 : List Nat) (w : World) (h0 : Sh w v0 l0) (h1 : Sh w v1 l1) (h2 : Sh w v2 l2) (h3 : Sh w v3 l3) (k0 : Sh w u0 l0) (k1 : Sh w u1 l1) (k2 : Sh w u2 l2) (k3 : Sh w u3 l3) :
    Calls Tryd.prog 14 #[.agg (askC n0 n1 n2 P v0 v1 v2 v3).toArray, .agg (askC n0 n1 n2 P u0 u1 u2 u3).toArray] w fun e w' => e = .returned (.bool true) ∧ Below w.heap.size w w' := by
  have hb0 : Below w.heap.size w ((w.alloc (.cells (askC n0 n1 n2 P v0 v1 v2 v3).toArray 29)).alloc (.cells (askC n0 n1 n2 P u0 u1 u2 u3).toArray 29)) := ((Below.refl _ _).alloc (Nat.le_refl _) _).alloc (by simp) _
  have HB0 := hide hb0
  have HX := hide ((bl_alloc w (askC n0 n1 n2 P v0 v1 v2 v3).toArray 29).below ((Below.refl _ _).alloc (Nat.le_refl _) (.cells (askC n0 n1 n2 P u0 u1 u2 u3).toArray 29)) (by simp [askC]))
  have HY := hide (bl_alloc (w.alloc (.cells (askC n0 n1 n2 P v0 v1 v2 v3).toArray 29)) (askC n0 n1 n2 P u0 u1 u2 u3).toArray 29)
  rw [show (w.alloc (.cells (askC n0 n1 n2 P v0 v1 v2 v3).toArray 29)).heap.size = w.heap.size + 1 by simp] at HY
  have HE : Hid (∀ (v u : Value) (l : List Nat) (wx : World), Sh w v l → Sh w u l → Below w.heap.size w wx → Calls Tryd.prog 15 #[v, u] wx fun e w' => e = .returned (.bool true) ∧ Below wx.heap.size wx w') := fun v u l wx hv hu hb => by
    obtain ⟨a, c, rfl, hv⟩ := hv
    obtain ⟨b, d, rfl, hu⟩ := hu
    have := equal_any a b l.length c l.length d l l wx (hv.below hb) (hu.below hb)
    rw [show decide (l = l) = true by simp] at this
    exact this
  have E0 := hide (fun wx => HE.out v0 u0 l0 wx h0 k0)
  have E1 := hide (fun wx => HE.out v1 u1 l1 wx h1 k1)
  have E2 := hide (fun wx => HE.out v2 u2 l2 wx h2 k2)
  have E3 := hide (fun wx => HE.out v3 u3 l3 wx h3 k3)
  clear hb0 HE h0 h1 h2 h3 k0 k1 k2 k3
  go_enter Tryd.func14, Tryd.ntmps14
  go_wp2_with fail
  generalize ((w.alloc (.cells (askC n0 n1 n2 P v0 v1 v2 v3).toArray 29)).alloc (.cells (askC n0 n1 n2 P u0 u1 u2 u3).toArray 29)) = W0 at *
  go_loopw [5] (fun i wr => ∃ k : Nat, k ≤ 4 ∧ i = .int .i64 (k : Int) ∧ Hid (Below W0.heap.size W0 wr)) (fun i _ => 4 - (intOf i).toNat)
  case atStart => exact ⟨0, by omega, rfl, Below.refl _ _⟩
  case round =>
    obtain ⟨k, hk, rfl, HBR⟩ := hrel
    have HXr := hide (HX.out.below HBR.out (by simp [askC]))
    have HYr := hide (HY.out.below HBR.out (by simp [askC]))
    have HBw := hide (chain HB0.out HBR.out)
    rcases (by omega : k = 0 ∨ k = 1 ∨ k = 2 ∨ k = 3 ∨ k = 4) with rfl | rfl | rfl | rfl | rfl
    · have x0 : wr.cell? ⟨w.heap.size, 6, none⟩ = some v0 := HXr.out.cell 6 _ rfl
      have y0 : wr.cell? ⟨w.heap.size + 1, 6, none⟩ = some u0 := HYr.out.cell 6 _ rfl
      have HC := hide (E0.out wr.drew (HBw.out.drew))
      go_wp2_with fail
      go_region_held3 (fun wz => wz.cell? ⟨w.heap.size, 6, none⟩ = some v0 ∧ wz.cell? ⟨w.heap.size + 1, 6, none⟩ = some u0) (first | exact ⟨x0, y0⟩ | exact ⟨x1, y1⟩) (first | (go_at_call 15; refine HC.out.mono ?_; rintro e w2 ⟨rfl, hb2⟩; have x1 := cell_below (w := wr.drew) x0 hb2; have y1 := cell_below (w := wr.drew) y0 hb2; have HB2 := hide (chain HBR.out.drew hb2); clear hb2))
      go_wp2
      exact ⟨⟨1, by omega, by first | rfl | simp, HB2⟩, by simp [intOf]⟩
    · have x0 : wr.cell? ⟨w.heap.size, 7, none⟩ = some v1 := HXr.out.cell 7 _ rfl
      have y0 : wr.cell? ⟨w.heap.size + 1, 7, none⟩ = some u1 := HYr.out.cell 7 _ rfl
      have HC := hide (E1.out wr.drew (HBw.out.drew))
      go_wp2_with fail
      go_region_held3 (fun wz => wz.cell? ⟨w.heap.size, 7, none⟩ = some v1 ∧ wz.cell? ⟨w.heap.size + 1, 7, none⟩ = some u1) (first | exact ⟨x0, y0⟩ | exact ⟨x1, y1⟩) (first | (go_at_call 15; refine HC.out.mono ?_; rintro e w2 ⟨rfl, hb2⟩; have x1 := cell_below (w := wr.drew) x0 hb2; have y1 := cell_below (w := wr.drew) y0 hb2; have HB2 := hide (chain HBR.out.drew hb2); clear hb2))
      go_wp2
      exact ⟨⟨2, by omega, by first | rfl | simp, HB2⟩, by simp [intOf]⟩
    · have x0 : wr.cell? ⟨w.heap.size, 8, none⟩ = some v2 := HXr.out.cell 8 _ rfl
      have y0 : wr.cell? ⟨w.heap.size + 1, 8, none⟩ = some u2 := HYr.out.cell 8 _ rfl
      have HC := hide (E2.out wr.drew (HBw.out.drew))
      go_wp2_with fail
      go_region_held3 (fun wz => wz.cell? ⟨w.heap.size, 8, none⟩ = some v2 ∧ wz.cell? ⟨w.heap.size + 1, 8, none⟩ = some u2) (first | exact ⟨x0, y0⟩ | exact ⟨x1, y1⟩) (first | (go_at_call 15; refine HC.out.mono ?_; rintro e w2 ⟨rfl, hb2⟩; have x1 := cell_below (w := wr.drew) x0 hb2; have y1 := cell_below (w := wr.drew) y0 hb2; have HB2 := hide (chain HBR.out.drew hb2); clear hb2))
      go_wp2
      exact ⟨⟨3, by omega, by first | rfl | simp, HB2⟩, by simp [intOf]⟩
    · have x0 : wr.cell? ⟨w.heap.size, 9, none⟩ = some v3 := HXr.out.cell 9 _ rfl
      have y0 : wr.cell? ⟨w.heap.size + 1, 9, none⟩ = some u3 := HYr.out.cell 9 _ rfl
      have HC := hide (E3.out wr.drew (HBw.out.drew))
      go_wp2_with fail
      go_region_held3 (fun wz => wz.cell? ⟨w.heap.size, 9, none⟩ = some v3 ∧ wz.cell? ⟨w.heap.size + 1, 9, none⟩ = some u3) (first | exact ⟨x0, y0⟩ | exact ⟨x1, y1⟩) (first | (go_at_call 15; refine HC.out.mono ?_; rintro e w2 ⟨rfl, hb2⟩; have x1 := cell_below (w := wr.drew) x0 hb2; have y1 := cell_below (w := wr.drew) y0 hb2; have HB2 := hide (chain HBR.out.drew hb2); clear hb2))
      go_wp2
      exact ⟨⟨4, by omega, by first | rfl | simp, HB2⟩, by simp [intOf]⟩
    · have a0 : wr.cell? ⟨w.heap.size, 0, none⟩ = some (.int .u32 (n0 : Int)) := HXr.out.cell 0 _ rfl
      have a1 : wr.cell? ⟨w.heap.size, 1, none⟩ = some (.int .u32 (n1 : Int)) := HXr.out.cell 1 _ rfl
      have a2 : wr.cell? ⟨w.heap.size, 2, none⟩ = some (.int .u32 (n2 : Int)) := HXr.out.cell 2 _ rfl
      have a3 : wr.cell? ⟨w.heap.size, 3, none⟩ = some (.int .u32 0) := HXr.out.cell 3 _ rfl
      have a4 : wr.cell? ⟨w.heap.size, 4, none⟩ = some (.int .u32 0) := HXr.out.cell 4 _ rfl
      have a5 : wr.cell? ⟨w.heap.size, 5, none⟩ = some (.int .i64 P) := HXr.out.cell 5 _ rfl
      have b0 : wr.cell? ⟨w.heap.size + 1, 0, none⟩ = some (.int .u32 (n0 : Int)) := HYr.out.cell 0 _ rfl
      have b1 : wr.cell? ⟨w.heap.size + 1, 1, none⟩ = some (.int .u32 (n1 : Int)) := HYr.out.cell 1 _ rfl
      have b2 : wr.cell? ⟨w.heap.size + 1, 2, none⟩ = some (.int .u32 (n2 : Int)) := HYr.out.cell 2 _ rfl
      have b3 : wr.cell? ⟨w.heap.size + 1, 3, none⟩ = some (.int .u32 0) := HYr.out.cell 3 _ rfl
      have b4 : wr.cell? ⟨w.heap.size + 1, 4, none⟩ = some (.int .u32 0) := HYr.out.cell 4 _ rfl
      have b5 : wr.cell? ⟨w.heap.size + 1, 5, none⟩ = some (.int .i64 P) := HYr.out.cell 5 _ rfl
      have heq := five_same (n0 : Int) (n1 : Int) (n2 : Int) 0 0 wr
      go_wp2
      go_ret
      exact ⟨rfl, HBw.out⟩
end Go.Proofs.YtchmfjendnaflaaDoor
