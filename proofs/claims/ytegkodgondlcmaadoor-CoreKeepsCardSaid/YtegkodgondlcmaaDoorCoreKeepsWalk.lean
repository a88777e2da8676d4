/-
  CoreKeeps: the law walked.
-/
import Derived.Test.YtegkodgondlcmaaDoorCmKeep
import Derived.Test.YtegkodgondlcmaaDoorCmDTop
import Derived.Test.YtegkodgondlcmaaDoorCmDPath
import Derived.Test.YtegkodgondlcmaaDoorCpBase
import Derived.Test.YtegkodgondlcmaaDoorCmAwake
import Derived.Deep.Cut
import Derived.Deep.CutRange
import Derived.BigQuiet
import Derived.Deep.QuietTactic
namespace Go.Proofs.YtegkodgondlcmaaDoor.coreKeeps
open Go.RowKit FerryCrc FerryAlu
set_option linter.unusedVariables false
set_option linter.unusedSimpArgs false

def fill (k : Nat) : List Pg := (List.range k).map fun (i : Nat) => mkp (-9 - (i : Int))
theorem fill_succ (k : Nat) : fill (k + 1) = fill k ++ [mkp (-9 - (k : Int))] := by simp [fill, List.range_succ]
theorem fill_len (k : Nat) : (fill k).length = k := by simp [fill]
theorem fill_ok {k : Nat} (h : k ≤ 12) : Oks (fill k) := fun p hp => by
  obtain ⟨i, hi, rfl⟩ := List.mem_map.1 hp
  have := List.mem_range.1 hi
  exact mkp_ok (by omega) (by omega)
theorem proc_pc (m : Mc) (ok : m.Ok) : m.proc[16]? = some (.int .u32 (m.pc : Int)) := by
  have h : (m.regs.map u32v).length = 16 := by rw [List.length_map]; exact ok.size
  unfold Mc.proc
  rw [List.getElem?_append_right (by omega), h]
  rfl
theorem own_shape {w : World} {base : Nat} {v : Value} {l F : List Pg} (h : POwn w base v (l ++ F)) (hF : F.length = 12) : ∃ g c, v = .slice (some ⟨g, 0, none⟩) (l.length + 12) c ∧ base ≤ g ∧ g < w.heap.size ∧ l.length + 12 ≤ c ∧ c ≤ maxLen := by
  have hlt := World.ownsRow.lt h
  rcases h.2 with ⟨e, h0⟩ | ⟨g, cap, cur, e, hg, hh, hnc, hcm, hcs, htake⟩
  · rw [List.length_append] at h0; omega
  · rw [List.length_append, hF] at e hnc
    exact ⟨g, cap, e, hg, (hlt g (by rw [e]; rfl)).2, hnc, hcm⟩
theorem path_most (m : Mc) (N : Nat) : (m.path N).length ≤ N := by
  have h : (m.path N).length = (m.run N).steps := pcs_len _ _
  have h2 : (m.run N).steps ≤ 0 + N := Rn.go_le N ⟨m.from0, 0, 0, 0⟩
  omega

theorem uown_put {w : World} {base g n c : Nat} {P : List Nat} (h : UOwn w base (.slice (some ⟨g, 0, none⟩) n c) P) (hP : P.length = n) {k : Nat} (hk : k < n) :
    (∃ x : Int, w.cell? ⟨g, k, none⟩ = some (.int .u32 x)) ∧ w.frozen? ⟨g, k, none⟩ = false ∧ UOwn (w.setCell ⟨g, k, none⟩ (.int .u32 7)) base (.slice (some ⟨g, 0, none⟩) n c) (P.set k 7) ∧ w.grownBy (w.setCell ⟨g, k, none⟩ (.int .u32 7)) (some g) := by
  subst hP
  obtain ⟨h1, h2⟩ := World.ownsRow.stored h k (.int .u32 7)
  refine ⟨⟨(P[k] : Nat), ?_⟩, World.ownsRow.frozenAt h _, ?_, h2⟩
  · rw [World.ownsRow.cellAt h k (by omega)]
    simp [hk, u32v]
  · unfold UOwn
    rw [List.length_set, List.map_set]
    exact h1
theorem uown_some {w : World} {base n c : Nat} {pa : Option Addr} {P : List Nat} (h : UOwn w base (.slice pa n c) P) (hn : 0 < n) (hP : P.length = n) : ∃ g, pa = some ⟨g, 0, none⟩ := by
  rcases h.2 with ⟨e, h0⟩ | ⟨g, cap, cur, e, _⟩
  · omega
  · simp only [Value.slice.injEq] at e
    exact ⟨g, e.1⟩
theorem eq_lists {w : World} {b1 b2 : Nat} {pa qa : Option Addr} {pc qc np : Nat} {l : List Nat} (h1 : UOwn w b1 (.slice pa np pc) l) (h2 : UOwn w b2 (.slice qa np qc) l) (hn : l.length = np) (hm : np ≤ 1000000) :
    Calls Tryd.prog 16 #[.slice pa np pc, .slice qa np qc] w fun e w' => e = .returned (.bool true) ∧ Below w.heap.size w w' := by
  subst hn
  obtain ⟨a1, c1, e1, v1⟩ := h1.view
  obtain ⟨a2, c2, e2, v2⟩ := h2.view
  simp only [Value.slice.injEq] at e1 e2
  obtain ⟨rfl, _, rfl⟩ := e1
  obtain ⟨rfl, _, rfl⟩ := e2
  exact requal_any pa qa pc qc l w v1 v2 hm
theorem bl_low {w w' : World} {g B : Nat} {cs : List Value} (h : Bl w g cs) (hg : g < B) (hb : Below B w w') : Bl w' g cs :=
  ⟨fun j v hv => (World.cell?_of_block (a := ⟨g, j, none⟩) (hb.block g hg)).trans (h.cell j v hv), fun j => (World.frozen?_of_block (a := ⟨g, j, none⟩) (hb.block g hg)).trans (h.free j)⟩
theorem wrap_id {x : Int} (h1 : -9223372036854775808 ≤ x) (h2 : x ≤ 9223372036854775807) : IntKind.i64.wrap x = x := by rw [IntKind.wrap_i64]; omega
def fiv (x0 x1 x2 x3 x4 : Value) : Nat → Value
  | 0 => x0
  | 1 => x1
  | 2 => x2
  | 3 => x3
  | _ => x4
def fil (x0 x1 x2 x3 x4 : List Pg) : Nat → List Pg
  | 0 => x0
  | 1 => x1
  | 2 => x2
  | 3 => x3
  | _ => x4
theorem five (i : Nat) (h : i < 5) : i = 0 ∨ i = 1 ∨ i = 2 ∨ i = 3 ∨ i = 4 := by omega
theorem fv_five {w : World} {B : Nat} {x0 x1 x2 x3 x4 : Value} {L0 L1 L2 L3 L4 : List Pg} {l0 u0 l1 u1 l2 u2 l3 u3 l4 u4 : Nat} (t : TypeId)
    (o0 : POwn w B x0 L0) (o1 : POwn w B x1 L1) (o2 : POwn w B x2 L2) (o3 : POwn w B x3 L3) (o4 : POwn w B x4 L4)
    (k0 : Oks L0) (k1 : Oks L1) (k2 : Oks L2) (k3 : Oks L3) (k4 : Oks L4)
    (m0 : L0.length ≤ 1759218604391) (m1 : L1.length ≤ 1759218604391) (m2 : L2.length ≤ 1759218604391) (m3 : L3.length ≤ 1759218604391) (m4 : L4.length ≤ 1759218604391)
    (w0 : Within x0 l0 u0) (w1 : Within x1 l1 u1) (w2 : Within x2 l2 u2) (w3 : Within x3 l3 u3) (w4 : Within x4 l4 u4)
    (d : u0 ≤ l1 ∧ l1 ≤ u1 ∧ u1 ≤ l2 ∧ l2 ≤ u2 ∧ u2 ≤ l4 ∧ l4 ≤ u4 ∧ u4 ≤ l3 ∧ l3 ≤ u3 ∧ u3 ≤ w.heap.size) :
    Fv (w.alloc (.cells #[x0, x1, x2, x3] t)) w.heap.size B (fiv x0 x1 x2 x3 x4) (fil L0 L1 L2 L3 L4) := by
  have hb : Below w.heap.size w (w.alloc (.cells #[x0, x1, x2, x3] t)) := (Below.refl _ _).alloc (Nat.le_refl _) _
  refine ⟨fun i hi => ?_, fun i hi => ?_, fun i hi => ?_, fun i hi => ?_, fun i j hi hj hne => ?_, fun i hi e => ?_⟩
  · rw [World.cell?_alloc_at _ _ _ _ rfl]
    rcases (by omega : i = 0 ∨ i = 1 ∨ i = 2 ∨ i = 3) with rfl | rfl | rfl | rfl <;> rfl
  · rcases five i hi with rfl | rfl | rfl | rfl | rfl
    · exact o0.below hb
    · exact o1.below hb
    · exact o2.below hb
    · exact o3.below hb
    · exact o4.below hb
  · rcases five i hi with rfl | rfl | rfl | rfl | rfl
    · exact k0
    · exact k1
    · exact k2
    · exact k3
    · exact k4
  · rcases five i hi with rfl | rfl | rfl | rfl | rfl
    · exact m0
    · exact m1
    · exact m2
    · exact m3
    · exact m4
  · rcases five i hi with rfl | rfl | rfl | rfl | rfl <;> rcases five j hj with rfl | rfl | rfl | rfl | rfl
    · exact absurd rfl hne
    · exact apart_of w0 w1 (by omega)
    · exact apart_of w0 w2 (by omega)
    · exact apart_of w0 w3 (by omega)
    · exact apart_of w0 w4 (by omega)
    · exact apart_of w1 w0 (by omega)
    · exact absurd rfl hne
    · exact apart_of w1 w2 (by omega)
    · exact apart_of w1 w3 (by omega)
    · exact apart_of w1 w4 (by omega)
    · exact apart_of w2 w0 (by omega)
    · exact apart_of w2 w1 (by omega)
    · exact absurd rfl hne
    · exact apart_of w2 w3 (by omega)
    · exact apart_of w2 w4 (by omega)
    · exact apart_of w3 w0 (by omega)
    · exact apart_of w3 w1 (by omega)
    · exact apart_of w3 w2 (by omega)
    · exact absurd rfl hne
    · exact apart_of w3 w4 (by omega)
    · exact apart_of w4 w0 (by omega)
    · exact apart_of w4 w1 (by omega)
    · exact apart_of w4 w2 (by omega)
    · exact apart_of w4 w3 (by omega)
    · exact absurd rfl hne
  · rcases five i hi with rfl | rfl | rfl | rfl | rfl
    · have := w0 _ e; omega
    · have := w1 _ e; omega
    · have := w2 _ e; omega
    · have := w3 _ e; omega
    · have := w4 _ e; omega
theorem pown_sl {w : World} {base : Nat} {v : Value} {l : List Pg} (h : POwn w base v l) : ∃ a c, v = .slice a l.length c := by
  rcases h.2 with ⟨e, h0⟩ | ⟨g, cap, cur, e, _⟩
  · exact ⟨none, 0, by rw [e, h0]⟩
  · exact ⟨_, _, e⟩
theorem pown_some {w : World} {base n c : Nat} {xa : Option Addr} {l : List Pg} (h : POwn w base (.slice xa n c) l) (hn : 0 < n) (hl : l.length = n) : ∃ g, xa = some ⟨g, 0, none⟩ := by
  rcases h.2 with ⟨e, h0⟩ | ⟨g, cap, cur, e, _⟩
  · omega
  · simp only [Value.slice.injEq] at e
    exact ⟨g, e.1⟩
theorem build_two (w : World) : (Instr.buildSlice 22 2 #[(0, .agg (zPage.setIfInBounds 0 (.int .i64 1))), (1, .agg (zPage.setIfInBounds 0 (.int .i64 2)))]).run Tryd.prog w = .ok (.slice (some ⟨w.heap.size, 0, none⟩) 2 2) (w.alloc (.cells (flat [mkp 1, mkp 2]).toArray 38)) := by kernel_rfl
theorem append_p2 {w : World} {ops : Array Oper} {rest : List Oper} {o : Oper} {act : Act} {Q : Exit → Act → World → Prop} (hgd : o.guard = none) (s x : Operand)
    (ho : o.op = .call { callee := .builtin .append, args := #[s, x], argTypes := #[22, 22] })
    (base : Nat) (v : Value) (L : List Pg) (n : Nat) (hn : L.length = n) (hs : act.eval s = v) (hown : POwn w base v L)
    (hx : act.eval x = .slice (some ⟨w.heap.size, 0, none⟩) 2 2) (h63 : n ≤ 1759218604391)
    (h : ∀ a' c' w', POwn w' base v L → (w.alloc (.cells (flat [mkp 1, mkp 2]).toArray 38)).grownBy w' v.ownBlock → wpList Tryd.prog ops Q rest (act.put o.dst (.slice a' (n + 2) c')) w') : wpList Tryd.prog ops Q (o :: rest) act (w.alloc (.cells (flat [mkp 1, mkp 2]).toArray 38)) := by
  subst hn
  obtain ⟨i, z, hi, hz, hsz, hby, hzs⟩ := infoPage
  have hown' : POwn (w.alloc (.cells (flat [mkp 1, mkp 2]).toArray 38)) base v L := hown.below ((Below.refl w.heap.size w).alloc (Nat.le_refl _) _)
  have ok2 : Oks [mkp 1, mkp 2] := fun p hp => by
    simp only [List.mem_cons, List.not_mem_nil, or_false] at hp
    rcases hp with rfl | rfl
    · exact mkp_ok (by decide) (by decide)
    · exact mkp_ok (by decide) (by decide)
  refine append_old _ hgd s x 22 ho base 38 i z 66 80 Tryd.underlying22 hi hz hsz hby hzs (by decide) v L.length (flat L) hs hown' ⟨w.heap.size, 0, none⟩ 2 2 (flat [mkp 1, mkp 2]) hx (flat_len ok2) ?_ (flat_one _) (by unfold maxLen; omega) (by omega) (by decide) ?_
  · intro j u hu
    rw [add_none, World.cell?_alloc_at _ _ _ _ rfl]
    simpa using hu
  · intro a' c' w' h1 h2
    exact h a' c' w' h1 h2
theorem fill_at {k : Nat} (h : k < 12) : (fill 12)[k]? = some (mkp (-9 - (k : Int))) := by
  simp [fill, h]
theorem spare_at {w : World} {base g n c len : Nat} {l : List Pg} (h : POwn w base (.slice (some ⟨g, 0, none⟩) n c) (l ++ fill 12)) (ok : Oks l) (hl : l.length = len) {k : Nat} (hk : k < 12) : w.rangeAt g ((len + k) * 66) (mkp (-9 - (k : Int))).cells := by
  subst hl
  have okA : Oks (l ++ fill 12) := fun q hq => by
    rcases List.mem_append.1 hq with h1 | h1
    · exact ok q h1
    · exact fill_ok (Nat.le_refl 12) q h1
  have hp : (l ++ fill 12)[l.length + k]? = some (mkp (-9 - (k : Int))) := by
    rw [List.getElem?_append_right (by omega), show l.length + k - l.length = k by omega]
    exact fill_at hk
  have hL : (l ++ fill 12).length = l.length + 12 := by rw [List.length_append, fill_len]
  have hn : n = (l ++ fill 12).length := by
    rcases h.2 with ⟨e, _⟩ | ⟨g', cap', cur, e, _⟩
    · simp at e
    · simp only [Value.slice.injEq] at e
      exact e.2.1
  intro j v hv
  have hj : j < 66 := by
    have := (List.getElem?_eq_some_iff.1 hv).1
    rw [(okA _ (List.mem_of_getElem? hp)).cells] at this
    exact this
  subst hn
  rw [World.ownsRow.cellAt h ((l.length + k) * 66 + j) (by rw [hL]; omega), flat_get okA j hp hj]
  exact hv
theorem neq_pg {p : Pg} (hp : p.Ok) (ev : Operand → Value) (x y : Operand) (hx : ev x = .agg p.cells.toArray) (hy : ev y = .agg p.cells.toArray) (o : Oper) (t : TypeId) (ho : o.op = .binOp .neq 38 x y t) (w : World) : (execOp ev o).run Tryd.prog w = .ok (.value (.bool false)) w := by
  unfold execOp
  simp only [ho, hx, hy, Sem.run_bind, run_eqGuard_agg _ _ _ _ _ _ _ (show Tryd.prog.eqGuardType Tryd.prog.depth 38 = false by kernel_rfl), Result.andThen_ok, neq_page hp]
  rfl
theorem append_u3 {w : World} {ops : Array Oper} {rest : List Oper} {o : Oper} {act : Act} {Q : Exit → Act → World → Prop} (hgd : o.guard = none) (s x : Operand)
    (ho : o.op = .call { callee := .builtin .append, args := #[s, x], argTypes := #[40, 40] })
    (base : Nat) (v : Value) (P : List Nat) (np : Nat) (hP : P.length = np) (hs : act.eval s = v) (hown : UOwn w base v P)
    (hx : act.eval x = .slice (some ⟨w.heap.size, 0, none⟩) 3 3) (h63 : np ≤ 1000000)
    (h : ∀ a' c' w', (w.alloc (.cells #[.int .u32 8, .int .u32 8, .int .u32 8] 23)).grownBy w' v.ownBlock → wpList Tryd.prog ops Q rest (act.put o.dst (.slice a' (np + 3) c')) w') : wpList Tryd.prog ops Q (o :: rest) act (w.alloc (.cells #[.int .u32 8, .int .u32 8, .int .u32 8] 23)) := by
  subst hP
  obtain ⟨i0, hi, hz0, hz1, hz2⟩ := info_parts uinfo
  have hown' : UOwn (w.alloc (.cells #[.int .u32 8, .int .u32 8, .int .u32 8] 23)) base v P := hown.below ((Below.refl w.heap.size w).alloc (Nat.le_refl _) _)
  refine append_old _ hgd s x 40 ho base 23 i0 (.int .u32 0) 1 4 Tryd.underlying40 hi hz0 hz1 hz2 rfl (by decide) v P.length (P.map u32v) hs hown' ⟨w.heap.size, 0, none⟩ 3 3 [u32v 8, u32v 8, u32v 8] hx rfl ?_ (u32v_one [8, 8, 8]) (by unfold maxLen; omega) (by omega) (by decide) ?_
  · intro j u hu
    rw [add_none, World.cell?_alloc_at _ _ _ _ rfl]
    have hj : j < 3 := (List.getElem?_eq_some_iff.1 hu).1
    rcases (by omega : j = 0 ∨ j = 1 ∨ j = 2) with rfl | rfl | rfl
    all_goals
      obtain rfl := Option.some.inj hu
      rfl
  · intro a' c' w' _ h2
    exact h a' c' w' h2

set_option maxRecDepth 100000 in
set_option maxHeartbeats 8000000 in
theorem law (a : Option Addr) (len cap : Nat) (m : Mc) (n : Int) (w : World) (A : Addr) (hv : Cov w A) (hs : Pgs w a len cap m.pages) (ok : m.Ok) (i1 : -9223372036854775808 ≤ n) (i2 : n ≤ 9223372036854775807) :
    Calls Tryd.prog 4 #[.slice a len cap, .agg m.proc.toArray, .int .i64 n] w fun e w' => e = .returned (.bool true) ∧ Below w.heap.size w w' := by
  have hm := hs.most
  have HLEN := hide hs.size
  have HS := hide hs
  have HV := hide hv
  have OK := hide ok
  have HPL : Hid (m.proc.length = 21) := proc_len ok
  obtain ⟨z4, hb0, hsz⟩ := one_alloc w m.proc.toArray 26
  have Z4 : Hid (Bl (w.alloc (.cells m.proc.toArray 26)) w.heap.size m.proc) := z4
  have HB0 := hide hb0
  have HSZ := hide hsz
  have hu26 := Tryd.underlying26
  have hi26 : (Tryd.prog.info? 26).map (·.size) = some m.proc.length := by rw [HPL.out]; exact infoProc
  have HU := hide hu26
  have HI := hide hi26
  clear hs hv ok z4 hb0 hsz hu26 hi26
  obtain ⟨na, hna⟩ : ∃ na, (if 3000 < n then 3000 else n) = na := ⟨_, rfl⟩
  have BA := hide (bounded_any n)
  rw [hna] at BA
  have a1 : na ≤ 3000 := by rw [← hna]; split <;> omega
  have a3 : -9223372036854775808 ≤ na := by rw [← hna]; split <;> omega
  clear hna
  have hzp := zero_page
  have hne := zPage_ne
  have HZC : Hid (∀ r : Int, Value.agg (zPage.setIfInBounds 0 (.int .i64 r)) = .agg (mkp r).cells.toArray) := fun r => congrArg Value.agg (mkp_cells r).symm
  have HBT := hide build_two
  generalize zPage = Z at *
  have HZP := hide hzp
  have HNE := hide hne
  clear hzp hne
  go_enter Tryd.func4, Tryd.ntmps4
  go_upto_region 1 with fail
  generalize w.alloc (.cells m.proc.toArray 26) = W0 at *
  go_wp2_with fail
  refine Calls.mono (awake_any W0 A (HV.out.below HB0.out)) ?_
  rintro e w1 ⟨rfl, b1⟩
  have Z41 := hide (Z4.out.below (by rw [HSZ.out]; omega) b1)
  have D1 := hide (chain HB0.out b1)
  have L41 : Hid (w.heap.size < w1.heap.size) := by have h1 := HSZ.out; have h2 := b1.size; unfold Hid; omega
  clear b1 Z4 HB0 HSZ
  go_wp2_with fail
  refine Calls.mono (BA.out _) ?_
  rintro e w' ⟨rfl, rfl⟩
  go_upto_if 54 with fail
  go_cut [2] from 53 to 54 (fun v wx => ∃ nb : Int, v = .int .i64 nb ∧ nb ≤ 200 ∧ -9223372036854775808 ≤ nb ∧ wx = w1)
  case first =>
    by_cases h400 : 200 < na
    · go_wp2
      go_meet
      case rel => exact ⟨200, rfl, by omega, by omega, rfl⟩
    · have h4 : na ≤ 200 := by omega
      clear h400
      go_wp2
      go_meet
      case rel => exact ⟨na, rfl, h4, a3, rfl⟩
  case rest =>
    obtain ⟨nb, rfl, n4, n0, hwc⟩ := hcut
    obtain rfl : w1 = wc := hwc.symm
    clear BA i1 i2 a1 a3
    go_wp2_with fail
    refine Calls.mono (refCopy_any a len cap m.pages w1 (HS.out.below D1.out)) ?_
    rintro e w2 ⟨v0, rfl, ho2, b2⟩
    go_wp2
    go_loopw [7, 8] (fun v i wr => ∃ k : Nat, k ≤ 12 ∧ i = .int .i64 (k : Int) ∧ Hid (POwn wr w1.heap.size v (m.pages ++ fill k)) ∧ Hid (Below w1.heap.size w1 wr)) (fun _ i _ => 12 - (intOf i).toNat)
    case atStart => exact ⟨0, by omega, rfl, by simpa [fill, Hid] using ho2, b2⟩
    case round =>
      obtain ⟨k, hk, rfl, hown, hb⟩ := hrel
      by_cases hlt : k < 12
      · --
        as_aux_lemma =>
          have hw9 : IntKind.i64.wrap (-9 - (k : Int)) = -9 - (k : Int) := by rw [IntKind.wrap_i64]; omega
          have hpo : (mkp (-9 - (k : Int))).Ok := mkp_ok (by omega) (by omega)
          have HP := hide hpo
          have HT : Hid (m.pages ++ fill (k + 1) = (m.pages ++ fill k) ++ [mkp (-9 - (k : Int))]) := by unfold Hid; rw [fill_succ, List.append_assoc]
          have HTL : Hid ((m.pages ++ fill k).length < 1759218604430) := by unfold Hid; rw [List.length_append, fill_len, HLEN.out]; omega
          have HPI := hide infoPage
          have hzp := HZP.out
          have hne := HNE.out
          clear hpo
          go_upto_region 10 with fail
          refine wp_region_list ?_
          refine wpList_tail (pre := [{ dst := some 61, op := Go.Op.move (Go.Operand.tmp 7), type := 22, pos := "outright.go:129", after := #[], guard := none }, { dst := some 62, op := Go.Op.move (Go.Operand.tmp 8), type := 3, pos := "outright.go:129", after := #[], guard := none }, { dst := some 63, op := Go.Op.binOp Go.BinOp.sub 3 (Go.Operand.const (Go.Value.int Go.IntKind.i64 (-9))) (Go.Operand.tmp 62) 3, type := 3, pos := "outright.go:129", after := #[{ on := 1, ground := Go.Ground.data }], guard := none }, { dst := some 64, op := Go.Op.build 38 #[(0, Go.Operand.tmp 63)], type := 38, pos := "outright.go:129", after := #[{ on := 2, ground := Go.Ground.data }], guard := none }]) _ ?_
          intro tl htl
          have HTL := hide htl
          clear htl
          simp only [List.cons_append, List.nil_append]
          go_wp2_with fail
          have htl := HTL.out
          clear HTL
          subst htl
          obtain ⟨i, z, hi, hz, hsz, _, _⟩ := HPI.out
          refine wpList_build1 (o := { dst := some 65, op := Go.Op.buildSlice 22 1 #[(0, Go.Operand.tmp 64)], type := 22, pos := "outright.go:129", after := #[{ on := 3, ground := Go.Ground.data }], guard := none }) rfl 22 (.tmp 64) rfl (mkp (-9 - (k : Int))).cells (HZC.out _) 38 i z Tryd.underlying22 hi hz (by rw [HP.out.cells]; exact hsz) (by rw [HP.out.cells]; decide) (by rw [HP.out.cells]; decide) ?_
          clear hi hz hsz
          simp only [Act.put, List.setIfInBounds_toArray, List.set_cons_zero, List.set_cons_succ]
          refine append_pgx (o := { dst := some 66, op := Go.Op.call { callee := Go.Callee.builtin Go.Builtin.append, args := #[Go.Operand.tmp 61, Go.Operand.tmp 65], argTypes := #[22, 22] }, type := 22, pos := "outright.go:129", after := #[{ on := 0, ground := Go.Ground.data }, { on := 4, ground := Go.Ground.data }], guard := none }) rfl (.tmp 61) (.tmp 65) rfl w1.heap.size _ (m.pages ++ fill k) rfl (hown.out.below ((Below.refl _ _).alloc (Nat.le_refl _) _)) wr.heap.size 1 (mkp (-9 - (k : Int))) rfl HP.out (range_alloc _ _ _) HTL.out (by simp; have := hb.out.size; omega) ?_
          intro v' w3 hown1 hgrow1
          simp only [Act.put, List.setIfInBounds_toArray, List.set_cons_zero, List.set_cons_succ]
          have hb1 : Hid (Below w1.heap.size w1 w3) := (hb.out.alloc hb.out.size _).grown hgrow1 (by simp; have := hb.out.size; omega) (fun j e => (World.ownsRow.lt hown.out j e).1)
          go_wp2
          go_roundw
          case rel => exact ⟨k + 1, by omega, by go_num, by rw [HT.out]; exact hown1, hb1⟩
          case measure => simp [intOf]; omega
      · obtain rfl : k = 12 := by omega
        obtain ⟨g, c, hvs, hg1, hg2, hc1, hc2⟩ := own_shape hown.out (fill_len 12)
        subst hvs
        rw [HLEN.out] at hc1 hown ⊢
        have hz12 : w1.heap.size ≤ wr.heap.size := hb.out.size
        have L3 : Hid (w.heap.size < wr.heap.size ∧ w1.heap.size ≤ wr.heap.size ∧ w.heap.size < w1.heap.size) := by have := L41.out; unfold Hid; omega
        have D3 := hide (D1.out.trans (hb.out.mono (Nat.le_of_lt L41.out)))
        have Z3 := hide (Z41.out.below L41.out hb.out)
        have HWH := hide hown.out
        have HG := hide (own_front hown.out OK.out.ok HLEN.out hm)
        have WG : Hid (w1.heap.size ≤ g ∧ g < wr.heap.size) := ⟨hg1, hg2⟩
        have HC1 := hide hc1
        clear D1 Z41 L41 hlt hk hown hb b2 hz12 ho2
        generalize wr = y3 at *
        go_upto_region 12 with fail
        obtain ⟨N, hN⟩ : ∃ N, nb.toNat = N := ⟨_, rfl⟩
        have HPM : Hid ((m.path N).length ≤ 200) := by have := path_most m N; unfold Hid; omega
        have HRR : Hid (∀ W, Below y3.heap.size y3 W → Calls Tryd.prog 11 #[.slice a len cap, .agg m.proc.toArray, .int .i64 nb] W fun e w' => ∃ v, e = .returned (.tuple #[v, .agg (m.run N).m.proc.toArray, .agg (stopL (m.run N)).toArray]) ∧ POwn w' W.heap.size v (m.run N).m.pages ∧ (m.run N).m.Ok ∧ Below W.heap.size W w') := fun W hW => by
          have := rRun_any a len cap m nb W (HS.out.below (chain D3.out hW)) OK.out (by omega) n0
          rw [hN] at this
          exact this
        have HRP : Hid (∀ W, Below y3.heap.size y3 W → Calls Tryd.prog 12 #[.slice a len cap, .agg m.proc.toArray, .int .i64 nb] W fun e w' => ∃ v, e = .returned (.tuple #[v, .int .i64 0]) ∧ UOwn w' W.heap.size v (m.path N) ∧ Below W.heap.size W w') := fun W hW => by
          have := rpath_any a len cap m nb W (HS.out.below (chain D3.out hW)) OK.out (by omega) n0
          rw [hN] at this
          exact this
        have HRS : Hid (∀ W, Below y3.heap.size y3 W → Calls Tryd.prog 6 #[.slice a len cap, .agg m.proc.toArray] W fun e w' => ∃ v, e = .returned (.tuple #[v, .agg (m.run 1).m.proc.toArray, .agg (stopL (m.run 1)).toArray]) ∧ POwn w' W.heap.size v (m.run 1).m.pages ∧ (m.run 1).m.Ok ∧ Below W.heap.size W w') := fun W hW => rStep_any a len cap m W (HS.out.below (chain D3.out hW)) OK.out
        have HCR : Hid (∀ W, Below y3.heap.size y3 W → Calls Tryd.prog 13 #[.slice (some ⟨g, 0, none⟩) len c, .agg m.proc.toArray, .int .i64 nb] W fun e w' => ∃ v, e = .returned (.tuple #[v, .agg (m.run N).m.proc.toArray, .agg (stopL (m.run N)).toArray]) ∧ POwn w' W.heap.size v (m.run N).m.pages ∧ (m.run N).m.Ok ∧ Below W.heap.size W w') := fun W hW => by
          have := run_any (some ⟨g, 0, none⟩) len c m nb W (HG.out.below hW) OK.out A (HV.out.below (chain D3.out hW)) (by omega) n0
          rw [hN] at this
          exact this
        have HCP : Hid (∀ W, Below y3.heap.size y3 W → Calls Tryd.prog 14 #[.slice (some ⟨g, 0, none⟩) len c, .agg m.proc.toArray, .int .i64 nb] W fun e w' => ∃ v, e = .returned (.tuple #[v, .nilIface]) ∧ UOwn w' W.heap.size v (m.path N) ∧ Below W.heap.size W w') := fun W hW => by
          have := path_any (some ⟨g, 0, none⟩) len c m nb W (HG.out.below hW) OK.out A (HV.out.below (chain D3.out hW)) (by omega) n0
          rw [hN] at this
          exact this
        have HCS : Hid (∀ W, Below y3.heap.size y3 W → Calls Tryd.prog 7 #[.slice (some ⟨g, 0, none⟩) len c, .agg m.proc.toArray] W fun e w' => ∃ v, e = .returned (.tuple #[v, .agg (m.run 1).m.proc.toArray, .agg (stopL (m.run 1)).toArray]) ∧ POwn w' W.heap.size v (m.run 1).m.pages ∧ (m.run 1).m.Ok ∧ Below W.heap.size W w') := fun W hW => core_step_any (some ⟨g, 0, none⟩) len c m W (HG.out.below hW) OK.out A (HV.out.below (chain D3.out hW))
        have HCF : Hid (∀ W, Below y3.heap.size y3 W → Calls Tryd.prog 15 #[.slice (some ⟨g, 0, none⟩) len c, .int .u32 (m.pc : Int)] W fun e w' => (∃ x, e = .returned x) ∧ Below W.heap.size W w') := fun W hW => by
          refine Calls.mono (coreFetch_any (some ⟨g, 0, none⟩) len c m.pages m.pc W (HG.out.below hW) OK.out.pc (HV.out.below (chain D3.out hW)).isv) ?_
          rintro e w' ⟨rfl, hb⟩
          exact ⟨⟨_, rfl⟩, hb⟩
        have HSS : Hid (stl (stopL (m.run N))) := stl_stop _
        have HS1 : Hid (stopL (m.run N) = [.int .i64 ((m.run N).kind : Int), .int .i64 ((m.run N).steps : Int), .int .i64 (m.run N).code]) := rfl
        have HSS2 : Hid (stl (stopL (m.run 1))) := stl_stop _
        have HNN := hide hN
        clear hN
        generalize (m.path N) = PT at *
        generalize (m.run N) = R at *
        generalize (m.run 1) = R1 at *
        generalize hS1 : stopL R = S1 at *
        generalize hS2 : stopL R1 = S2 at *
        clear hS1 hS2
        obtain ⟨np, hnp⟩ : ∃ np, PT.length = np := ⟨_, rfl⟩
        have HNP := hide hnp
        have hnp2 : np ≤ 200 := by rw [← hnp]; exact HPM.out
        clear hnp HPM
        have G3 : Hid (Below y3.heap.size y3 y3) := Below.refl _ _
        have r4 : y3.rangeAt w.heap.size 0 m.proc := bl_range (Z3.out.below L3.out.1 G3.out)
        go_wp2_with (first | (with_reducible show wpList _ _ _ ({ dst := some 73, op := Go.Op.load 26 (Go.Operand.tmp 4), type := 26, pos := "outright.go:132", after := #[], guard := none } :: _) _ _; refine wpList_load_mid (op := { dst := some 73, op := Go.Op.load 26 (Go.Operand.tmp 4), type := 26, pos := "outright.go:132", after := #[], guard := none }) rfl 26 (.tmp 4) rfl w.heap.size 0 rfl m.proc _ r4 HU.out rfl HI.out ?_) | fail)
        refine Calls.mono (HRR.out y3 G3.out) ?_
        rintro e w4 ⟨v10, rfl, hoA, okA, bA⟩
        have OK1 := hide okA
        clear okA r4
        obtain ⟨t1A, t2A, ⟨j1A, j2A, j3A, j4A⟩, k1A, k2A, k3A, k4A⟩ := keepR w4 R.m S1 OK1.out HSS.out
        have T1A := hide t1A
        have T2A := hide t2A
        have J1A := hide j1A
        have J2A := hide j2A
        have J3A := hide j3A
        have J4A := hide j4A
        have K1A := hide k1A
        have K2A := hide k2A
        have K3A := hide k3A
        have K4A := hide k4A
        have WIA := hide (World.ownsRow.lt hoA)
        have SA := hide bA.size
        have HOA := hide (hoA.below k3A)
        have EA := hide (chain bA k3A)
        clear t1A t2A j1A j2A j3A j4A k1A k2A k3A k4A hoA bA
        go_upto_region 13 with (first | (with_reducible show wpList _ _ _ ({ dst := none, op := Go.Op.store 26 (Go.Operand.tmp 11) (Go.Operand.tmp 77), type := 0, pos := "outright.go:132", after := #[{ on := 8, ground := Go.Ground.data }, { on := 6, ground := Go.Ground.data }, { on := 10, ground := Go.Ground.chain }, { on := 0, ground := Go.Ground.phase }, { on := 1, ground := Go.Ground.phase }, { on := 2, ground := Go.Ground.phase }, { on := 3, ground := Go.Ground.phase }, { on := 4, ground := Go.Ground.phase }, { on := 5, ground := Go.Ground.phase }, { on := 6, ground := Go.Ground.phase }, { on := 7, ground := Go.Ground.textOnly Go.Departure.lateStores }, { on := 8, ground := Go.Ground.phase }, { on := 9, ground := Go.Ground.phase }, { on := 10, ground := Go.Ground.phase }], guard := none } :: _) _ _; refine wpList_store_mid (op := { dst := none, op := Go.Op.store 26 (Go.Operand.tmp 11) (Go.Operand.tmp 77), type := 0, pos := "outright.go:132", after := #[{ on := 8, ground := Go.Ground.data }, { on := 6, ground := Go.Ground.data }, { on := 10, ground := Go.Ground.chain }, { on := 0, ground := Go.Ground.phase }, { on := 1, ground := Go.Ground.phase }, { on := 2, ground := Go.Ground.phase }, { on := 3, ground := Go.Ground.phase }, { on := 4, ground := Go.Ground.phase }, { on := 5, ground := Go.Ground.phase }, { on := 6, ground := Go.Ground.phase }, { on := 7, ground := Go.Ground.textOnly Go.Departure.lateStores }, { on := 8, ground := Go.Ground.phase }, { on := 9, ground := Go.Ground.phase }, { on := 10, ground := Go.Ground.phase }], guard := none }) rfl 26 (.tmp 11) (.tmp 77) rfl w4.heap.size 0 R.m.proc.toArray rfl rfl T1A.out J1A.out J3A.out ?_) | (with_reducible show wpList _ _ _ ({ dst := none, op := Go.Op.store 29 (Go.Operand.tmp 12) (Go.Operand.tmp 78), type := 0, pos := "outright.go:132", after := #[{ on := 9, ground := Go.Ground.data }, { on := 7, ground := Go.Ground.data }, { on := 11, ground := Go.Ground.chain }, { on := 0, ground := Go.Ground.phase }, { on := 1, ground := Go.Ground.phase }, { on := 2, ground := Go.Ground.phase }, { on := 3, ground := Go.Ground.phase }, { on := 4, ground := Go.Ground.phase }, { on := 5, ground := Go.Ground.phase }, { on := 6, ground := Go.Ground.phase }, { on := 7, ground := Go.Ground.phase }, { on := 8, ground := Go.Ground.phase }, { on := 9, ground := Go.Ground.phase }, { on := 10, ground := Go.Ground.phase }, { on := 11, ground := Go.Ground.phase }], guard := none } :: _) _ _; refine wpList_store_mid (op := { dst := none, op := Go.Op.store 29 (Go.Operand.tmp 12) (Go.Operand.tmp 78), type := 0, pos := "outright.go:132", after := #[{ on := 9, ground := Go.Ground.data }, { on := 7, ground := Go.Ground.data }, { on := 11, ground := Go.Ground.chain }, { on := 0, ground := Go.Ground.phase }, { on := 1, ground := Go.Ground.phase }, { on := 2, ground := Go.Ground.phase }, { on := 3, ground := Go.Ground.phase }, { on := 4, ground := Go.Ground.phase }, { on := 5, ground := Go.Ground.phase }, { on := 6, ground := Go.Ground.phase }, { on := 7, ground := Go.Ground.phase }, { on := 8, ground := Go.Ground.phase }, { on := 9, ground := Go.Ground.phase }, { on := 10, ground := Go.Ground.phase }, { on := 11, ground := Go.Ground.phase }], guard := none }) rfl 29 (.tmp 12) (.tmp 78) rfl (w4.heap.size + 1) 0 S1.toArray rfl rfl T2A.out J2A.out J4A.out ?_) | fail)
        simp only [Act.put]
        generalize (((w4.alloc (.cells #[.int .u32 0, .int .u32 0, .int .u32 0, .int .u32 0, .int .u32 0, .int .u32 0, .int .u32 0, .int .u32 0, .int .u32 0, .int .u32 0, .int .u32 0, .int .u32 0, .int .u32 0, .int .u32 0, .int .u32 0, .int .u32 0, .int .u32 0, .int .i64 0, .int .i64 0, .int .i64 0, .int .i64 0] 26)).alloc (.cells #[.int .i64 0, .int .i64 0, .int .i64 0] 29)).setCells w4.heap.size 0 R.m.proc).setCells (w4.heap.size + 1) 0 S1 = y4 at *
        clear T1A T2A J1A J2A J3A J4A K3A
        have G4 := hide (chain G3.out EA.out)
        clear HRR
        have r4 : y4.rangeAt w.heap.size 0 m.proc := bl_range (Z3.out.below L3.out.1 G4.out)
        go_wp2_with (first | (with_reducible show wpList _ _ _ ({ dst := some 81, op := Go.Op.load 26 (Go.Operand.tmp 4), type := 26, pos := "outright.go:133", after := #[], guard := none } :: _) _ _; refine wpList_load_mid (op := { dst := some 81, op := Go.Op.load 26 (Go.Operand.tmp 4), type := 26, pos := "outright.go:133", after := #[], guard := none }) rfl 26 (.tmp 4) rfl w.heap.size 0 rfl m.proc _ r4 HU.out rfl HI.out ?_) | fail)
        refine Calls.mono (HRP.out y4 G4.out) ?_
        rintro e y5 ⟨u5, rfl, hu, b5⟩
        have HU5 := hide hu
        have WU5 := hide (World.ownsRow.lt hu)
        obtain ⟨ua, uc, hv5⟩ := hu.sl
        rw [HNP.out] at hv5
        subst hv5
        have E5 := hide b5
        have G5 := hide (chain G4.out b5)
        clear hu b5 r4
        go_upto_region 14 with fail
        clear HRP
        have r4 : y5.rangeAt w.heap.size 0 m.proc := bl_range (Z3.out.below L3.out.1 G5.out)
        go_wp2_with (first | (with_reducible show wpList _ _ _ ({ dst := some 88, op := Go.Op.load 26 (Go.Operand.tmp 4), type := 26, pos := "outright.go:134", after := #[], guard := none } :: _) _ _; refine wpList_load_mid (op := { dst := some 88, op := Go.Op.load 26 (Go.Operand.tmp 4), type := 26, pos := "outright.go:134", after := #[], guard := none }) rfl 26 (.tmp 4) rfl w.heap.size 0 rfl m.proc _ r4 HU.out rfl HI.out ?_) | fail)
        refine Calls.mono (HCR.out y5 G5.out) ?_
        rintro e w6 ⟨v15, rfl, hoB, okB, bB⟩
        have OKB := hide okB
        clear okB r4
        obtain ⟨t1B, t2B, ⟨j1B, j2B, j3B, j4B⟩, k1B, k2B, k3B, k4B⟩ := keepR w6 R.m S1 OKB.out HSS.out
        have T1B := hide t1B
        have T2B := hide t2B
        have J1B := hide j1B
        have J2B := hide j2B
        have J3B := hide j3B
        have J4B := hide j4B
        have K1B := hide k1B
        have K2B := hide k2B
        have K3B := hide k3B
        have K4B := hide k4B
        have WIB := hide (World.ownsRow.lt hoB)
        have SB := hide bB.size
        have HOB := hide (hoB.below k3B)
        have EB := hide (chain bB k3B)
        clear t1B t2B j1B j2B j3B j4B k1B k2B k3B k4B hoB bB
        go_upto_region 15 with (first | (with_reducible show wpList _ _ _ ({ dst := none, op := Go.Op.store 26 (Go.Operand.tmp 16) (Go.Operand.tmp 92), type := 0, pos := "outright.go:134", after := #[{ on := 8, ground := Go.Ground.data }, { on := 6, ground := Go.Ground.data }, { on := 10, ground := Go.Ground.chain }, { on := 0, ground := Go.Ground.phase }, { on := 1, ground := Go.Ground.phase }, { on := 2, ground := Go.Ground.phase }, { on := 3, ground := Go.Ground.phase }, { on := 4, ground := Go.Ground.phase }, { on := 5, ground := Go.Ground.phase }, { on := 6, ground := Go.Ground.phase }, { on := 7, ground := Go.Ground.textOnly Go.Departure.lateStores }, { on := 8, ground := Go.Ground.phase }, { on := 9, ground := Go.Ground.phase }, { on := 10, ground := Go.Ground.phase }], guard := none } :: _) _ _; refine wpList_store_mid (op := { dst := none, op := Go.Op.store 26 (Go.Operand.tmp 16) (Go.Operand.tmp 92), type := 0, pos := "outright.go:134", after := #[{ on := 8, ground := Go.Ground.data }, { on := 6, ground := Go.Ground.data }, { on := 10, ground := Go.Ground.chain }, { on := 0, ground := Go.Ground.phase }, { on := 1, ground := Go.Ground.phase }, { on := 2, ground := Go.Ground.phase }, { on := 3, ground := Go.Ground.phase }, { on := 4, ground := Go.Ground.phase }, { on := 5, ground := Go.Ground.phase }, { on := 6, ground := Go.Ground.phase }, { on := 7, ground := Go.Ground.textOnly Go.Departure.lateStores }, { on := 8, ground := Go.Ground.phase }, { on := 9, ground := Go.Ground.phase }, { on := 10, ground := Go.Ground.phase }], guard := none }) rfl 26 (.tmp 16) (.tmp 92) rfl w6.heap.size 0 R.m.proc.toArray rfl rfl T1B.out J1B.out J3B.out ?_) | (with_reducible show wpList _ _ _ ({ dst := none, op := Go.Op.store 29 (Go.Operand.tmp 17) (Go.Operand.tmp 93), type := 0, pos := "outright.go:134", after := #[{ on := 9, ground := Go.Ground.data }, { on := 7, ground := Go.Ground.data }, { on := 11, ground := Go.Ground.chain }, { on := 0, ground := Go.Ground.phase }, { on := 1, ground := Go.Ground.phase }, { on := 2, ground := Go.Ground.phase }, { on := 3, ground := Go.Ground.phase }, { on := 4, ground := Go.Ground.phase }, { on := 5, ground := Go.Ground.phase }, { on := 6, ground := Go.Ground.phase }, { on := 7, ground := Go.Ground.phase }, { on := 8, ground := Go.Ground.phase }, { on := 9, ground := Go.Ground.phase }, { on := 10, ground := Go.Ground.phase }, { on := 11, ground := Go.Ground.phase }], guard := none } :: _) _ _; refine wpList_store_mid (op := { dst := none, op := Go.Op.store 29 (Go.Operand.tmp 17) (Go.Operand.tmp 93), type := 0, pos := "outright.go:134", after := #[{ on := 9, ground := Go.Ground.data }, { on := 7, ground := Go.Ground.data }, { on := 11, ground := Go.Ground.chain }, { on := 0, ground := Go.Ground.phase }, { on := 1, ground := Go.Ground.phase }, { on := 2, ground := Go.Ground.phase }, { on := 3, ground := Go.Ground.phase }, { on := 4, ground := Go.Ground.phase }, { on := 5, ground := Go.Ground.phase }, { on := 6, ground := Go.Ground.phase }, { on := 7, ground := Go.Ground.phase }, { on := 8, ground := Go.Ground.phase }, { on := 9, ground := Go.Ground.phase }, { on := 10, ground := Go.Ground.phase }, { on := 11, ground := Go.Ground.phase }], guard := none }) rfl 29 (.tmp 17) (.tmp 93) rfl (w6.heap.size + 1) 0 S1.toArray rfl rfl T2B.out J2B.out J4B.out ?_) | fail)
        simp only [Act.put]
        generalize (((w6.alloc (.cells #[.int .u32 0, .int .u32 0, .int .u32 0, .int .u32 0, .int .u32 0, .int .u32 0, .int .u32 0, .int .u32 0, .int .u32 0, .int .u32 0, .int .u32 0, .int .u32 0, .int .u32 0, .int .u32 0, .int .u32 0, .int .u32 0, .int .u32 0, .int .i64 0, .int .i64 0, .int .i64 0, .int .i64 0] 26)).alloc (.cells #[.int .i64 0, .int .i64 0, .int .i64 0] 29)).setCells w6.heap.size 0 R.m.proc).setCells (w6.heap.size + 1) 0 S1 = y6 at *
        clear T1B T2B J1B J2B J3B J4B K3B
        have G6 := hide (chain G5.out EB.out)
        have r4 : y6.rangeAt w.heap.size 0 m.proc := bl_range (Z3.out.below L3.out.1 G6.out)
        go_wp2_with (first | (with_reducible show wpList _ _ _ ({ dst := some 96, op := Go.Op.load 26 (Go.Operand.tmp 4), type := 26, pos := "outright.go:135", after := #[], guard := none } :: _) _ _; refine wpList_load_mid (op := { dst := some 96, op := Go.Op.load 26 (Go.Operand.tmp 4), type := 26, pos := "outright.go:135", after := #[], guard := none }) rfl 26 (.tmp 4) rfl w.heap.size 0 rfl m.proc _ r4 HU.out rfl HI.out ?_) | fail)
        refine Calls.mono (HCR.out y6 G6.out) ?_
        rintro e w7 ⟨v18, rfl, hoC, okC, bC⟩
        have OKC := hide okC
        clear okC r4
        obtain ⟨t1C, t2C, ⟨j1C, j2C, j3C, j4C⟩, k1C, k2C, k3C, k4C⟩ := keepR w7 R.m S1 OKC.out HSS.out
        have T1C := hide t1C
        have T2C := hide t2C
        have J1C := hide j1C
        have J2C := hide j2C
        have J3C := hide j3C
        have J4C := hide j4C
        have K1C := hide k1C
        have K2C := hide k2C
        have K3C := hide k3C
        have K4C := hide k4C
        have WIC := hide (World.ownsRow.lt hoC)
        have SC := hide bC.size
        have HOC := hide (hoC.below k3C)
        have EC := hide (chain bC k3C)
        clear t1C t2C j1C j2C j3C j4C k1C k2C k3C k4C hoC bC
        go_upto_region 16 with (first | (with_reducible show wpList _ _ _ ({ dst := none, op := Go.Op.store 26 (Go.Operand.tmp 19) (Go.Operand.tmp 100), type := 0, pos := "outright.go:135", after := #[{ on := 8, ground := Go.Ground.data }, { on := 6, ground := Go.Ground.data }, { on := 10, ground := Go.Ground.chain }, { on := 0, ground := Go.Ground.phase }, { on := 1, ground := Go.Ground.phase }, { on := 2, ground := Go.Ground.phase }, { on := 3, ground := Go.Ground.phase }, { on := 4, ground := Go.Ground.phase }, { on := 5, ground := Go.Ground.phase }, { on := 6, ground := Go.Ground.phase }, { on := 7, ground := Go.Ground.textOnly Go.Departure.lateStores }, { on := 8, ground := Go.Ground.phase }, { on := 9, ground := Go.Ground.phase }, { on := 10, ground := Go.Ground.phase }], guard := none } :: _) _ _; refine wpList_store_mid (op := { dst := none, op := Go.Op.store 26 (Go.Operand.tmp 19) (Go.Operand.tmp 100), type := 0, pos := "outright.go:135", after := #[{ on := 8, ground := Go.Ground.data }, { on := 6, ground := Go.Ground.data }, { on := 10, ground := Go.Ground.chain }, { on := 0, ground := Go.Ground.phase }, { on := 1, ground := Go.Ground.phase }, { on := 2, ground := Go.Ground.phase }, { on := 3, ground := Go.Ground.phase }, { on := 4, ground := Go.Ground.phase }, { on := 5, ground := Go.Ground.phase }, { on := 6, ground := Go.Ground.phase }, { on := 7, ground := Go.Ground.textOnly Go.Departure.lateStores }, { on := 8, ground := Go.Ground.phase }, { on := 9, ground := Go.Ground.phase }, { on := 10, ground := Go.Ground.phase }], guard := none }) rfl 26 (.tmp 19) (.tmp 100) rfl w7.heap.size 0 R.m.proc.toArray rfl rfl T1C.out J1C.out J3C.out ?_) | (with_reducible show wpList _ _ _ ({ dst := none, op := Go.Op.store 29 (Go.Operand.tmp 20) (Go.Operand.tmp 101), type := 0, pos := "outright.go:135", after := #[{ on := 9, ground := Go.Ground.data }, { on := 7, ground := Go.Ground.data }, { on := 11, ground := Go.Ground.chain }, { on := 0, ground := Go.Ground.phase }, { on := 1, ground := Go.Ground.phase }, { on := 2, ground := Go.Ground.phase }, { on := 3, ground := Go.Ground.phase }, { on := 4, ground := Go.Ground.phase }, { on := 5, ground := Go.Ground.phase }, { on := 6, ground := Go.Ground.phase }, { on := 7, ground := Go.Ground.phase }, { on := 8, ground := Go.Ground.phase }, { on := 9, ground := Go.Ground.phase }, { on := 10, ground := Go.Ground.phase }, { on := 11, ground := Go.Ground.phase }], guard := none } :: _) _ _; refine wpList_store_mid (op := { dst := none, op := Go.Op.store 29 (Go.Operand.tmp 20) (Go.Operand.tmp 101), type := 0, pos := "outright.go:135", after := #[{ on := 9, ground := Go.Ground.data }, { on := 7, ground := Go.Ground.data }, { on := 11, ground := Go.Ground.chain }, { on := 0, ground := Go.Ground.phase }, { on := 1, ground := Go.Ground.phase }, { on := 2, ground := Go.Ground.phase }, { on := 3, ground := Go.Ground.phase }, { on := 4, ground := Go.Ground.phase }, { on := 5, ground := Go.Ground.phase }, { on := 6, ground := Go.Ground.phase }, { on := 7, ground := Go.Ground.phase }, { on := 8, ground := Go.Ground.phase }, { on := 9, ground := Go.Ground.phase }, { on := 10, ground := Go.Ground.phase }, { on := 11, ground := Go.Ground.phase }], guard := none }) rfl 29 (.tmp 20) (.tmp 101) rfl (w7.heap.size + 1) 0 S1.toArray rfl rfl T2C.out J2C.out J4C.out ?_) | fail)
        simp only [Act.put]
        generalize (((w7.alloc (.cells #[.int .u32 0, .int .u32 0, .int .u32 0, .int .u32 0, .int .u32 0, .int .u32 0, .int .u32 0, .int .u32 0, .int .u32 0, .int .u32 0, .int .u32 0, .int .u32 0, .int .u32 0, .int .u32 0, .int .u32 0, .int .u32 0, .int .u32 0, .int .i64 0, .int .i64 0, .int .i64 0, .int .i64 0] 26)).alloc (.cells #[.int .i64 0, .int .i64 0, .int .i64 0] 29)).setCells w7.heap.size 0 R.m.proc).setCells (w7.heap.size + 1) 0 S1 = y7 at *
        clear T1C T2C J1C J2C J3C J4C K3C
        have G7 := hide (chain G6.out EC.out)
        clear HCR
        have r4 : y7.rangeAt w.heap.size 0 m.proc := bl_range (Z3.out.below L3.out.1 G7.out)
        go_wp2_with (first | (with_reducible show wpList _ _ _ ({ dst := some 104, op := Go.Op.load 26 (Go.Operand.tmp 4), type := 26, pos := "outright.go:136", after := #[], guard := none } :: _) _ _; refine wpList_load_mid (op := { dst := some 104, op := Go.Op.load 26 (Go.Operand.tmp 4), type := 26, pos := "outright.go:136", after := #[], guard := none }) rfl 26 (.tmp 4) rfl w.heap.size 0 rfl m.proc _ r4 HU.out rfl HI.out ?_) | fail)
        refine Calls.mono (HCS.out y7 G7.out) ?_
        rintro e w8 ⟨v21, rfl, hoD, okD, bD⟩
        have OK2 := hide okD
        clear okD r4
        obtain ⟨t1D, t2D, ⟨j1D, j2D, j3D, j4D⟩, k1D, k2D, k3D, k4D⟩ := keepR w8 R1.m S2 OK2.out HSS2.out
        have T1D := hide t1D
        have T2D := hide t2D
        have J1D := hide j1D
        have J2D := hide j2D
        have J3D := hide j3D
        have J4D := hide j4D
        have K1D := hide k1D
        have K2D := hide k2D
        have K3D := hide k3D
        have K4D := hide k4D
        have WID := hide (World.ownsRow.lt hoD)
        have SD := hide bD.size
        have HOD := hide (hoD.below k3D)
        have ED := hide (chain bD k3D)
        clear t1D t2D j1D j2D j3D j4D k1D k2D k3D k4D hoD bD
        go_upto_region 17 with (first | (with_reducible show wpList _ _ _ ({ dst := none, op := Go.Op.store 26 (Go.Operand.tmp 22) (Go.Operand.tmp 107), type := 0, pos := "outright.go:136", after := #[{ on := 7, ground := Go.Ground.data }, { on := 5, ground := Go.Ground.data }, { on := 9, ground := Go.Ground.chain }, { on := 0, ground := Go.Ground.phase }, { on := 1, ground := Go.Ground.phase }, { on := 2, ground := Go.Ground.phase }, { on := 3, ground := Go.Ground.phase }, { on := 4, ground := Go.Ground.phase }, { on := 5, ground := Go.Ground.phase }, { on := 6, ground := Go.Ground.textOnly Go.Departure.lateStores }, { on := 7, ground := Go.Ground.phase }, { on := 8, ground := Go.Ground.phase }, { on := 9, ground := Go.Ground.phase }], guard := none } :: _) _ _; refine wpList_store_mid (op := { dst := none, op := Go.Op.store 26 (Go.Operand.tmp 22) (Go.Operand.tmp 107), type := 0, pos := "outright.go:136", after := #[{ on := 7, ground := Go.Ground.data }, { on := 5, ground := Go.Ground.data }, { on := 9, ground := Go.Ground.chain }, { on := 0, ground := Go.Ground.phase }, { on := 1, ground := Go.Ground.phase }, { on := 2, ground := Go.Ground.phase }, { on := 3, ground := Go.Ground.phase }, { on := 4, ground := Go.Ground.phase }, { on := 5, ground := Go.Ground.phase }, { on := 6, ground := Go.Ground.textOnly Go.Departure.lateStores }, { on := 7, ground := Go.Ground.phase }, { on := 8, ground := Go.Ground.phase }, { on := 9, ground := Go.Ground.phase }], guard := none }) rfl 26 (.tmp 22) (.tmp 107) rfl w8.heap.size 0 R1.m.proc.toArray rfl rfl T1D.out J1D.out J3D.out ?_) | (with_reducible show wpList _ _ _ ({ dst := none, op := Go.Op.store 29 (Go.Operand.tmp 23) (Go.Operand.tmp 108), type := 0, pos := "outright.go:136", after := #[{ on := 8, ground := Go.Ground.data }, { on := 6, ground := Go.Ground.data }, { on := 10, ground := Go.Ground.chain }, { on := 0, ground := Go.Ground.phase }, { on := 1, ground := Go.Ground.phase }, { on := 2, ground := Go.Ground.phase }, { on := 3, ground := Go.Ground.phase }, { on := 4, ground := Go.Ground.phase }, { on := 5, ground := Go.Ground.phase }, { on := 6, ground := Go.Ground.phase }, { on := 7, ground := Go.Ground.phase }, { on := 8, ground := Go.Ground.phase }, { on := 9, ground := Go.Ground.phase }, { on := 10, ground := Go.Ground.phase }], guard := none } :: _) _ _; refine wpList_store_mid (op := { dst := none, op := Go.Op.store 29 (Go.Operand.tmp 23) (Go.Operand.tmp 108), type := 0, pos := "outright.go:136", after := #[{ on := 8, ground := Go.Ground.data }, { on := 6, ground := Go.Ground.data }, { on := 10, ground := Go.Ground.chain }, { on := 0, ground := Go.Ground.phase }, { on := 1, ground := Go.Ground.phase }, { on := 2, ground := Go.Ground.phase }, { on := 3, ground := Go.Ground.phase }, { on := 4, ground := Go.Ground.phase }, { on := 5, ground := Go.Ground.phase }, { on := 6, ground := Go.Ground.phase }, { on := 7, ground := Go.Ground.phase }, { on := 8, ground := Go.Ground.phase }, { on := 9, ground := Go.Ground.phase }, { on := 10, ground := Go.Ground.phase }], guard := none }) rfl 29 (.tmp 23) (.tmp 108) rfl (w8.heap.size + 1) 0 S2.toArray rfl rfl T2D.out J2D.out J4D.out ?_) | fail)
        simp only [Act.put]
        generalize (((w8.alloc (.cells #[.int .u32 0, .int .u32 0, .int .u32 0, .int .u32 0, .int .u32 0, .int .u32 0, .int .u32 0, .int .u32 0, .int .u32 0, .int .u32 0, .int .u32 0, .int .u32 0, .int .u32 0, .int .u32 0, .int .u32 0, .int .u32 0, .int .u32 0, .int .i64 0, .int .i64 0, .int .i64 0, .int .i64 0] 26)).alloc (.cells #[.int .i64 0, .int .i64 0, .int .i64 0] 29)).setCells w8.heap.size 0 R1.m.proc).setCells (w8.heap.size + 1) 0 S2 = y8 at *
        clear T1D T2D J1D J2D J3D J4D K3D
        have G8 := hide (chain G7.out ED.out)
        clear HCS
        have r4 : y8.rangeAt w.heap.size 0 m.proc := bl_range (Z3.out.below L3.out.1 G8.out)
        go_wp2_with (first | (with_reducible show wpList _ _ _ ({ dst := some 111, op := Go.Op.load 26 (Go.Operand.tmp 4), type := 26, pos := "outright.go:137", after := #[], guard := none } :: _) _ _; refine wpList_load_mid (op := { dst := some 111, op := Go.Op.load 26 (Go.Operand.tmp 4), type := 26, pos := "outright.go:137", after := #[], guard := none }) rfl 26 (.tmp 4) rfl w.heap.size 0 rfl m.proc _ r4 HU.out rfl HI.out ?_) | fail)
        refine Calls.mono (HCP.out y8 G8.out) ?_
        rintro e y9 ⟨u9, rfl, hu, b9⟩
        have HU9 := hide hu
        have WU9 := hide (World.ownsRow.lt hu)
        obtain ⟨pa, pc, hv9⟩ := hu.sl
        rw [HNP.out] at hv9
        subst hv9
        have E9 := hide b9
        have G9 := hide (chain G8.out b9)
        clear hu b9 r4
        go_upto_region 18 with fail
        have r4 : y9.rangeAt w.heap.size 0 m.proc := bl_range (Z3.out.below L3.out.1 G9.out)
        go_wp2_with (first | (with_reducible show wpList _ _ _ ({ dst := some 118, op := Go.Op.load 26 (Go.Operand.tmp 4), type := 26, pos := "outright.go:138", after := #[], guard := none } :: _) _ _; refine wpList_load_mid (op := { dst := some 118, op := Go.Op.load 26 (Go.Operand.tmp 4), type := 26, pos := "outright.go:138", after := #[], guard := none }) rfl 26 (.tmp 4) rfl w.heap.size 0 rfl m.proc _ r4 HU.out rfl HI.out ?_) | fail)
        refine Calls.mono (HCP.out y9 G9.out) ?_
        rintro e y10 ⟨u10, rfl, hu, b10⟩
        have HU10 := hide hu
        have WU10 := hide (World.ownsRow.lt hu)
        obtain ⟨qa, qc, hv10⟩ := hu.sl
        rw [HNP.out] at hv10
        subst hv10
        have E10 := hide b10
        have G10 := hide (chain G9.out b10)
        clear hu b10 r4
        go_upto_region 19 with fail
        clear HCP
        have r4 : y10.rangeAt w.heap.size 0 m.proc := bl_range (Z3.out.below L3.out.1 G10.out)
        go_wp2_with (first | (with_reducible show wpList _ _ _ ({ dst := some 125, op := Go.Op.load 26 (Go.Operand.tmp 4), type := 26, pos := "outright.go:139", after := #[], guard := none } :: _) _ _; refine wpList_load_mid (op := { dst := some 125, op := Go.Op.load 26 (Go.Operand.tmp 4), type := 26, pos := "outright.go:139", after := #[], guard := none }) rfl 26 (.tmp 4) rfl w.heap.size 0 rfl m.proc _ r4 HU.out rfl HI.out ?_) | fail)
        refine Calls.mono (HRS.out y10 G10.out) ?_
        rintro e w11 ⟨v28, rfl, hoE, okE, bE⟩
        have OKE := hide okE
        clear okE r4
        obtain ⟨t1E, t2E, ⟨j1E, j2E, j3E, j4E⟩, k1E, k2E, k3E, k4E⟩ := keepR w11 R1.m S2 OKE.out HSS2.out
        have T1E := hide t1E
        have T2E := hide t2E
        have J1E := hide j1E
        have J2E := hide j2E
        have J3E := hide j3E
        have J4E := hide j4E
        have K1E := hide k1E
        have K2E := hide k2E
        have K3E := hide k3E
        have K4E := hide k4E
        have WIE := hide (World.ownsRow.lt hoE)
        have SE := hide bE.size
        have HOE := hide (hoE.below k3E)
        have EE := hide (chain bE k3E)
        clear t1E t2E j1E j2E j3E j4E k1E k2E k3E k4E hoE bE
        go_upto_region 20 with (first | (with_reducible show wpList _ _ _ ({ dst := none, op := Go.Op.store 26 (Go.Operand.tmp 29) (Go.Operand.tmp 128), type := 0, pos := "outright.go:139", after := #[{ on := 7, ground := Go.Ground.data }, { on := 5, ground := Go.Ground.data }, { on := 9, ground := Go.Ground.chain }, { on := 0, ground := Go.Ground.phase }, { on := 1, ground := Go.Ground.phase }, { on := 2, ground := Go.Ground.phase }, { on := 3, ground := Go.Ground.phase }, { on := 4, ground := Go.Ground.phase }, { on := 5, ground := Go.Ground.phase }, { on := 6, ground := Go.Ground.textOnly Go.Departure.lateStores }, { on := 7, ground := Go.Ground.phase }, { on := 8, ground := Go.Ground.phase }, { on := 9, ground := Go.Ground.phase }], guard := none } :: _) _ _; refine wpList_store_mid (op := { dst := none, op := Go.Op.store 26 (Go.Operand.tmp 29) (Go.Operand.tmp 128), type := 0, pos := "outright.go:139", after := #[{ on := 7, ground := Go.Ground.data }, { on := 5, ground := Go.Ground.data }, { on := 9, ground := Go.Ground.chain }, { on := 0, ground := Go.Ground.phase }, { on := 1, ground := Go.Ground.phase }, { on := 2, ground := Go.Ground.phase }, { on := 3, ground := Go.Ground.phase }, { on := 4, ground := Go.Ground.phase }, { on := 5, ground := Go.Ground.phase }, { on := 6, ground := Go.Ground.textOnly Go.Departure.lateStores }, { on := 7, ground := Go.Ground.phase }, { on := 8, ground := Go.Ground.phase }, { on := 9, ground := Go.Ground.phase }], guard := none }) rfl 26 (.tmp 29) (.tmp 128) rfl w11.heap.size 0 R1.m.proc.toArray rfl rfl T1E.out J1E.out J3E.out ?_) | (with_reducible show wpList _ _ _ ({ dst := none, op := Go.Op.store 29 (Go.Operand.tmp 30) (Go.Operand.tmp 129), type := 0, pos := "outright.go:139", after := #[{ on := 8, ground := Go.Ground.data }, { on := 6, ground := Go.Ground.data }, { on := 10, ground := Go.Ground.chain }, { on := 0, ground := Go.Ground.phase }, { on := 1, ground := Go.Ground.phase }, { on := 2, ground := Go.Ground.phase }, { on := 3, ground := Go.Ground.phase }, { on := 4, ground := Go.Ground.phase }, { on := 5, ground := Go.Ground.phase }, { on := 6, ground := Go.Ground.phase }, { on := 7, ground := Go.Ground.phase }, { on := 8, ground := Go.Ground.phase }, { on := 9, ground := Go.Ground.phase }, { on := 10, ground := Go.Ground.phase }], guard := none } :: _) _ _; refine wpList_store_mid (op := { dst := none, op := Go.Op.store 29 (Go.Operand.tmp 30) (Go.Operand.tmp 129), type := 0, pos := "outright.go:139", after := #[{ on := 8, ground := Go.Ground.data }, { on := 6, ground := Go.Ground.data }, { on := 10, ground := Go.Ground.chain }, { on := 0, ground := Go.Ground.phase }, { on := 1, ground := Go.Ground.phase }, { on := 2, ground := Go.Ground.phase }, { on := 3, ground := Go.Ground.phase }, { on := 4, ground := Go.Ground.phase }, { on := 5, ground := Go.Ground.phase }, { on := 6, ground := Go.Ground.phase }, { on := 7, ground := Go.Ground.phase }, { on := 8, ground := Go.Ground.phase }, { on := 9, ground := Go.Ground.phase }, { on := 10, ground := Go.Ground.phase }], guard := none }) rfl 29 (.tmp 30) (.tmp 129) rfl (w11.heap.size + 1) 0 S2.toArray rfl rfl T2E.out J2E.out J4E.out ?_) | fail)
        simp only [Act.put]
        generalize (((w11.alloc (.cells #[.int .u32 0, .int .u32 0, .int .u32 0, .int .u32 0, .int .u32 0, .int .u32 0, .int .u32 0, .int .u32 0, .int .u32 0, .int .u32 0, .int .u32 0, .int .u32 0, .int .u32 0, .int .u32 0, .int .u32 0, .int .u32 0, .int .u32 0, .int .i64 0, .int .i64 0, .int .i64 0, .int .i64 0] 26)).alloc (.cells #[.int .i64 0, .int .i64 0, .int .i64 0] 29)).setCells w11.heap.size 0 R1.m.proc).setCells (w11.heap.size + 1) 0 S2 = y11 at *
        clear T1E T2E J1E J2E J3E J4E K3E
        have G11 := hide (chain G10.out EE.out)
        clear HRS
        have c16 : y11.cell? ⟨w.heap.size, 16, none⟩ = some (.int .u32 (m.pc : Int)) := (Z3.out.below L3.out.1 G11.out).cell 16 _ (proc_pc m OK.out)
        go_wp2_with fail
        refine Calls.mono (HCF.out y11 G11.out) ?_
        rintro e y12 ⟨⟨xf, rfl⟩, b12⟩
        have E12 := hide b12
        have G12 := hide (chain G11.out b12)
        clear b12 c16 HCF
        go_upto_region 21 with fail
        have hA1 := K1A.out.below (by have := K4A.out; omega) (chain E5.out (chain EB.out (chain EC.out (chain ED.out (chain E9.out (chain E10.out (chain EE.out E12.out)))))))
        have hA2 := K2A.out.below (by have := K4A.out; omega) (chain E5.out (chain EB.out (chain EC.out (chain ED.out (chain E9.out (chain E10.out (chain EE.out E12.out)))))))
        have hB1 := K1B.out.below (by have := K4B.out; omega) (chain EC.out (chain ED.out (chain E9.out (chain E10.out (chain EE.out E12.out)))))
        have hB2 := K2B.out.below (by have := K4B.out; omega) (chain EC.out (chain ED.out (chain E9.out (chain E10.out (chain EE.out E12.out)))))
        have HQ := hide (And.intro (bl_range hB2) (And.intro (bl_range hA2) (And.intro (bl_range hB1) (bl_range hA1))))
        have HU32 := hide Tryd.underlying29
        have HI32 : Hid ((Tryd.prog.info? 29).map (·.size) = some S1.length) := by unfold Hid; rw [HSS.out.1]; exact infoStop
        have HI1 : Hid ((Tryd.prog.info? 26).map (·.size) = some R.m.proc.length) := by unfold Hid; rw [proc_len OK1.out]; exact infoProc
        have HA12 := hide (HOA.out.below (chain E5.out (chain EB.out (chain EC.out (chain ED.out (chain E9.out (chain E10.out (chain EE.out E12.out))))))))
        have HB12 := hide (HOB.out.below (chain EC.out (chain ED.out (chain E9.out (chain E10.out (chain EE.out E12.out))))))
        have HC12 := hide (HOC.out.below (chain ED.out (chain E9.out (chain E10.out (chain EE.out E12.out)))))
        have HD12 := hide (HOD.out.below (chain E9.out (chain E10.out (chain EE.out E12.out))))
        have HE12 := hide (HOE.out.below E12.out)
        have HV12 := hide (HU5.out.below (chain EB.out (chain EC.out (chain ED.out (chain E9.out (chain E10.out (chain EE.out E12.out)))))))
        have HP12 := hide (HU9.out.below (chain E10.out (chain EE.out E12.out)))
        have HA2 := hide (HU10.out.below (chain EE.out E12.out))
        have HSB : Hid (∀ W, Below y12.heap.size y12 W → Calls Tryd.prog 8 #[v15, v10] W fun e w' => e = .returned (.bool true) ∧ Below W.heap.size W w') := fun W hW => same_own (HB12.out.below hW) (HA12.out.below hW) OK1.out.ok OK1.out.most
        have HSC : Hid (∀ W, Below y12.heap.size y12 W → Calls Tryd.prog 8 #[v18, v10] W fun e w' => e = .returned (.bool true) ∧ Below W.heap.size W w') := fun W hW => same_own (HC12.out.below hW) (HA12.out.below hW) OK1.out.ok OK1.out.most
        have HSD : Hid (∀ W, Below y12.heap.size y12 W → Calls Tryd.prog 8 #[v21, v28] W fun e w' => e = .returned (.bool true) ∧ Below W.heap.size W w') := fun W hW => same_own (HD12.out.below hW) (HE12.out.below hW) OK2.out.ok OK2.out.most
        have HEP : Hid (∀ W, Below y12.heap.size y12 W → Calls Tryd.prog 16 #[.slice pa np pc, .slice ua np uc] W fun e w' => e = .returned (.bool true) ∧ Below W.heap.size W w') := fun W hW => eq_lists (HP12.out.below hW) (HV12.out.below hW) HNP.out (by omega)
        have HEQ : Hid (∀ W, Below y12.heap.size y12 W → Calls Tryd.prog 16 #[.slice qa np qc, .slice ua np uc] W fun e w' => e = .returned (.bool true) ∧ Below W.heap.size W w') := fun W hW => eq_lists (HA2.out.below hW) (HV12.out.below hW) HNP.out (by omega)
        have LZ : Hid (y3.heap.size ≤ w4.heap.size ∧ w4.heap.size + 2 ≤ y4.heap.size ∧ y4.heap.size ≤ y5.heap.size ∧ y5.heap.size ≤ w6.heap.size ∧ w6.heap.size + 2 ≤ y6.heap.size ∧ y6.heap.size ≤ w7.heap.size ∧ w7.heap.size + 2 ≤ y7.heap.size ∧ y7.heap.size ≤ w8.heap.size ∧ w8.heap.size + 2 ≤ y8.heap.size ∧ y8.heap.size ≤ y9.heap.size ∧ y9.heap.size ≤ y10.heap.size ∧ y10.heap.size ≤ y12.heap.size) := by
          have h1 := SA.out
          have h2 := K4A.out
          have h3 := E5.out.size
          have h4 := SB.out
          have h5 := K4B.out
          have h6 := SC.out
          have h7 := K4C.out
          have h8 := SD.out
          have h9 := K4D.out
          have h10 := E9.out.size
          have h11 := E10.out.size
          have h12 := EE.out.size
          have h13 := E12.out.size
          unfold Hid
          omega
        clear hA1 hA2 hB1 hB2 K1A K2A K4A K1B K2B K4B K1C K2C K4C K1D K2D K4D K1E K2E K4E HOA HOB HOC HOD HOE HU5 HU9 HU10 EA E5 EB EC ED E9 E10 EE E12 G3 G4 G5 G6 G7 G8 G9 G10 G11 SA SB SC SD SE
        refine wp_region_list ?_
        refine wpList_load_g (op := { dst := some 134, op := Go.Op.load 29 (Go.Operand.tmp 17), type := 29, pos := "outright.go:141", after := #[], guard := none }) (by rfl) 29 (.tmp 17) rfl (w6.heap.size + 1) (0) rfl S1 _ HQ.out.1 HU32.out rfl HI32.out ?_
        simp only [Act.put, List.setIfInBounds_toArray, List.set_cons_zero, List.set_cons_succ]
        refine wpList_load_g (op := { dst := some 135, op := Go.Op.load 29 (Go.Operand.tmp 12), type := 29, pos := "outright.go:141", after := #[], guard := none }) (by rfl) 29 (.tmp 12) rfl (w4.heap.size + 1) (0) rfl S1 _ HQ.out.2.1 HU32.out rfl HI32.out ?_
        simp only [Act.put, List.setIfInBounds_toArray, List.set_cons_zero, List.set_cons_succ]
        refine wpList_run_g (op := { dst := some 136, op := Go.Op.binOp Go.BinOp.neq 29 (Go.Operand.tmp 134) (Go.Operand.tmp 135) 29, type := 4, pos := "outright.go:141", after := #[{ on := 0, ground := Go.Ground.data }, { on := 1, ground := Go.Ground.data }], guard := none }) (by rfl) (.bool false) (neq_stop HS1.out _ (.tmp 134) (.tmp 135) rfl rfl _ _ rfl _) ?_
        simp only [Act.put, List.setIfInBounds_toArray, List.set_cons_zero, List.set_cons_succ]
        refine wpList_tail (pre := [{ dst := some 137, op := Go.Op.move (Go.Operand.tmp 136), type := 4, pos := "outright.go:141", after := #[{ on := 2, ground := Go.Ground.data }], guard := none }]) _ ?_
        intro tl htl
        have HTL := hide htl
        clear htl
        simp only [List.cons_append, List.nil_append]
        go_wp2_with fail
        have htl := HTL.out
        clear HTL
        subst htl
        refine wpList_load_g (op := { dst := some 138, op := Go.Op.load 26 (Go.Operand.tmp 16), type := 26, pos := "outright.go:141", after := #[{ on := 3, ground := Go.Ground.guard }], guard := some (3, false) }) (by rfl) 26 (.tmp 16) rfl w6.heap.size (0) rfl R.m.proc _ HQ.out.2.2.1 HU.out rfl HI1.out ?_
        simp only [Act.put, List.setIfInBounds_toArray, List.set_cons_zero, List.set_cons_succ]
        refine wpList_load_g (op := { dst := some 139, op := Go.Op.load 26 (Go.Operand.tmp 11), type := 26, pos := "outright.go:141", after := #[{ on := 3, ground := Go.Ground.guard }], guard := some (3, false) }) (by rfl) 26 (.tmp 11) rfl w4.heap.size (0) rfl R.m.proc _ HQ.out.2.2.2 HU.out rfl HI1.out ?_
        simp only [Act.put, List.setIfInBounds_toArray, List.set_cons_zero, List.set_cons_succ]
        refine wpList_run_g (op := { dst := some 140, op := Go.Op.binOp Go.BinOp.neq 26 (Go.Operand.tmp 138) (Go.Operand.tmp 139) 26, type := 4, pos := "outright.go:141", after := #[{ on := 4, ground := Go.Ground.data }, { on := 5, ground := Go.Ground.data }, { on := 3, ground := Go.Ground.guard }], guard := some (3, false) }) (by rfl) (.bool false) (neq_proc OK1.out _ (.tmp 138) (.tmp 139) rfl rfl _ _ rfl _) ?_
        simp only [Act.put, List.setIfInBounds_toArray, List.set_cons_zero, List.set_cons_succ]
        go_wp2_with fail
        refine Calls.mono (HSB.out y12 (Below.refl _ _)) ?_
        rintro e y13 ⟨rfl, b13⟩
        have X13 := hide b13
        clear b13
        go_wp2_with fail
        refine Calls.mono (HSC.out y13 X13.out) ?_
        rintro e y14 ⟨rfl, b14⟩
        have X14 := hide (chain X13.out b14)
        clear b14
        go_wp2_with fail
        refine Calls.mono (HSD.out y14 X14.out) ?_
        rintro e y15 ⟨rfl, b15⟩
        have X15 := hide (chain X14.out b15)
        clear b15
        go_wp2_with fail
        refine Calls.mono (HEP.out y15 X15.out) ?_
        rintro e y16 ⟨rfl, b16⟩
        have X16 := hide (chain X15.out b16)
        clear b16
        go_wp2_with fail
        refine Calls.mono (HEQ.out y16 X16.out) ?_
        rintro e y17 ⟨rfl, b17⟩
        have X17 := hide (chain X16.out b17)
        have A17 := hide (HA12.out.below X17.out)
        have B17 := hide (HB12.out.below X17.out)
        have C17 := hide (HC12.out.below X17.out)
        have D17 := hide (HD12.out.below X17.out)
        have V17 := hide (HV12.out.below X17.out)
        have P17 := hide (HP12.out.below X17.out)
        have Q17 := hide (HA2.out.below X17.out)
        have G17 := hide (chain G12.out X17.out)
        have L17 : Hid (y10.heap.size ≤ y17.heap.size) := by have h1 := LZ.out; have h2 := X17.out.size; unfold Hid; omega
        clear b17 X13 X14 X15 X16 X17 HA12 HB12 HC12 HD12 HE12 HV12 HP12 HA2 G12 HSB HSC HSD HEP HEQ HQ HU32 HI32 HI1 WIE OKB OKC OKE
        go_upto_region 23 with fail
        go_wp2
        go_loopw [174] (fun i wr => ∃ k : Nat, k ≤ np ∧ i = .int .i64 (k : Int) ∧ Hid (∃ P : List Nat, P.length = np ∧ UOwn wr y8.heap.size (.slice pa np pc) P) ∧ Hid (y17.grownBy wr (Value.slice pa np pc).ownBlock)) (fun i _ => np - (intOf i).toNat)
        case atStart => exact ⟨0, by omega, rfl, ⟨PT, HNP.out, P17.out⟩, grw_refl _ _⟩
        case round =>
          obtain ⟨k, hk, rfl, hP, hgr⟩ := hrel
          by_cases hlt : k < np
          · --
            as_aux_lemma =>
              obtain ⟨P, hPl, hPo⟩ := hP.out
              obtain ⟨gp, rfl⟩ := uown_some hPo (by omega) hPl
              obtain ⟨⟨x, hx⟩, hf, hst, hgs⟩ := uown_put hPo hPl hlt
              have HST := hide hst
              have HGS := hide hgs
              have HPL2 := hide hPl
              clear hPl hPo hst hgs hP
              go_wp2
              go_roundw
              case rel => exact ⟨k + 1, by omega, by go_num, ⟨P.set k 7, by rw [List.length_set]; exact HPL2.out, HST.out⟩, grw_trans hgr.out HGS.out⟩
              case measure => simp [intOf]; omega
          · obtain rfl : np = k := by omega
            obtain ⟨P, hPl, hPo⟩ := hP.out
            have HPL2 := hide hPl
            have HPO := hide hPo
            have HGR := hide hgr.out
            clear hPl hPo hP hgr hlt hk
            go_upto_region 28 with fail
            go_upto_region 29 with (first | (at_builtin; refine append_u3 (o := { dst := some 183, op := Go.Op.call { callee := Go.Callee.builtin Go.Builtin.append, args := #[Go.Operand.tmp 181, Go.Operand.tmp 182], argTypes := #[40, 40] }, type := 40, pos := "outright.go:147", after := #[{ on := 0, ground := Go.Ground.data }, { on := 1, ground := Go.Ground.data }], guard := none }) rfl (.tmp 181) (.tmp 182) rfl y8.heap.size _ P np HPL2.out rfl HPO.out rfl (by omega) ?_; intro a' c' z1 hg1) | fail)
            have FR : Hid (y17.grownBy z1 (Value.slice pa np pc).ownBlock) := grw_trans (grw_trans HGR.out (grw_below ((Below.refl _ _).alloc (Nat.le_refl _) _) _)) hg1
            clear hg1 HGR HPO HPL2
            have A1 : Hid (POwn z1 y3.heap.size v10 R.m.pages) := own_keep A17.out FR.out WIA.out WU9.out (.inl (by have := LZ.out; omega))
            have B1 : Hid (POwn z1 y5.heap.size v15 R.m.pages) := own_keep B17.out FR.out WIB.out WU9.out (.inl (by have := LZ.out; omega))
            have C1 : Hid (POwn z1 y6.heap.size v18 R.m.pages) := own_keep C17.out FR.out WIC.out WU9.out (.inl (by have := LZ.out; omega))
            have D1 : Hid (POwn z1 y7.heap.size v21 R1.m.pages) := own_keep D17.out FR.out WID.out WU9.out (.inl (by have := LZ.out; omega))
            have V1 : Hid (UOwn z1 y4.heap.size (.slice ua np uc) PT) := own_keep V17.out FR.out WU5.out WU9.out (.inl (by have := LZ.out; omega))
            have Q1 : Hid (UOwn z1 y9.heap.size (.slice qa np qc) PT) := own_keep Q17.out FR.out WU10.out WU9.out (.inr (Nat.le_refl _))
            have GZ1 := hide (G17.out.grown FR.out G17.out.size (fun k e => by have h1 := WU9.out k e; have h2 := LZ.out; omega))
            have SZ1 : Hid (y17.heap.size ≤ z1.heap.size) := FR.out.size
            have HEQ1 := hide (eq_lists Q1.out V1.out HNP.out (by omega))
            clear A17 B17 C17 D17 V17 P17 Q17 G17 FR V1 Q1 WU5 WU9 WU10
            have hw3 : IntKind.i64.wrap ((np : Int) + 3) = (np : Int) + 3 := by rw [IntKind.wrap_i64]; omega
            go_wp2_with fail
            refine Calls.mono HEQ1.out ?_
            rintro e z2 ⟨rfl, bz2⟩
            have A2 := hide (A1.out.below bz2)
            have B2 := hide (B1.out.below bz2)
            have C2 := hide (C1.out.below bz2)
            have D2 := hide (D1.out.below bz2)
            have GZ2 := hide (chain GZ1.out bz2)
            have LZ2 : Hid (y10.heap.size ≤ z2.heap.size) := by have h1 := SZ1.out; have h2 := L17.out; have h3 := bz2.size; unfold Hid; omega
            clear bz2 A1 B1 C1 D1 GZ1 HEQ1 SZ1 L17 hw3 HNP
            go_upto_region 31 with fail
            have HWH2 := hide (HWH.out.below GZ2.out)
            have DZ2 := hide (chain D3.out GZ2.out)
            have ZZ2 := hide (Z3.out.below L3.out.1 GZ2.out)
            clear HWH HG D3 Z3
            go_wp2
            go_loopw [198] (fun i wr => ∃ k : Nat, k ≤ len ∧ i = .int .i64 (k : Int) ∧ Hid (∃ L2 : List Pg, L2.length = len ∧ Oks L2 ∧ (∀ j, k ≤ j → L2[j]? = m.pages[j]?) ∧ POwn wr w1.heap.size (.slice (some ⟨g, 0, none⟩) (len + 12) c) (L2 ++ fill 12)) ∧ Hid (z2.grownBy wr (some g))) (fun i _ => len - (intOf i).toNat)
            case atStart => exact ⟨0, by omega, rfl, ⟨m.pages, HLEN.out, OK.out.ok, fun _ _ => rfl, HWH2.out⟩, grw_refl _ _⟩
            case round =>
              obtain ⟨k, hk, rfl, hL, hgr⟩ := hrel
              by_cases hlt : k < len
              · --
                as_aux_lemma =>
                  obtain ⟨L2, hl2, ok2, hsm, ho2⟩ := hL.out
                  obtain ⟨p, hp⟩ : ∃ p, m.pages[k]? = some p := ⟨_, List.getElem?_eq_getElem (by rw [HLEN.out]; exact hlt)⟩
                  have hp2 : L2[k]? = some p := (hsm k (Nat.le_refl _)).trans hp
                  have hpo := OK.out.ok p (List.mem_of_getElem? hp)
                  have DZ := DZ2.out.grown hgr.out DZ2.out.size (fun k e => by obtain rfl := Option.some.inj e; have h1 := L3.out; have h2 := WG.out; omega)
                  obtain ⟨b, off, rfl, hr⟩ := HS.out.cell k p hp
                  have hr1 := range_below hr DZ
                  have hr2 : wr.rangeAt g (k * 66) p.cells := by
                    obtain ⟨b', off', e, h⟩ := (own_front ho2 ok2 hl2 hm).cell k p hp2
                    simp only [Option.some.injEq, Addr.mk.injEq, and_true] at e
                    obtain ⟨rfl, rfl⟩ := e
                    rw [Nat.zero_add] at h
                    exact h
                  have hu41 := Tryd.underlying38
                  have hi1 : (Tryd.prog.info? 38).map (·.size) = some p.cells.length := by rw [hpo.cells]; exact sizePage
                  have hne : ∀ w, (binOp .neq 38 (.agg p.cells.toArray) (.agg p.cells.toArray)).run Tryd.prog w = .ok (.bool false) w := fun w => neq_page hpo w
                  have HO2 := hide ho2
                  have OKL := hide ok2
                  have HSM := hide hsm
                  have HP2 := hide hp2
                  have HL2 := hide hl2
                  have HC1' := HC1.out
                  clear hr hp hpo hsm ho2 ok2 hp2 hl2 hL DZ
                  obtain ⟨cs, hcs⟩ : ∃ cs, p.cells = cs := ⟨_, rfl⟩
                  rw [hcs] at hr1 hr2 hi1 hne
                  clear hcs
                  go_upto_region 34 with fail
                  refine wp_region_quiet_lit (by kernel_rfl) (by kernel_rfl) ?_
                  repeat (first
                    | (go_big_quiet_want; refine quiet_load_mid 38 (.tmp 203) rfl g (k * 66) rfl cs _ hr2 hu41 rfl hi1 ?_; simp only [Act.put, List.setIfInBounds_toArray, List.set_cons_succ, List.set_cons_zero]; go_big_quiet_on)
                    | (go_big_quiet_want; refine quiet_load_mid 38 (.tmp 207) rfl b (off + k * 66) rfl cs _ hr1 hu41 rfl hi1 ?_; simp only [Act.put, List.setIfInBounds_toArray, List.set_cons_succ, List.set_cons_zero]; go_big_quiet_on)
                    | (go_big_quiet_want; refine quiet_neq 38 38 (.tmp 204) (.tmp 208) rfl _ _ rfl rfl (by kernel_rfl) _ hne ?_; simp only [Act.put, List.setIfInBounds_toArray, List.set_cons_succ, List.set_cons_zero]; go_big_quiet_on)
                    | go_big_quiet_step (fail))
                  refine wpQuiet_nil ?_
                  intro _ hw'
                  obtain ⟨nq, rfl⟩ := hw'
                  clear hne hr1 hr2 hu41 hi1
                  have hO3 := HO2.out.below (drewN_below (Below.refl _ _) nq)
                  have GR3 : Hid (z2.grownBy (wr.drewN nq) (some g)) := grw_trans hgr.out (grw_below (drewN_below (Below.refl _ _) nq) _)
                  generalize wr.drewN nq = x1 at *
                  obtain ⟨c63, hc63, hl63, e63, f63, hst63⟩ := own_byte hO3 OKL.out (fill_ok (Nat.le_refl 12)) HP2.out (show 63 < 64 by decide)
                  have hx1 := (xor1 ⟨c63, hl63⟩)
                  obtain ⟨d63, hd63⟩ : ∃ d, c63 ^^^ 1 = d := ⟨_, rfl⟩
                  simp only [hd63] at hx1
                  obtain ⟨hst1, okL1, hg1⟩ := hst63 d63 hx1.2
                  have hx1' : bits .xor .u8 (c63 : Int) 1 = (d63 : Int) := hx1.1
                  obtain ⟨c3, hc3, hl3, e3, f3, hst3⟩ := own_byte hst1 okL1 (fill_ok (Nat.le_refl 12)) (k := k) (by rw [List.getElem?_set_self (by rw [HL2.out]; exact hlt)]) (show 3 < 64 by decide)
                  have hx4 := (xor4 ⟨c3, hl3⟩)
                  obtain ⟨d3, hd3⟩ : ∃ d, c3 ^^^ 4 = d := ⟨_, rfl⟩
                  simp only [hd3] at hx4
                  obtain ⟨hst2, okL2, hg2⟩ := hst3 d3 hx4.2
                  have hx4' : bits .xor .u8 (c3 : Int) 4 = (d3 : Int) := hx4.1
                  rw [List.set_set] at hst2 okL2
                  have e63' : x1.cell? ⟨g, k * 66 + 65, none⟩ = some (.int .u8 (c63 : Int)) := e63
                  have f63' : x1.frozen? ⟨g, k * 66 + 65, none⟩ = false := f63
                  have HST := hide hst2
                  have HOKL := hide okL2
                  have HGG := hide (grw_trans (grw_trans GR3.out hg1) hg2)
                  have E3 : Hid ((x1.setCell ⟨g, k * 66 + 65, none⟩ (.int .u8 (d63 : Int))).cell? ⟨g, k * 66 + 5, none⟩ = some (.int .u8 (c3 : Int))) := e3
                  have F3 : Hid ((x1.setCell ⟨g, k * 66 + 65, none⟩ (.int .u8 (d63 : Int))).frozen? ⟨g, k * 66 + 5, none⟩ = false) := f3
                  clear hst63 hst3 hst1 okL1 hst2 okL2 hg1 hg2 hc63 hc3 hO3 hx1 hx4 e63 f63 e3 f3 hd63 hd3
                  have k1 : (k : Int) < (len : Int) := by omega
                  go_upto_region 36 with fail
                  go_region
                  go_upto_region 37 with fail
                  have e3' : ((x1.setCell ⟨g, k * 66 + 2 + 63, none⟩ (.int .u8 (d63 : Int))).drew).cell? ⟨g, k * 66 + 5, none⟩ = some (.int .u8 (c3 : Int)) := E3.out
                  have f3' : ((x1.setCell ⟨g, k * 66 + 2 + 63, none⟩ (.int .u8 (d63 : Int))).drew).frozen? ⟨g, k * 66 + 5, none⟩ = false := F3.out
                  have BF : Hid (Below ((x1.setCell ⟨g, k * 66 + (2 + 63), none⟩ (.int .u8 (d63 : Int))).setCell ⟨g, k * 66 + (2 + 3), none⟩ (.int .u8 (d3 : Int))).heap.size ((x1.setCell ⟨g, k * 66 + (2 + 63), none⟩ (.int .u8 (d63 : Int))).setCell ⟨g, k * 66 + (2 + 3), none⟩ (.int .u8 (d3 : Int))) (((x1.setCell ⟨g, k * 66 + 2 + 63, none⟩ (.int .u8 (d63 : Int))).drew.setCell ⟨g, k * 66 + 2 + 3, none⟩ (.int .u8 (d3 : Int))).drew)) := ⟨rfl, rfl, rfl, Nat.le_refl _, fun _ _ => rfl⟩
                  clear E3 F3 e63' f63' hx1'
                  generalize (x1.setCell ⟨g, k * 66 + 2 + 63, none⟩ (.int .u8 (d63 : Int))).drew = x2 at *
                  go_region
                  go_wp2
                  go_roundw
                  case rel => exact ⟨k + 1, by omega, by go_num, ⟨_, by rw [List.length_set]; exact HL2.out, HOKL.out, fun j hj => by rw [List.getElem?_set_ne (by omega)]; exact HSM.out j (by omega), HST.out.below BF.out⟩, grw_trans HGG.out (grw_below BF.out _)⟩
                  case measure => simp [intOf]; omega
              · obtain rfl : len = k := by omega
                obtain ⟨l2, hl2, ok2, _, ho2⟩ := hL.out
                have WW : Hid (Within (.slice (some ⟨g, 0, none⟩) (len + 12) c) w1.heap.size y3.heap.size) := fun k e => by obtain rfl := Option.some.inj e; exact WG.out
                have FR3 : Hid (z2.grownBy wr (Value.slice (some ⟨g, 0, none⟩) (len + 12) c).ownBlock) := hgr.out
                have A3 : Hid (POwn wr y3.heap.size v10 R.m.pages) := own_keep A2.out FR3.out WIA.out WW.out (.inr (Nat.le_refl _))
                have B3 : Hid (POwn wr y5.heap.size v15 R.m.pages) := own_keep B2.out FR3.out WIB.out WW.out (.inr (by have := LZ.out; omega))
                have C3 : Hid (POwn wr y6.heap.size v18 R.m.pages) := own_keep C2.out FR3.out WIC.out WW.out (.inr (by have := LZ.out; omega))
                have D3 : Hid (POwn wr y7.heap.size v21 R1.m.pages) := own_keep D2.out FR3.out WID.out WW.out (.inr (by have := LZ.out; omega))
                have DZ3 := hide (DZ2.out.grown FR3.out DZ2.out.size (fun k e => by have h1 := L3.out; have h2 := WW.out k e; omega))
                have ZZ3 := hide (bl_low ZZ2.out L3.out.2.2 ((Below.refl w1.heap.size z2).grown FR3.out (by have h1 := GZ2.out.size; have h2 := L3.out; omega) (fun k e => (WW.out k e).1)))
                have LZ3 : Hid (y10.heap.size ≤ wr.heap.size ∧ w.heap.size < wr.heap.size) := by have h1 := LZ2.out; have h2 := FR3.out.size; have h3 := DZ2.out.size; have h4 := L3.out; have h5 := LZ.out; unfold Hid; omega
                have HG3 := hide (own_front ho2 ok2 hl2 hm)
                have HW3 := hide ho2
                have HL2 := hide hl2
                have HOK2 := hide ok2
                obtain ⟨m2, hm2⟩ : ∃ m2 : Mc, m2.pages = l2 ∧ m2.proc = m.proc ∧ m2.Ok := ⟨{ m with pages := l2 }, rfl, rfl, ⟨ok2, by show l2.length ≤ _; rw [hl2]; exact hm, OK.out.size, OK.out.small, OK.out.pc⟩⟩
                have HM2 := hide hm2
                clear hm2 hL hgr hlt hk ok2 hl2 ho2 A2 B2 C2 D2 FR3 DZ2 ZZ2 GZ2 LZ2 HWH2
                generalize wr = z3 at *
                go_wp2_with fail
                refine Calls.mono (refCopy_any (some ⟨g, 0, none⟩) len c l2 z3 HG3.out) ?_
                rintro e z4 ⟨vo, rfl, hoO, bz4⟩
                have WO := hide (World.ownsRow.lt hoO)
                obtain ⟨oa, oc, hvo, pgO, _⟩ := hoO.pgs HOK2.out (by rw [HL2.out]; exact hm)
                rw [HL2.out] at hvo pgO
                subst hvo
                have PGO := hide pgO
                have O4 := hide hoO
                have EO := hide bz4
                clear pgO hoO bz4
                have HRR2 : Hid (∀ W, Below z4.heap.size z4 W → Calls Tryd.prog 11 #[.slice oa len oc, .agg m.proc.toArray, .int .i64 nb] W fun e w' => ∃ v, e = .returned (.tuple #[v, .agg (m2.run N).m.proc.toArray, .agg (stopL (m2.run N)).toArray]) ∧ POwn w' W.heap.size v (m2.run N).m.pages ∧ (m2.run N).m.Ok ∧ Below W.heap.size W w') := fun W hW => by
                  have h1 : Pgs W oa len oc m2.pages := by rw [HM2.out.1]; exact PGO.out.below hW
                  have := rRun_any oa len oc m2 nb W h1 HM2.out.2.2 (by omega) n0
                  rw [HNN.out, HM2.out.2.1] at this
                  exact this
                have HCR2 : Hid (∀ W, Below z4.heap.size z4 W → Calls Tryd.prog 13 #[.slice (some ⟨g, 0, none⟩) len c, .agg m.proc.toArray, .int .i64 nb] W fun e w' => ∃ v, e = .returned (.tuple #[v, .agg (m2.run N).m.proc.toArray, .agg (stopL (m2.run N)).toArray]) ∧ POwn w' W.heap.size v (m2.run N).m.pages ∧ (m2.run N).m.Ok ∧ Below W.heap.size W w') := fun W hW => by
                  have h1 : Pgs W (some ⟨g, 0, none⟩) len c m2.pages := by rw [HM2.out.1]; exact HG3.out.below (chain EO.out hW)
                  have := run_any (some ⟨g, 0, none⟩) len c m2 nb W h1 HM2.out.2.2 A (HV.out.below (chain DZ3.out (chain EO.out hW))) (by omega) n0
                  rw [HNN.out, HM2.out.2.1] at this
                  exact this
                have HSS3 : Hid (stl (stopL (m2.run N))) := stl_stop _
                have HS3 : Hid (stopL (m2.run N) = [.int .i64 ((m2.run N).kind : Int), .int .i64 ((m2.run N).steps : Int), .int .i64 (m2.run N).code]) := rfl
                generalize (m2.run N) = R2 at *
                generalize hS3 : stopL R2 = S3 at *
                clear hS3
                have ZZ4 := hide (ZZ3.out.below LZ3.out.2 EO.out)
                have LW4 : Hid (w.heap.size < z4.heap.size) := by have h1 := LZ3.out; have h2 := EO.out.size; unfold Hid; omega
                have GH4 : Hid (Below z4.heap.size z4 z4) := Below.refl _ _
                go_upto_region 40 with fail
                have r4 : z4.rangeAt w.heap.size 0 m.proc := bl_range (ZZ4.out.below LW4.out GH4.out)
                go_wp2_with (first | (with_reducible show wpList _ _ _ ({ dst := some 239, op := Go.Op.load 26 (Go.Operand.tmp 4), type := 26, pos := "outright.go:159", after := #[], guard := none } :: _) _ _; refine wpList_load_mid (op := { dst := some 239, op := Go.Op.load 26 (Go.Operand.tmp 4), type := 26, pos := "outright.go:159", after := #[], guard := none }) rfl 26 (.tmp 4) rfl w.heap.size 0 rfl m.proc _ r4 HU.out rfl HI.out ?_) | fail)
                refine Calls.mono (HRR2.out z4 GH4.out) ?_
                rintro e w41 ⟨v35, rfl, hoF, okF, bF⟩
                have OK3 := hide okF
                clear okF r4
                obtain ⟨t1F, t2F, ⟨j1F, j2F, j3F, j4F⟩, k1F, k2F, k3F, k4F⟩ := keepR w41 R2.m S3 OK3.out HSS3.out
                have T1F := hide t1F
                have T2F := hide t2F
                have J1F := hide j1F
                have J2F := hide j2F
                have J3F := hide j3F
                have J4F := hide j4F
                have K1F := hide k1F
                have K2F := hide k2F
                have K3F := hide k3F
                have K4F := hide k4F
                have WIF := hide (World.ownsRow.lt hoF)
                have SF := hide bF.size
                have HOF := hide (hoF.below k3F)
                have EF := hide (chain bF k3F)
                clear t1F t2F j1F j2F j3F j4F k1F k2F k3F k4F hoF bF
                go_upto_region 41 with (first | (with_reducible show wpList _ _ _ ({ dst := none, op := Go.Op.store 26 (Go.Operand.tmp 36) (Go.Operand.tmp 243), type := 0, pos := "outright.go:159", after := #[{ on := 8, ground := Go.Ground.data }, { on := 6, ground := Go.Ground.data }, { on := 10, ground := Go.Ground.chain }, { on := 0, ground := Go.Ground.phase }, { on := 1, ground := Go.Ground.phase }, { on := 2, ground := Go.Ground.phase }, { on := 3, ground := Go.Ground.phase }, { on := 4, ground := Go.Ground.phase }, { on := 5, ground := Go.Ground.phase }, { on := 6, ground := Go.Ground.phase }, { on := 7, ground := Go.Ground.textOnly Go.Departure.lateStores }, { on := 8, ground := Go.Ground.phase }, { on := 9, ground := Go.Ground.phase }, { on := 10, ground := Go.Ground.phase }], guard := none } :: _) _ _; refine wpList_store_mid (op := { dst := none, op := Go.Op.store 26 (Go.Operand.tmp 36) (Go.Operand.tmp 243), type := 0, pos := "outright.go:159", after := #[{ on := 8, ground := Go.Ground.data }, { on := 6, ground := Go.Ground.data }, { on := 10, ground := Go.Ground.chain }, { on := 0, ground := Go.Ground.phase }, { on := 1, ground := Go.Ground.phase }, { on := 2, ground := Go.Ground.phase }, { on := 3, ground := Go.Ground.phase }, { on := 4, ground := Go.Ground.phase }, { on := 5, ground := Go.Ground.phase }, { on := 6, ground := Go.Ground.phase }, { on := 7, ground := Go.Ground.textOnly Go.Departure.lateStores }, { on := 8, ground := Go.Ground.phase }, { on := 9, ground := Go.Ground.phase }, { on := 10, ground := Go.Ground.phase }], guard := none }) rfl 26 (.tmp 36) (.tmp 243) rfl w41.heap.size 0 R2.m.proc.toArray rfl rfl T1F.out J1F.out J3F.out ?_) | (with_reducible show wpList _ _ _ ({ dst := none, op := Go.Op.store 29 (Go.Operand.tmp 37) (Go.Operand.tmp 244), type := 0, pos := "outright.go:159", after := #[{ on := 9, ground := Go.Ground.data }, { on := 7, ground := Go.Ground.data }, { on := 11, ground := Go.Ground.chain }, { on := 0, ground := Go.Ground.phase }, { on := 1, ground := Go.Ground.phase }, { on := 2, ground := Go.Ground.phase }, { on := 3, ground := Go.Ground.phase }, { on := 4, ground := Go.Ground.phase }, { on := 5, ground := Go.Ground.phase }, { on := 6, ground := Go.Ground.phase }, { on := 7, ground := Go.Ground.phase }, { on := 8, ground := Go.Ground.phase }, { on := 9, ground := Go.Ground.phase }, { on := 10, ground := Go.Ground.phase }, { on := 11, ground := Go.Ground.phase }], guard := none } :: _) _ _; refine wpList_store_mid (op := { dst := none, op := Go.Op.store 29 (Go.Operand.tmp 37) (Go.Operand.tmp 244), type := 0, pos := "outright.go:159", after := #[{ on := 9, ground := Go.Ground.data }, { on := 7, ground := Go.Ground.data }, { on := 11, ground := Go.Ground.chain }, { on := 0, ground := Go.Ground.phase }, { on := 1, ground := Go.Ground.phase }, { on := 2, ground := Go.Ground.phase }, { on := 3, ground := Go.Ground.phase }, { on := 4, ground := Go.Ground.phase }, { on := 5, ground := Go.Ground.phase }, { on := 6, ground := Go.Ground.phase }, { on := 7, ground := Go.Ground.phase }, { on := 8, ground := Go.Ground.phase }, { on := 9, ground := Go.Ground.phase }, { on := 10, ground := Go.Ground.phase }, { on := 11, ground := Go.Ground.phase }], guard := none }) rfl 29 (.tmp 37) (.tmp 244) rfl (w41.heap.size + 1) 0 S3.toArray rfl rfl T2F.out J2F.out J4F.out ?_) | fail)
                simp only [Act.put]
                generalize (((w41.alloc (.cells #[.int .u32 0, .int .u32 0, .int .u32 0, .int .u32 0, .int .u32 0, .int .u32 0, .int .u32 0, .int .u32 0, .int .u32 0, .int .u32 0, .int .u32 0, .int .u32 0, .int .u32 0, .int .u32 0, .int .u32 0, .int .u32 0, .int .u32 0, .int .i64 0, .int .i64 0, .int .i64 0, .int .i64 0] 26)).alloc (.cells #[.int .i64 0, .int .i64 0, .int .i64 0] 29)).setCells w41.heap.size 0 R2.m.proc).setCells (w41.heap.size + 1) 0 S3 = z5 at *
                clear T1F T2F J1F J2F J3F J4F K3F
                have GH5 := hide (chain GH4.out EF.out)
                have r4 : z5.rangeAt w.heap.size 0 m.proc := bl_range (ZZ4.out.below LW4.out GH5.out)
                go_wp2_with (first | (with_reducible show wpList _ _ _ ({ dst := some 247, op := Go.Op.load 26 (Go.Operand.tmp 4), type := 26, pos := "outright.go:160", after := #[], guard := none } :: _) _ _; refine wpList_load_mid (op := { dst := some 247, op := Go.Op.load 26 (Go.Operand.tmp 4), type := 26, pos := "outright.go:160", after := #[], guard := none }) rfl 26 (.tmp 4) rfl w.heap.size 0 rfl m.proc _ r4 HU.out rfl HI.out ?_) | fail)
                refine Calls.mono (HCR2.out z5 GH5.out) ?_
                rintro e w42 ⟨v38, rfl, hoH, okH, bH⟩
                have OKH := hide okH
                clear okH r4
                obtain ⟨t1H, t2H, ⟨j1H, j2H, j3H, j4H⟩, k1H, k2H, k3H, k4H⟩ := keepR w42 R2.m S3 OKH.out HSS3.out
                have T1H := hide t1H
                have T2H := hide t2H
                have J1H := hide j1H
                have J2H := hide j2H
                have J3H := hide j3H
                have J4H := hide j4H
                have K1H := hide k1H
                have K2H := hide k2H
                have K3H := hide k3H
                have K4H := hide k4H
                have WIH := hide (World.ownsRow.lt hoH)
                have SH := hide bH.size
                have HOH := hide (hoH.below k3H)
                have EH := hide (chain bH k3H)
                clear t1H t2H j1H j2H j3H j4H k1H k2H k3H k4H hoH bH
                go_upto_region 42 with (first | (with_reducible show wpList _ _ _ ({ dst := none, op := Go.Op.store 26 (Go.Operand.tmp 39) (Go.Operand.tmp 251), type := 0, pos := "outright.go:160", after := #[{ on := 8, ground := Go.Ground.data }, { on := 6, ground := Go.Ground.data }, { on := 10, ground := Go.Ground.chain }, { on := 0, ground := Go.Ground.phase }, { on := 1, ground := Go.Ground.phase }, { on := 2, ground := Go.Ground.phase }, { on := 3, ground := Go.Ground.phase }, { on := 4, ground := Go.Ground.phase }, { on := 5, ground := Go.Ground.phase }, { on := 6, ground := Go.Ground.phase }, { on := 7, ground := Go.Ground.textOnly Go.Departure.lateStores }, { on := 8, ground := Go.Ground.phase }, { on := 9, ground := Go.Ground.phase }, { on := 10, ground := Go.Ground.phase }], guard := none } :: _) _ _; refine wpList_store_mid (op := { dst := none, op := Go.Op.store 26 (Go.Operand.tmp 39) (Go.Operand.tmp 251), type := 0, pos := "outright.go:160", after := #[{ on := 8, ground := Go.Ground.data }, { on := 6, ground := Go.Ground.data }, { on := 10, ground := Go.Ground.chain }, { on := 0, ground := Go.Ground.phase }, { on := 1, ground := Go.Ground.phase }, { on := 2, ground := Go.Ground.phase }, { on := 3, ground := Go.Ground.phase }, { on := 4, ground := Go.Ground.phase }, { on := 5, ground := Go.Ground.phase }, { on := 6, ground := Go.Ground.phase }, { on := 7, ground := Go.Ground.textOnly Go.Departure.lateStores }, { on := 8, ground := Go.Ground.phase }, { on := 9, ground := Go.Ground.phase }, { on := 10, ground := Go.Ground.phase }], guard := none }) rfl 26 (.tmp 39) (.tmp 251) rfl w42.heap.size 0 R2.m.proc.toArray rfl rfl T1H.out J1H.out J3H.out ?_) | (with_reducible show wpList _ _ _ ({ dst := none, op := Go.Op.store 29 (Go.Operand.tmp 40) (Go.Operand.tmp 252), type := 0, pos := "outright.go:160", after := #[{ on := 9, ground := Go.Ground.data }, { on := 7, ground := Go.Ground.data }, { on := 11, ground := Go.Ground.chain }, { on := 0, ground := Go.Ground.phase }, { on := 1, ground := Go.Ground.phase }, { on := 2, ground := Go.Ground.phase }, { on := 3, ground := Go.Ground.phase }, { on := 4, ground := Go.Ground.phase }, { on := 5, ground := Go.Ground.phase }, { on := 6, ground := Go.Ground.phase }, { on := 7, ground := Go.Ground.phase }, { on := 8, ground := Go.Ground.phase }, { on := 9, ground := Go.Ground.phase }, { on := 10, ground := Go.Ground.phase }, { on := 11, ground := Go.Ground.phase }], guard := none } :: _) _ _; refine wpList_store_mid (op := { dst := none, op := Go.Op.store 29 (Go.Operand.tmp 40) (Go.Operand.tmp 252), type := 0, pos := "outright.go:160", after := #[{ on := 9, ground := Go.Ground.data }, { on := 7, ground := Go.Ground.data }, { on := 11, ground := Go.Ground.chain }, { on := 0, ground := Go.Ground.phase }, { on := 1, ground := Go.Ground.phase }, { on := 2, ground := Go.Ground.phase }, { on := 3, ground := Go.Ground.phase }, { on := 4, ground := Go.Ground.phase }, { on := 5, ground := Go.Ground.phase }, { on := 6, ground := Go.Ground.phase }, { on := 7, ground := Go.Ground.phase }, { on := 8, ground := Go.Ground.phase }, { on := 9, ground := Go.Ground.phase }, { on := 10, ground := Go.Ground.phase }, { on := 11, ground := Go.Ground.phase }], guard := none }) rfl 29 (.tmp 40) (.tmp 252) rfl (w42.heap.size + 1) 0 S3.toArray rfl rfl T2H.out J2H.out J4H.out ?_) | fail)
                simp only [Act.put]
                generalize (((w42.alloc (.cells #[.int .u32 0, .int .u32 0, .int .u32 0, .int .u32 0, .int .u32 0, .int .u32 0, .int .u32 0, .int .u32 0, .int .u32 0, .int .u32 0, .int .u32 0, .int .u32 0, .int .u32 0, .int .u32 0, .int .u32 0, .int .u32 0, .int .u32 0, .int .i64 0, .int .i64 0, .int .i64 0, .int .i64 0] 26)).alloc (.cells #[.int .i64 0, .int .i64 0, .int .i64 0] 29)).setCells w42.heap.size 0 R2.m.proc).setCells (w42.heap.size + 1) 0 S3 = z6 at *
                clear T1H T2H J1H J2H J3H J4H K3H
                have GH6 := hide (chain GH5.out EH.out)
                clear HRR2 HCR2
                have hF1 := K1F.out.below (by have := K4F.out; omega) EH.out
                have hF2 := K2F.out.below (by have := K4F.out; omega) EH.out
                have HQ := hide (And.intro (bl_range K2H.out) (And.intro (bl_range hF2) (And.intro (bl_range K1H.out) (bl_range hF1))))
                have HU32 := hide Tryd.underlying29
                have HI32 : Hid ((Tryd.prog.info? 29).map (·.size) = some S3.length) := by unfold Hid; rw [HSS3.out.1]; exact infoStop
                have HI1 : Hid ((Tryd.prog.info? 26).map (·.size) = some R2.m.proc.length) := by unfold Hid; rw [proc_len OK3.out]; exact infoProc
                have B36 := hide (chain EO.out GH6.out)
                have A6 := hide (A3.out.below B36.out)
                have B6 := hide (B3.out.below B36.out)
                have C6 := hide (C3.out.below B36.out)
                have D6 := hide (D3.out.below B36.out)
                have O6 := hide (O4.out.below GH6.out)
                have F6 := hide (HOF.out.below EH.out)
                have W6 := hide (HW3.out.below B36.out)
                have DZ6 := hide (chain DZ3.out B36.out)
                have LY : Hid (y10.heap.size ≤ z3.heap.size ∧ z3.heap.size ≤ z4.heap.size ∧ z4.heap.size ≤ z5.heap.size ∧ z5.heap.size ≤ w42.heap.size ∧ w42.heap.size + 2 ≤ z6.heap.size) := by
                  have h1 := LZ3.out
                  have h2 := EO.out.size
                  have h3 := EF.out.size
                  have h4 := SH.out
                  have h5 := K4H.out
                  unfold Hid
                  omega
                have HSX : Hid (∀ W, Below z6.heap.size z6 W → Calls Tryd.prog 8 #[v38, v35] W fun e w' => e = .returned (.bool true) ∧ Below W.heap.size W w') := fun W hW => same_own (HOH.out.below hW) (F6.out.below hW) OK3.out.ok OK3.out.most
                have HSY : Hid (∀ W, Below z6.heap.size z6 W → Calls Tryd.prog 8 #[v15, v10] W fun e w' => e = .returned (.bool true) ∧ Below W.heap.size W w') := fun W hW => same_own (B6.out.below hW) (A6.out.below hW) OK1.out.ok OK1.out.most
                clear hF1 hF2 K1F K2F K4F K1H K2H K4H A3 B3 C3 D3 O4 HOF HW3 DZ3 ZZ3 ZZ4 LW4 LZ3 EO EF EH GH4 GH5 GH6 SF SH B36 HG3 PGO OKH
                refine wp_region_list ?_
                refine wpList_load_g (op := { dst := some 253, op := Go.Op.load 29 (Go.Operand.tmp 40), type := 29, pos := "outright.go:161", after := #[], guard := none }) (by rfl) 29 (.tmp 40) rfl (w42.heap.size + 1) (0) rfl S3 _ HQ.out.1 HU32.out rfl HI32.out ?_
                simp only [Act.put, List.setIfInBounds_toArray, List.set_cons_zero, List.set_cons_succ]
                refine wpList_load_g (op := { dst := some 254, op := Go.Op.load 29 (Go.Operand.tmp 37), type := 29, pos := "outright.go:161", after := #[], guard := none }) (by rfl) 29 (.tmp 37) rfl (w41.heap.size + 1) (0) rfl S3 _ HQ.out.2.1 HU32.out rfl HI32.out ?_
                simp only [Act.put, List.setIfInBounds_toArray, List.set_cons_zero, List.set_cons_succ]
                refine wpList_run_g (op := { dst := some 255, op := Go.Op.binOp Go.BinOp.neq 29 (Go.Operand.tmp 253) (Go.Operand.tmp 254) 29, type := 4, pos := "outright.go:161", after := #[{ on := 0, ground := Go.Ground.data }, { on := 1, ground := Go.Ground.data }], guard := none }) (by rfl) (.bool false) (neq_stop HS3.out _ (.tmp 253) (.tmp 254) rfl rfl _ _ rfl _) ?_
                simp only [Act.put, List.setIfInBounds_toArray, List.set_cons_zero, List.set_cons_succ]
                refine wpList_tail (pre := [{ dst := some 256, op := Go.Op.move (Go.Operand.tmp 255), type := 4, pos := "outright.go:161", after := #[{ on := 2, ground := Go.Ground.data }], guard := none }]) _ ?_
                intro tl htl
                have HTL := hide htl
                clear htl
                simp only [List.cons_append, List.nil_append]
                go_wp2_with fail
                have htl := HTL.out
                clear HTL
                subst htl
                refine wpList_load_g (op := { dst := some 257, op := Go.Op.load 26 (Go.Operand.tmp 39), type := 26, pos := "outright.go:161", after := #[{ on := 3, ground := Go.Ground.guard }], guard := some (3, false) }) (by rfl) 26 (.tmp 39) rfl w42.heap.size (0) rfl R2.m.proc _ HQ.out.2.2.1 HU.out rfl HI1.out ?_
                simp only [Act.put, List.setIfInBounds_toArray, List.set_cons_zero, List.set_cons_succ]
                refine wpList_load_g (op := { dst := some 258, op := Go.Op.load 26 (Go.Operand.tmp 36), type := 26, pos := "outright.go:161", after := #[{ on := 3, ground := Go.Ground.guard }], guard := some (3, false) }) (by rfl) 26 (.tmp 36) rfl w41.heap.size (0) rfl R2.m.proc _ HQ.out.2.2.2 HU.out rfl HI1.out ?_
                simp only [Act.put, List.setIfInBounds_toArray, List.set_cons_zero, List.set_cons_succ]
                refine wpList_run_g (op := { dst := some 259, op := Go.Op.binOp Go.BinOp.neq 26 (Go.Operand.tmp 257) (Go.Operand.tmp 258) 26, type := 4, pos := "outright.go:161", after := #[{ on := 4, ground := Go.Ground.data }, { on := 5, ground := Go.Ground.data }, { on := 3, ground := Go.Ground.guard }], guard := some (3, false) }) (by rfl) (.bool false) (neq_proc OK3.out _ (.tmp 257) (.tmp 258) rfl rfl _ _ rfl _) ?_
                simp only [Act.put, List.setIfInBounds_toArray, List.set_cons_zero, List.set_cons_succ]
                go_wp2_with fail
                refine Calls.mono (HSX.out z6 (Below.refl _ _)) ?_
                rintro e z7 ⟨rfl, b7⟩
                have X7 := hide b7
                clear b7
                go_wp2_with fail
                refine Calls.mono (HSY.out z7 X7.out) ?_
                rintro e z8 ⟨rfl, b8⟩
                have X8 := hide (chain X7.out b8)
                have B8 := hide (B6.out.below X8.out)
                have C8 := hide (C6.out.below X8.out)
                have D8 := hide (D6.out.below X8.out)
                have O8 := hide (O6.out.below X8.out)
                have H8 := hide (HOH.out.below X8.out)
                have W8 := hide (W6.out.below X8.out)
                have DZ8 := hide (chain DZ6.out X8.out)
                have LX : Hid (w42.heap.size + 2 ≤ z8.heap.size) := by have h1 := LY.out; have h2 := X8.out.size; unfold Hid; omega
                clear b8 X7 X8 A6 B6 C6 D6 O6 F6 HOH W6 DZ6 HSX HSY HQ HU32 HI32 HI1 WIA WIF
                go_upto_region 44 with fail
                obtain ⟨a15, c15, h15⟩ := pown_sl B8.out
                obtain ⟨a18, c18, h18⟩ := pown_sl C8.out
                obtain ⟨a21, c21, h21⟩ := pown_sl D8.out
                obtain ⟨a38, c38, h38⟩ := pown_sl H8.out
                obtain ⟨nR, hnR⟩ : ∃ n, R.m.pages.length = n := ⟨_, rfl⟩
                obtain ⟨nS, hnS⟩ : ∃ n, R1.m.pages.length = n := ⟨_, rfl⟩
                obtain ⟨nX, hnX⟩ : ∃ n, R2.m.pages.length = n := ⟨_, rfl⟩
                rw [hnR] at h15 h18
                rw [hnS] at h21
                rw [hnX] at h38
                subst h15 h18 h21 h38
                have HF0 := hide (fv_five 22 B8.out (C8.out.weaken (by have := LZ.out; omega)) (D8.out.weaken (by have := LZ.out; omega)) (H8.out.weaken (by have h1 := LZ.out; have h2 := LY.out; omega)) (O8.out.weaken (by have h1 := LZ.out; have h2 := LY.out; omega)) OK1.out.ok OK1.out.ok OK2.out.ok OK3.out.ok HOK2.out OK1.out.most OK1.out.most OK2.out.most OK3.out.most (by rw [HL2.out]; exact hm) WIB.out WIC.out WID.out WIH.out WO.out (by have h1 := LZ.out; have h2 := LY.out; have h3 := LX.out; omega))
                have D9 := hide (chain DZ8.out ((Below.refl z8.heap.size z8).alloc (Nat.le_refl _) (.cells #[.slice a15 nR c15, .slice a18 nR c18, .slice a21 nS c21, .slice a38 nX c38] 22)))
                have W9 := hide (W8.out.below ((Below.refl z8.heap.size z8).alloc (Nat.le_refl _) (.cells #[.slice a15 nR c15, .slice a18 nR c18, .slice a21 nS c21, .slice a38 nX c38] 22)))
                have LB : Hid (w.heap.size ≤ y5.heap.size ∧ y3.heap.size ≤ y5.heap.size ∧ y5.heap.size ≤ (z8.alloc (.cells #[.slice a15 nR c15, .slice a18 nR c18, .slice a21 nS c21, .slice a38 nX c38] 22)).heap.size) := by
                  have h1 := LZ.out
                  have h2 := LY.out
                  have h3 := LX.out
                  have h4 := L3.out
                  unfold Hid
                  simp
                  omega
                have HV4 : Hid (fiv (.slice a15 nR c15) (.slice a18 nR c18) (.slice a21 nS c21) (.slice a38 nX c38) (.slice oa len oc) 4 = .slice oa len oc ∧ fil R.m.pages R.m.pages R1.m.pages R2.m.pages l2 4 = l2) := ⟨rfl, rfl⟩
                clear hnR hnS hnX B8 C8 D8 H8 O8 W8 DZ8 WIB WIC WID WIH WO LX LY LZ OK1 OK2 OK3 HSS HS1 HSS2 HSS3 HS3 HM2 HNN
                go_upto_region 45 with fail
                generalize fiv (.slice a15 nR c15) (.slice a18 nR c18) (.slice a21 nS c21) (.slice a38 nX c38) (.slice oa len oc) = vf at *
                generalize fil R.m.pages R.m.pages R1.m.pages R2.m.pages l2 = L0 at *
                generalize z8.alloc (.cells #[.slice a15 nR c15, .slice a18 nR c18, .slice a21 nS c21, .slice a38 nX c38] 22) = z9 at *
                generalize z8.heap.size = G at *
                generalize y5.heap.size = B at *
                go_wp2
                go_loopw [280] (fun i wr => ∃ k : Nat, k ≤ 4 ∧ i = .int .i64 (k : Int) ∧ Hid (∃ L, Fv wr G B vf L ∧ L 4 = l2 ∧ Mkd L k 0) ∧ Hid (Below B z9 wr)) (fun i _ => 4 - (intOf i).toNat)
                case atStart => exact ⟨0, by omega, rfl, ⟨L0, HF0.out, HV4.out.2, fun i' j' _ hb => by omega⟩, Below.refl _ _⟩
                case round =>
                  obtain ⟨k, hk, rfl, hF, hb⟩ := hrel
                  by_cases hlt : k < 4
                  · --
                    as_aux_lemma =>
                      obtain ⟨L, hf, h4, hmk⟩ := hF.out
                      obtain ⟨xa, xc, hxv⟩ := pown_sl (hf.own k (by omega))
                      obtain ⟨nk, hnk⟩ : ∃ n, (L k).length = n := ⟨_, rfl⟩
                      rw [hnk] at hxv
                      have c0 := hf.row k hlt
                      rw [hxv] at c0
                      have HXV := hide hxv
                      have hnm : nk ≤ 1759218604391 := by rw [← hnk]; exact hf.most k (by omega)
                      have HIN : Hid (∃ L, Fv wr G B vf L ∧ L 4 = l2 ∧ (L k).length = nk ∧ Mkd L k 0) := ⟨L, hf, h4, hnk, hmk⟩
                      have HB1 := hide hb.out
                      have k4 : (k : Int) < 4 := by omega
                      clear hf h4 hmk hnk hxv hF hb
                      go_wp2
                      clear c0
                      generalize wr = W1 at *
                      go_loopw [288] (fun i wr => ∃ j : Nat, j ≤ nk ∧ i = .int .i64 (j : Int) ∧ Hid (∃ L, Fv wr G B vf L ∧ L 4 = l2 ∧ (L k).length = nk ∧ Mkd L k j) ∧ Hid (Below B z9 wr)) (fun i _ => nk - (intOf i).toNat)
                      case atStart => exact ⟨0, by omega, rfl, HIN.out, HB1.out⟩
                      case round =>
                        obtain ⟨j, hj, rfl, hF2, hb2⟩ := hrel
                        by_cases hlj : j < nk
                        · obtain ⟨L, hf, h4, hnk, hmk⟩ := hF2.out
                          have ho := hf.own k (by omega)
                          rw [HXV.out] at ho
                          obtain ⟨gx, hgx⟩ := pown_some ho (by omega) hnk
                          subst hgx
                          have hqo : (mkp (-1000 * ((k : Int) + 1) - (j : Int))).Ok := mkp_ok (by omega) (by omega)
                          obtain ⟨hth, hfv, hgr, hBg⟩ := hf.put (i := k) (k := j) (by omega) HXV.out hnk hlj hqo
                          have c0 := hf.row k hlt
                          rw [HXV.out] at c0
                          have HTH := hide hth
                          have HFV : Hid (∃ L, Fv (wr.setCells gx (j * 66) (mkp (-1000 * ((k : Int) + 1) - (j : Int))).cells) G B vf L ∧ L 4 = l2 ∧ (L k).length = nk ∧ Mkd L k (j + 1)) := ⟨_, hfv, by rw [setAt_else _ _ (by omega)]; exact h4, by rw [setAt_same, List.length_set]; exact hnk, hmk.put (by rw [hnk]; exact hlj)⟩
                          have HB3 : Hid (Below B z9 (wr.setCells gx (j * 66) (mkp (-1000 * ((k : Int) + 1) - (j : Int))).cells)) := hb2.out.grown hgr (by have h1 := LB.out.2.2; have h2 := hb2.out.size; omega) (fun k e => by obtain rfl := Option.some.inj e; exact hBg)
                          have HIQ : Hid ((Tryd.prog.info? 38).map (·.size) = some (mkp (-1000 * ((k : Int) + 1) - (j : Int))).cells.toArray.size) := by unfold Hid; rw [List.size_toArray, hqo.cells]; exact sizePage
                          have HOQ : Hid ((mkp (-1000 * ((k : Int) + 1) - (j : Int))).cells.toArray.all (·.oneCell') = true) := all_oneCell_toArray (Pg.one _)
                          have w1' : IntKind.i64.wrap ((k : Int) + 1) = (k : Int) + 1 := wrap_id (by omega) (by omega)
                          have w2' : IntKind.i64.wrap (-1000 * ((k : Int) + 1)) = -1000 * ((k : Int) + 1) := wrap_id (by omega) (by omega)
                          have w3' : IntKind.i64.wrap (-1000 * ((k : Int) + 1) - (j : Int)) = -1000 * ((k : Int) + 1) - (j : Int) := wrap_id (by omega) (by omega)
                          have hzp := HZP.out
                          have hne := HNE.out
                          clear hf h4 hnk hmk ho hth hfv hgr hBg hqo hF2 hb2
                          go_upto_region 51 with fail
                          refine wp_region_list ?_
                          refine wpList_tail (pre := [{ dst := some 291, op := Go.Op.move (Go.Operand.tmp 41), type := 52, pos := "outright.go:167", after := #[], guard := none }, { dst := some 292, op := Go.Op.move (Go.Operand.tmp 42), type := 3, pos := "outright.go:167", after := #[], guard := none }, { dst := some 293, op := Go.Op.indexAddr 52 (Go.Operand.tmp 291) (Go.Operand.tmp 292), type := 0, pos := "outright.go:167", after := #[{ on := 0, ground := Go.Ground.data }, { on := 1, ground := Go.Ground.data }], guard := none }, { dst := some 294, op := Go.Op.load 22 (Go.Operand.tmp 293), type := 22, pos := "outright.go:167", after := #[{ on := 2, ground := Go.Ground.data }], guard := none }, { dst := some 295, op := Go.Op.move (Go.Operand.tmp 43), type := 3, pos := "outright.go:167", after := #[], guard := none }, { dst := some 296, op := Go.Op.move (Go.Operand.tmp 42), type := 3, pos := "outright.go:167", after := #[], guard := none }, { dst := some 297, op := Go.Op.binOp Go.BinOp.add 3 (Go.Operand.tmp 296) (Go.Operand.const (Go.Value.int Go.IntKind.i64 1)) 3, type := 3, pos := "outright.go:167", after := #[{ on := 5, ground := Go.Ground.data }], guard := none }, { dst := some 298, op := Go.Op.binOp Go.BinOp.mul 3 (Go.Operand.const (Go.Value.int Go.IntKind.i64 (-1000))) (Go.Operand.tmp 297) 3, type := 3, pos := "outright.go:167", after := #[{ on := 6, ground := Go.Ground.data }], guard := none }, { dst := some 299, op := Go.Op.move (Go.Operand.tmp 43), type := 3, pos := "outright.go:167", after := #[], guard := none }, { dst := some 300, op := Go.Op.binOp Go.BinOp.sub 3 (Go.Operand.tmp 298) (Go.Operand.tmp 299) 3, type := 3, pos := "outright.go:167", after := #[{ on := 7, ground := Go.Ground.data }, { on := 8, ground := Go.Ground.data }], guard := none }, { dst := some 301, op := Go.Op.build 38 #[(0, Go.Operand.tmp 300)], type := 38, pos := "outright.go:167", after := #[{ on := 9, ground := Go.Ground.data }], guard := none }, { dst := some 302, op := Go.Op.indexAddr 22 (Go.Operand.tmp 294) (Go.Operand.tmp 295), type := 0, pos := "outright.go:167", after := #[{ on := 3, ground := Go.Ground.data }, { on := 4, ground := Go.Ground.data }, { on := 0, ground := Go.Ground.phase }, { on := 1, ground := Go.Ground.phase }, { on := 2, ground := Go.Ground.phase }, { on := 3, ground := Go.Ground.phase }, { on := 4, ground := Go.Ground.phase }, { on := 5, ground := Go.Ground.phase }, { on := 6, ground := Go.Ground.phase }, { on := 7, ground := Go.Ground.phase }, { on := 8, ground := Go.Ground.phase }, { on := 9, ground := Go.Ground.phase }, { on := 10, ground := Go.Ground.phase }], guard := none }]) _ ?_
                          intro tl htl
                          have HTL := hide htl
                          clear htl
                          simp only [List.cons_append, List.nil_append]
                          go_wp2_with fail
                          have htl := HTL.out
                          clear HTL
                          subst htl
                          refine wpList_store_mid (op := { dst := none, op := Go.Op.store 38 (Go.Operand.tmp 302) (Go.Operand.tmp 301), type := 0, pos := "outright.go:167", after := #[{ on := 11, ground := Go.Ground.data }, { on := 10, ground := Go.Ground.data }, { on := 0, ground := Go.Ground.phase }, { on := 1, ground := Go.Ground.phase }, { on := 2, ground := Go.Ground.phase }, { on := 3, ground := Go.Ground.phase }, { on := 4, ground := Go.Ground.phase }, { on := 5, ground := Go.Ground.phase }, { on := 6, ground := Go.Ground.phase }, { on := 7, ground := Go.Ground.phase }, { on := 8, ground := Go.Ground.phase }, { on := 9, ground := Go.Ground.phase }, { on := 10, ground := Go.Ground.phase }], guard := none }) rfl 38 (.tmp 302) (.tmp 301) rfl gx (j * 66) (mkp (-1000 * ((k : Int) + 1) - (j : Int))).cells.toArray rfl (HZC.out (-1000 * ((k : Int) + 1) - (j : Int))) HTH.out HIQ.out HOQ.out ?_
                          simp only [Act.put, List.setIfInBounds_toArray, List.set_cons_zero, List.set_cons_succ]
                          go_wp2
                          go_roundw
                          case rel => exact ⟨j + 1, by omega, by go_num, HFV.out, HB3.out⟩
                          case measure => simp [intOf]; omega
                        · obtain rfl : nk = j := by omega
                          obtain ⟨L, hf, h4, hnk, hmk⟩ := hF2.out
                          have HNX : Hid (∃ L, Fv wr G B vf L ∧ L 4 = l2 ∧ Mkd L (k + 1) 0) := ⟨L, hf, h4, Mkd.next (by rw [hnk]; exact hmk)⟩
                          clear hf h4 hnk hmk hF2
                          go_wp2
                          go_roundw
                          case rel => exact ⟨k + 1, by omega, by go_num, HNX.out, hb2.out⟩
                          case measure => simp [intOf]; omega
                  · obtain rfl : k = 4 := by omega
                    obtain ⟨L, hf, h4, hmk⟩ := hF.out
                    have HF := hide hf
                    have H4 := hide h4
                    have HMK := hide hmk
                    have HB4 := hide hb.out
                    clear hf h4 hmk hF hb hlt hk HF0
                    go_upto_region 54 with fail
                    generalize wr = z10 at *
                    go_wp2
                    go_loopw [307] (fun i wr => ∃ k : Nat, k ≤ 4 ∧ i = .int .i64 (k : Int) ∧ Hid (Fv wr G B vf L) ∧ Hid (Below B z9 wr)) (fun i _ => 4 - (intOf i).toNat)
                    case atStart => exact ⟨0, by omega, rfl, HF.out, HB4.out⟩
                    case round =>
                      obtain ⟨k, hk, rfl, hF, hb⟩ := hrel
                      by_cases hlt : k < 4
                      · --
                        as_aux_lemma =>
                          obtain ⟨xa, xc, hxv⟩ := pown_sl (hF.out.own k (by omega))
                          obtain ⟨nk, hnk⟩ : ∃ n, (L k).length = n := ⟨_, rfl⟩
                          rw [hnk] at hxv
                          have c0 := hF.out.row k hlt
                          rw [hxv] at c0
                          have HXV := hide hxv
                          have HNK := hide hnk
                          have hnm : nk ≤ 1759218604391 := by rw [← hnk]; exact hF.out.most k (by omega)
                          have HOW : Hid (POwn wr B (.slice xa nk xc) (L k)) := by have := hF.out.own k (by omega); rw [hxv] at this; exact this
                          have k4 : (k : Int) < 4 := by omega
                          have hzp := HZP.out
                          have hne := HNE.out
                          have hbt := HBT.out wr
                          have HBW := hide hbt
                          clear hxv hnk hbt
                          go_upto_region 57 with fail
                          refine wp_region_list ?_
                          refine wpList_tail (pre := [{ dst := some 310, op := Go.Op.move (Go.Operand.tmp 41), type := 52, pos := "outright.go:171", after := #[], guard := none }, { dst := some 311, op := Go.Op.move (Go.Operand.tmp 44), type := 3, pos := "outright.go:171", after := #[], guard := none }, { dst := some 312, op := Go.Op.indexAddr 52 (Go.Operand.tmp 310) (Go.Operand.tmp 311), type := 0, pos := "outright.go:171", after := #[{ on := 0, ground := Go.Ground.data }, { on := 1, ground := Go.Ground.data }], guard := none }, { dst := some 313, op := Go.Op.load 22 (Go.Operand.tmp 312), type := 22, pos := "outright.go:171", after := #[{ on := 2, ground := Go.Ground.data }], guard := none }, { dst := some 314, op := Go.Op.build 38 #[(0, Go.Operand.const (Go.Value.int Go.IntKind.i64 1))], type := 38, pos := "outright.go:171", after := #[], guard := none }, { dst := some 315, op := Go.Op.build 38 #[(0, Go.Operand.const (Go.Value.int Go.IntKind.i64 2))], type := 38, pos := "outright.go:171", after := #[], guard := none }]) _ ?_
                          intro tl htl
                          have HTL := hide htl
                          clear htl
                          simp only [List.cons_append, List.nil_append]
                          go_wp2_with fail
                          have htl := HTL.out
                          clear HTL
                          subst htl
                          refine wpList_bs (o := { dst := some 316, op := Go.Op.buildSlice 22 2 #[(0, Go.Operand.tmp 314), (1, Go.Operand.tmp 315)], type := 22, pos := "outright.go:171", after := #[{ on := 4, ground := Go.Ground.data }, { on := 5, ground := Go.Ground.data }], guard := none }) rfl 22 (.tmp 314) (.tmp 315) rfl (.agg (Z.setIfInBounds 0 (.int .i64 1))) (.agg (Z.setIfInBounds 0 (.int .i64 2))) rfl rfl _ HBW.out ?_
                          simp only [Act.put, List.setIfInBounds_toArray, List.set_cons_zero, List.set_cons_succ]
                          refine append_p2 (o := { dst := some 317, op := Go.Op.call { callee := Go.Callee.builtin Go.Builtin.append, args := #[Go.Operand.tmp 313, Go.Operand.tmp 316], argTypes := #[22, 22] }, type := 22, pos := "outright.go:171", after := #[{ on := 3, ground := Go.Ground.data }, { on := 6, ground := Go.Ground.data }], guard := none }) rfl (.tmp 313) (.tmp 316) rfl B _ (L k) nk HNK.out rfl HOW.out rfl hnm ?_
                          intro a' c' x1 ho1 hg1
                          simp only [Act.put, List.setIfInBounds_toArray, List.set_cons_zero, List.set_cons_succ]
                          go_upto_region 58 with fail
                          clear hzp hne c0 HBW
                          have HF1 : Hid (Fv x1 G B vf L) := (hF.out.below ((Below.refl wr.heap.size wr).alloc (Nat.le_refl _) _)).grown (i := k) (by omega) (by rw [HXV.out]; exact hg1) (by rw [HXV.out]; exact ho1) (hF.out.ok k (by omega)) (hF.out.most k (by omega)) (fun _ _ => rfl)
                          have HB5 : Hid (Below B z9 x1) := (hb.out.alloc (by have h1 := LB.out.2.2; have h2 := hb.out.size; omega) _).grown hg1 (by have h1 := LB.out.2.2; have h2 := hb.out.size; simp; omega) (fun j e => (World.ownsRow.lt HOW.out j e).1)
                          have c1 := HF1.out.row k hlt
                          rw [HXV.out] at c1
                          have w2' : IntKind.i64.wrap ((nk : Int) + 2) = (nk : Int) + 2 := by rw [IntKind.wrap_i64]; omega
                          clear ho1 hg1 hF hb HOW
                          go_wp2
                          go_roundw
                          case rel => exact ⟨k + 1, by omega, by go_num, HF1.out, HB5.out⟩
                          case measure => simp [intOf]; omega
                      · obtain rfl : k = 4 := by omega
                        have HF6 := hide hF.out
                        have HB6 := hide hb.out
                        clear hF hb hlt hk HF HB4
                        go_upto_region 61 with fail
                        generalize wr = z11 at *
                        go_wp2
                        go_loopw [330] (fun i wr => ∃ k : Nat, k ≤ 4 ∧ i = .int .i64 (k : Int) ∧ Hid (wr = z11)) (fun i _ => 4 - (intOf i).toNat)
                        case atStart => exact ⟨0, by omega, rfl, rfl⟩
                        case round =>
                          obtain ⟨k, hk, rfl, hwz⟩ := hrel
                          obtain rfl : z11 = wr := hwz.out.symm
                          by_cases hlt : k < 4
                          · --
                            as_aux_lemma =>
                              obtain ⟨xa, xc, hxv⟩ := pown_sl (HF6.out.own k (by omega))
                              obtain ⟨nk, hnk⟩ : ∃ n, (L k).length = n := ⟨_, rfl⟩
                              rw [hnk] at hxv
                              have c0 := HF6.out.row k hlt
                              rw [hxv] at c0
                              have HXV := hide hxv
                              have HNK := hide hnk
                              have hnm : nk ≤ 1759218604391 := by rw [← hnk]; exact HF6.out.most k (by omega)
                              have HOW : Hid (POwn z11 B (.slice xa nk xc) (L k)) := by have := HF6.out.own k (by omega); rw [hxv] at this; exact this
                              have k4 : (k : Int) < 4 := by omega
                              clear hxv hnk
                              go_wp2
                              go_loopw [338] (fun i wr => ∃ j : Nat, j ≤ nk ∧ i = .int .i64 (j : Int) ∧ Hid (wr = z11)) (fun i _ => nk - (intOf i).toNat)
                              case atStart => exact ⟨0, by omega, rfl, rfl⟩
                              case round =>
                                obtain ⟨j, hj, rfl, hwz⟩ := hrel
                                obtain rfl : z11 = wr := hwz.out.symm
                                by_cases hlj : j < nk
                                · --
                                  as_aux_lemma =>
                                    obtain ⟨gx, hgx⟩ := pown_some HOW.out (by omega) HNK.out
                                    subst hgx
                                    obtain ⟨p, hp, hpr⟩ := HMK.out k j hlt (.inl hlt) (by rw [HNK.out]; exact hlj)
                                    have ec : z11.cell? ⟨gx, j * 66, none⟩ = some (.int .i64 (-1000 * ((k : Int) + 1) - (j : Int))) := by
                                      have ho := HOW.out
                                      rw [← HNK.out] at ho
                                      have h1 := World.ownsRow.cellAt ho (j * 66) (by rw [HNK.out]; omega)
                                      have h2 := flat_get (HF6.out.ok k (by omega)) 0 hp (by decide)
                                      rw [Nat.add_zero] at h2
                                      rw [h1, h2, ← hpr]
                                      rfl
                                    have w1' : IntKind.i64.wrap ((k : Int) + 1) = (k : Int) + 1 := wrap_id (by omega) (by omega)
                                    have w2' : IntKind.i64.wrap (-1000 * ((k : Int) + 1)) = -1000 * ((k : Int) + 1) := wrap_id (by omega) (by omega)
                                    have w3' : IntKind.i64.wrap (-1000 * ((k : Int) + 1) - (j : Int)) = -1000 * ((k : Int) + 1) - (j : Int) := wrap_id (by omega) (by omega)
                                    clear hp hpr
                                    go_wp2
                                    go_roundw
                                    case rel => exact ⟨j + 1, by omega, by go_num, by first | rfl | trivial⟩
                                    case measure => simp [intOf]; omega
                                · --
                                  as_aux_lemma =>
                                    obtain rfl : nk = j := by omega
                                    go_wp2
                                    go_roundw
                                    case rel =>
                                      refine ⟨_, _, _, .int .i64 ((k : Int) + 1), ⟨k + 1, by omega, ?_⟩, rfl, rfl, rfl, rfl⟩
                                      go_num
                                    case measure => simp [intOf]; omega
                          · obtain rfl : k = 4 := by omega
                            clear hlt hk
                            go_upto_region 71 with fail
                            have W11 : Hid (POwn z11 w1.heap.size (.slice (some ⟨g, 0, none⟩) (len + 12) c) (l2 ++ fill 12)) := own_low W9.out WW.out LB.out.2.1 HB6.out
                            go_wp2
                            go_loopw [48] (fun i wr => ∃ k : Nat, k ≤ 12 ∧ i = .int .i64 (k : Int) ∧ Hid (wr = z11)) (fun i _ => 12 - (intOf i).toNat)
                            case atStart => exact ⟨0, by omega, rfl, rfl⟩
                            case round =>
                              obtain ⟨k, hk, rfl, hwz⟩ := hrel
                              obtain rfl : z11 = wr := hwz.out.symm
                              by_cases hlt : k < 12
                              · --
                                as_aux_lemma =>
                                  obtain ⟨q, hq⟩ : ∃ q, len + k = q := ⟨_, rfl⟩
                                  have rS := spare_at W11.out HOK2.out HL2.out hlt
                                  rw [hq] at rS
                                  have hqw : IntKind.i64.wrap ((len : Int) + (k : Int)) = (q : Int) := by rw [IntKind.wrap_i64]; omega
                                  have hq2 : q < len + 12 := by omega
                                  have hq3 : (q : Int) < (len : Int) + 12 := by omega
                                  have hpo : (mkp (-9 - (k : Int))).Ok := mkp_ok (by omega) (by omega)
                                  have HPO := hide hpo
                                  have HU38 := hide Tryd.underlying38
                                  have HI38 : Hid ((Tryd.prog.info? 38).map (·.size) = some (mkp (-9 - (k : Int))).cells.length) := by unfold Hid; rw [hpo.cells]; exact sizePage
                                  have hw9 : IntKind.i64.wrap (-9 - (k : Int)) = -9 - (k : Int) := by rw [IntKind.wrap_i64]; omega
                                  have hzp := HZP.out
                                  have hne := HNE.out
                                  have k12 : (k : Int) < 12 := by omega
                                  clear hpo hq
                                  go_upto_region 74 with fail
                                  refine wp_region_list ?_
                                  refine wpList_tail (pre := [{ dst := some 361, op := Go.Op.move (Go.Operand.tmp 7), type := 22, pos := "outright.go:184", after := #[], guard := none }, { dst := some 362, op := Go.Op.move (Go.Operand.tmp 0), type := 22, pos := "outright.go:184", after := #[], guard := none }, { dst := some 363, op := Go.Op.call { callee := Go.Callee.builtin Go.Builtin.len, args := #[Go.Operand.tmp 362], argTypes := #[22] }, type := 3, pos := "outright.go:184", after := #[{ on := 1, ground := Go.Ground.data }], guard := none }, { dst := some 364, op := Go.Op.move (Go.Operand.tmp 48), type := 3, pos := "outright.go:184", after := #[], guard := none }, { dst := some 365, op := Go.Op.binOp Go.BinOp.add 3 (Go.Operand.tmp 363) (Go.Operand.tmp 364) 3, type := 3, pos := "outright.go:184", after := #[{ on := 2, ground := Go.Ground.data }, { on := 3, ground := Go.Ground.data }], guard := none }, { dst := some 366, op := Go.Op.indexAddr 22 (Go.Operand.tmp 361) (Go.Operand.tmp 365), type := 0, pos := "outright.go:184", after := #[{ on := 0, ground := Go.Ground.data }, { on := 4, ground := Go.Ground.data }], guard := none }]) _ ?_
                                  intro tl htl
                                  have HTL := hide htl
                                  clear htl
                                  simp only [List.cons_append, List.nil_append]
                                  go_wp2_with fail
                                  have htl := HTL.out
                                  clear HTL
                                  subst htl
                                  refine wpList_load_g (op := { dst := some 367, op := Go.Op.load 38 (Go.Operand.tmp 366), type := 38, pos := "outright.go:184", after := #[{ on := 5, ground := Go.Ground.data }], guard := none }) (by rfl) 38 (.tmp 366) rfl g ((q * 66)) rfl (mkp (-9 - (k : Int))).cells _ rS HU38.out rfl HI38.out ?_
                                  simp only [Act.put, List.setIfInBounds_toArray, List.set_cons_zero, List.set_cons_succ]
                                  refine wpList_tail (pre := [{ dst := some 368, op := Go.Op.move (Go.Operand.tmp 48), type := 3, pos := "outright.go:184", after := #[], guard := none }, { dst := some 369, op := Go.Op.binOp Go.BinOp.sub 3 (Go.Operand.const (Go.Value.int Go.IntKind.i64 (-9))) (Go.Operand.tmp 368) 3, type := 3, pos := "outright.go:184", after := #[{ on := 7, ground := Go.Ground.data }], guard := none }, { dst := some 370, op := Go.Op.build 38 #[(0, Go.Operand.tmp 369)], type := 38, pos := "outright.go:184", after := #[{ on := 8, ground := Go.Ground.data }], guard := none }]) _ ?_
                                  intro tl htl
                                  have HTL := hide htl
                                  clear htl
                                  simp only [List.cons_append, List.nil_append]
                                  go_wp2_with fail
                                  have htl := HTL.out
                                  clear HTL
                                  subst htl
                                  refine wpList_run_g (op := { dst := some 371, op := Go.Op.binOp Go.BinOp.neq 38 (Go.Operand.tmp 367) (Go.Operand.tmp 370) 38, type := 4, pos := "outright.go:184", after := #[{ on := 6, ground := Go.Ground.data }, { on := 9, ground := Go.Ground.data }], guard := none }) (by rfl) (.bool false) (neq_pg HPO.out _ (.tmp 367) (.tmp 370) rfl (HZC.out _) _ _ rfl _) ?_
                                  simp only [Act.put, List.setIfInBounds_toArray, List.set_cons_zero, List.set_cons_succ]
                                  go_wp2
                                  go_roundw
                                  case rel => exact ⟨k + 1, by omega, by go_num, by first | rfl | trivial⟩
                                  case measure => simp [intOf]; omega
                              · --
                                as_aux_lemma =>
                                  obtain rfl : k = 12 := by omega
                                  have ho4 := HF6.out.own 4 (by omega)
                                  rw [HV4.out.1, H4.out] at ho4
                                  obtain ⟨xa, xc, hxv, px, _⟩ := ho4.pgs HOK2.out (by rw [HL2.out]; exact hm)
                                  rw [HL2.out] at hxv px
                                  simp only [Value.slice.injEq] at hxv
                                  obtain ⟨rfl, _, rfl⟩ := hxv
                                  have HSM := hide (refSame_any (some ⟨g, 0, none⟩) len c l2 oa oc z11 (own_front W11.out HOK2.out HL2.out hm) px)
                                  have DF := hide (D9.out.trans (HB6.out.mono LB.out.1))
                                  clear ho4 px hlt hk
                                  go_wp2_with fail
                                  refine Calls.mono HSM.out ?_
                                  rintro e z12 ⟨rfl, b12⟩
                                  have DG := hide (chain DF.out b12)
                                  clear b12
                                  go_wp2
                                  go_ret
                                  exact ⟨rfl, DG.out⟩
end Go.Proofs.YtegkodgondlcmaaDoor.coreKeeps
