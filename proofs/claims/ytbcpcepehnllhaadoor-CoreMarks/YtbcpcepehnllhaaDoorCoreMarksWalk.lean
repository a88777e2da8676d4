/-
  CoreMarks: the law walked.
-/
import Derived.Test.YtbcpcepehnllhaaDoorCmTwin
import Derived.Test.YtbcpcepehnllhaaDoorPgMark
namespace Go.Proofs.YtbcpcepehnllhaaDoor.coreMarks
open Go.RowKit FerryCrc FerryAlu
set_option linter.unusedVariables false
set_option linter.unusedSimpArgs false

theorem one_alloc (w : World) (x : Array Value) (t : TypeId) : Bl (w.alloc (.cells x t)) w.heap.size x.toList ∧ Below w.heap.size w (w.alloc (.cells x t)) ∧ (w.alloc (.cells x t)).heap.size = w.heap.size + 1 :=
  ⟨bl_alloc w x t, (Below.refl _ _).alloc (Nat.le_refl _) _, by simp⟩

set_option maxRecDepth 100000 in
set_option maxHeartbeats 4000000 in
theorem ne_procx (r0 r1 r2 r3 r4 r5 r6 r7 r8 r9 r10 r11 r12 r13 r14 r15 pc : Nat) (h0 : r0 < 4294967296) (h1 : r1 < 4294967296) (h2 : r2 < 4294967296) (h3 : r3 < 4294967296) (h4 : r4 < 4294967296) (h5 : r5 < 4294967296) (h6 : r6 < 4294967296) (h7 : r7 < 4294967296) (h8 : r8 < 4294967296) (h9 : r9 < 4294967296) (h10 : r10 < 4294967296) (h11 : r11 < 4294967296) (h12 : r12 < 4294967296) (h13 : r13 < 4294967296) (h14 : r14 < 4294967296) (h15 : r15 < 4294967296) (st pr wa ob : Int) (w : World) : (binOp .neq 26 (.agg #[.int .u32 (r0 : Int), .int .u32 (r1 : Int), .int .u32 (r2 : Int), .int .u32 (r3 : Int), .int .u32 (r4 : Int), .int .u32 (r5 : Int), .int .u32 (r6 : Int), .int .u32 (r7 : Int), .int .u32 (r8 : Int), .int .u32 (r9 : Int), .int .u32 (r10 : Int), .int .u32 (r11 : Int), .int .u32 (r12 : Int), .int .u32 (r13 : Int), .int .u32 (r14 : Int), .int .u32 (r15 : Int), .int .u32 (pc : Int), .int .i64 st, .int .i64 pr, .int .i64 wa, .int .i64 ob]) (.agg #[.int .u32 (r0 : Int), .int .u32 (r1 : Int), .int .u32 (r2 : Int), .int .u32 (r3 : Int), .int .u32 (r4 : Int), .int .u32 (r5 : Int), .int .u32 (r6 : Int), .int .u32 (r7 : Int), .int .u32 (r8 : Int), .int .u32 (r9 : Int), .int .u32 (r10 : Int), .int .u32 (r11 : Int), .int .u32 (r12 : Int), .int .u32 (r13 : Int), .int .u32 (r14 : Int), .int .u32 (r15 : Int), .int .u32 (pc : Int), .int .i64 st, .int .i64 pr, .int .i64 wa, .int .i64 ob])).run Tryd.prog w = .ok (.bool false) w := by
  go_simp
  rw [eq_arr r0 r1 r2 r3 r4 r5 r6 r7 r8 r9 r10 r11 r12 r13 r14 r15 h0 h1 h2 h3 h4 h5 h6 h7 h8 h9 h10 h11 h12 h13 h14 h15]
  go_simp
theorem ne_proc {m : Mc} (ok : m.Ok) (w : World) : (binOp .neq 26 (.agg m.proc.toArray) (.agg m.proc.toArray)).run Tryd.prog w = .ok (.bool false) w := by
  obtain ⟨r0, r1, r2, r3, r4, r5, r6, r7, r8, r9, r10, r11, r12, r13, r14, r15, hr⟩ := regs_list ok.size
  obtain ⟨l, regs, pc, st, pr, wa, ob⟩ := m
  simp only at hr
  subst hr
  exact ne_procx r0 r1 r2 r3 r4 r5 r6 r7 r8 r9 r10 r11 r12 r13 r14 r15 pc (ok.small r0 (by simp)) (ok.small r1 (by simp)) (ok.small r2 (by simp)) (ok.small r3 (by simp)) (ok.small r4 (by simp)) (ok.small r5 (by simp)) (ok.small r6 (by simp)) (ok.small r7 (by simp)) (ok.small r8 (by simp)) (ok.small r9 (by simp)) (ok.small r10 (by simp)) (ok.small r11 (by simp)) (ok.small r12 (by simp)) (ok.small r13 (by simp)) (ok.small r14 (by simp)) (ok.small r15 (by simp)) st pr wa ob w
theorem neq_proc {m : Mc} (ok : m.Ok) (ev : Operand → Value) (x y : Operand) (hx : ev x = .agg m.proc.toArray) (hy : ev y = .agg m.proc.toArray) (o : Oper) (t : TypeId) (ho : o.op = .binOp .neq 26 x y t) (w : World) : (execOp ev o).run Tryd.prog w = .ok (.value (.bool false)) w := by
  unfold execOp
  simp only [ho, hx, hy, Sem.run_bind, run_eqGuard_agg _ _ _ _ _ _ _ (show Tryd.prog.eqGuardType Tryd.prog.depth 26 = false by kernel_rfl), Result.andThen_ok, ne_proc ok]
  rfl
theorem ne_stopx (k s c : Int) (w : World) : (binOp .neq 32 (.agg #[.int .i64 k, .int .i64 s, .int .i64 c]) (.agg #[.int .i64 k, .int .i64 s, .int .i64 c])).run Tryd.prog w = .ok (.bool false) w := by
  go_simp
theorem neq_stop {S : List Value} {k s c : Int} (hS : S = [.int .i64 k, .int .i64 s, .int .i64 c]) (ev : Operand → Value) (x y : Operand) (hx : ev x = .agg S.toArray) (hy : ev y = .agg S.toArray) (o : Oper) (t : TypeId) (ho : o.op = .binOp .neq 32 x y t) (w : World) : (execOp ev o).run Tryd.prog w = .ok (.value (.bool false)) w := by
  subst hS
  unfold execOp
  simp only [ho, hx, hy, Sem.run_bind, run_eqGuard_agg _ _ _ _ _ _ _ (show Tryd.prog.eqGuardType Tryd.prog.depth 32 = false by kernel_rfl), Result.andThen_ok, ne_stopx]
  rfl


def stl (S : List Value) : Prop := S.length = 3 ∧ ∀ u ∈ S, u.oneCell' = true
theorem stl_stop (R : Rn) : stl (stopL R) := ⟨rfl, fun u hu => by
  simp only [stopL, List.mem_cons, List.not_mem_nil, or_false] at hu
  rcases hu with rfl | rfl | rfl <;> rfl⟩
theorem keepR (w2 : World) (M : Mc) (S : List Value) (ok : M.Ok) (hS : stl S) :
    ((w2.alloc (.cells #[.int .u32 0, .int .u32 0, .int .u32 0, .int .u32 0, .int .u32 0, .int .u32 0, .int .u32 0, .int .u32 0, .int .u32 0, .int .u32 0, .int .u32 0, .int .u32 0, .int .u32 0, .int .u32 0, .int .u32 0, .int .u32 0, .int .u32 0, .int .i64 0, .int .i64 0, .int .i64 0, .int .i64 0] 26)).alloc (.cells #[.int .i64 0, .int .i64 0, .int .i64 0] 32)).there w2.heap.size 0 M.proc.toArray.size ∧ (((w2.alloc (.cells #[.int .u32 0, .int .u32 0, .int .u32 0, .int .u32 0, .int .u32 0, .int .u32 0, .int .u32 0, .int .u32 0, .int .u32 0, .int .u32 0, .int .u32 0, .int .u32 0, .int .u32 0, .int .u32 0, .int .u32 0, .int .u32 0, .int .u32 0, .int .i64 0, .int .i64 0, .int .i64 0, .int .i64 0] 26)).alloc (.cells #[.int .i64 0, .int .i64 0, .int .i64 0] 32)).setCells w2.heap.size 0 M.proc).there (w2.heap.size + 1) 0 S.toArray.size ∧
    ((Tryd.prog.info? 26).map (·.size) = some M.proc.toArray.size ∧ (Tryd.prog.info? 32).map (·.size) = some S.toArray.size ∧ M.proc.toArray.all (·.oneCell') = true ∧ S.toArray.all (·.oneCell') = true) ∧
    Bl ((((w2.alloc (.cells #[.int .u32 0, .int .u32 0, .int .u32 0, .int .u32 0, .int .u32 0, .int .u32 0, .int .u32 0, .int .u32 0, .int .u32 0, .int .u32 0, .int .u32 0, .int .u32 0, .int .u32 0, .int .u32 0, .int .u32 0, .int .u32 0, .int .u32 0, .int .i64 0, .int .i64 0, .int .i64 0, .int .i64 0] 26)).alloc (.cells #[.int .i64 0, .int .i64 0, .int .i64 0] 32)).setCells w2.heap.size 0 M.proc).setCells (w2.heap.size + 1) 0 S) w2.heap.size M.proc ∧ Bl ((((w2.alloc (.cells #[.int .u32 0, .int .u32 0, .int .u32 0, .int .u32 0, .int .u32 0, .int .u32 0, .int .u32 0, .int .u32 0, .int .u32 0, .int .u32 0, .int .u32 0, .int .u32 0, .int .u32 0, .int .u32 0, .int .u32 0, .int .u32 0, .int .u32 0, .int .i64 0, .int .i64 0, .int .i64 0, .int .i64 0] 26)).alloc (.cells #[.int .i64 0, .int .i64 0, .int .i64 0] 32)).setCells w2.heap.size 0 M.proc).setCells (w2.heap.size + 1) 0 S) (w2.heap.size + 1) S ∧
    Below w2.heap.size w2 ((((w2.alloc (.cells #[.int .u32 0, .int .u32 0, .int .u32 0, .int .u32 0, .int .u32 0, .int .u32 0, .int .u32 0, .int .u32 0, .int .u32 0, .int .u32 0, .int .u32 0, .int .u32 0, .int .u32 0, .int .u32 0, .int .u32 0, .int .u32 0, .int .u32 0, .int .i64 0, .int .i64 0, .int .i64 0, .int .i64 0] 26)).alloc (.cells #[.int .i64 0, .int .i64 0, .int .i64 0] 32)).setCells w2.heap.size 0 M.proc).setCells (w2.heap.size + 1) 0 S) ∧ ((((w2.alloc (.cells #[.int .u32 0, .int .u32 0, .int .u32 0, .int .u32 0, .int .u32 0, .int .u32 0, .int .u32 0, .int .u32 0, .int .u32 0, .int .u32 0, .int .u32 0, .int .u32 0, .int .u32 0, .int .u32 0, .int .u32 0, .int .u32 0, .int .u32 0, .int .i64 0, .int .i64 0, .int .i64 0, .int .i64 0] 26)).alloc (.cells #[.int .i64 0, .int .i64 0, .int .i64 0] 32)).setCells w2.heap.size 0 M.proc).setCells (w2.heap.size + 1) 0 S).heap.size = w2.heap.size + 2 := by
  have hp := proc_len ok
  obtain ⟨t1, t2, k1, k2, k3, k4⟩ := keep2 w2 #[.int .u32 0, .int .u32 0, .int .u32 0, .int .u32 0, .int .u32 0, .int .u32 0, .int .u32 0, .int .u32 0, .int .u32 0, .int .u32 0, .int .u32 0, .int .u32 0, .int .u32 0, .int .u32 0, .int .u32 0, .int .u32 0, .int .u32 0, .int .i64 0, .int .i64 0, .int .i64 0, .int .i64 0] #[.int .i64 0, .int .i64 0, .int .i64 0] M.proc S 26 32 (by rw [hp]; rfl) (by rw [hS.1]; rfl)
  refine ⟨by simpa using t1, by simpa using t2, ⟨?_, ?_, all_oneCell_toArray (proc_one M), all_oneCell_toArray hS.2⟩, k1, k2, k3, k4⟩
  · rw [List.size_toArray, hp]
    exact infoProc
  · rw [List.size_toArray, hS.1]
    exact infoStop

def dOf (l : List Pg) (k : Nat) : Bool := match l[k]? with
  | some p => p.dirty
  | none => false
theorem twin_clean (m : Mc) : TwinM (dOf m.pages) m { m with pages := m.pages.map Pg.clean } :=
  ⟨⟨by simp, fun k p q hp hq => by
    have hq' : (m.pages.map Pg.clean)[k]? = some q := hq
    rw [List.getElem?_map, hp] at hq'
    obtain rfl := Option.some.inj hq'
    refine ⟨rfl, rfl, ?_⟩
    unfold dOf
    rw [hp]
    show p.dirty = (p.dirty || false)
    rw [Bool.or_false]⟩, rfl⟩
theorem twin_proc {D : Nat → Bool} {m m' : Mc} (h : TwinM D m m') : m'.proc = m.proc := by
  rw [h.rest]
  rfl
theorem twin_stop {D : Nat → Bool} {r r' : Rn} (h : TwinR D r r') : stopL r' = stopL r := by
  unfold stopL
  rw [h.kind, h.code, h.steps]

set_option maxRecDepth 100000 in
set_option maxHeartbeats 8000000 in
theorem law (a : Option Addr) (len cap : Nat) (m : Mc) (n : Int) (w : World) (A : Addr) (hv : Cov w A) (hs : Pgs w a len cap m.pages) (ok : m.Ok) (i1 : -9223372036854775808 ≤ n) (i2 : n ≤ 9223372036854775807) :
    Calls Tryd.prog 4 #[.slice a len cap, .agg m.proc.toArray, .int .i64 n] w fun e w' => e = .returned (.bool true) ∧ Below w.heap.size w w' := by
  have hm := hs.most
  have HLEN := hide hs.size
  have HS := hide hs
  have HV := hide hv
  have OK := hide ok
  have HPL : Hid (m.proc.length = 21) := proc_len ok
  obtain ⟨z4, hb0, hsz⟩ := one_alloc w m.proc.toArray 26
  have Z4 : Hid (Bl (w.alloc (.cells m.proc.toArray 26)) w.heap.size m.proc) := z4
  have HB0 := hide hb0
  have HSZ := hide hsz
  have hu26 := Tryd.underlying26
  have hi26 : (Tryd.prog.info? 26).map (·.size) = some m.proc.length := by rw [HPL.out]; exact infoProc
  have HU := hide hu26
  have HI := hide hi26
  clear hs hv ok z4 hb0 hsz hu26 hi26
  obtain ⟨na, hna⟩ : ∃ na, (if 3000 < n then 3000 else n) = na := ⟨_, rfl⟩
  have BA := hide (bounded_any n)
  rw [hna] at BA
  have a1 : na ≤ 3000 := by rw [← hna]; split <;> omega
  have a3 : -9223372036854775808 ≤ na := by rw [← hna]; split <;> omega
  clear hna
  go_enter Tryd.func4, Tryd.ntmps4
  go_upto_region 1 with fail
  generalize w.alloc (.cells m.proc.toArray 26) = W0 at *
  go_wp2_with fail
  refine Calls.mono (awake_any W0 A (HV.out.below HB0.out)) ?_
  rintro e w1 ⟨rfl, b1⟩
  have Z41 := hide (Z4.out.below (by rw [HSZ.out]; omega) b1)
  have D1 := hide (chain HB0.out b1)
  have L41 : Hid (w.heap.size < w1.heap.size) := by have h1 := HSZ.out; have h2 := b1.size; unfold Hid; omega
  clear b1 Z4 HB0
  go_wp2_with fail
  refine Calls.mono (BA.out _) ?_
  rintro e w' ⟨rfl, rfl⟩
  go_wp2_with fail
  refine Calls.mono (refCopy_any a len cap m.pages w1 (HS.out.below D1.out)) ?_
  rintro e w2 ⟨v2, rfl, ho, b2⟩
  obtain ⟨a2, c2, rfl, g2, hcase⟩ := ho.pgs OK.out.ok OK.out.most
  rw [HLEN.out] at ho ⊢
  have HO := hide ho
  have HB2 := hide b2
  have HCASE := hide hcase
  clear ho b2 hcase g2 BA i1 i2
  go_wp2
  go_loopw [24] (fun i wr => ∃ k : Nat, k ≤ len ∧ i = .int .i64 (k : Int) ∧ Hid (POwn wr w1.heap.size (.slice a2 len c2) (cleaned m.pages k)) ∧ Hid (Below w1.heap.size w1 wr)) (fun i _ => len - (intOf i).toNat)
  case atStart => exact ⟨0, by omega, rfl, show POwn _ _ _ _ by simpa [cleaned] using HO.out, HB2.out⟩
  case round =>
    obtain ⟨k, hk, rfl, hown, hbl⟩ := hrel
    by_cases hlt : k < len
    · rcases HCASE.out with ⟨_, hnil⟩ | ⟨g, rfl, hg⟩
      · have := HLEN.out
        rw [hnil] at this
        simp at this
        omega
      obtain ⟨⟨u, hc⟩, hf, hst⟩ := POwn.cleanOne hown.out HLEN.out OK.out.ok hlt
      have HST := hide hst
      have HG := hide hg
      clear hst hg
      go_wp2
      go_roundw
      case rel => exact ⟨k + 1, by omega, by go_num, HST.out, hbl.out.setCell HG.out _⟩
      case measure => simp [intOf]; omega
    · obtain rfl : len = k := by omega
      have HE := hide (cleaned_all HLEN.out)
      rw [HE.out] at hown
      clear HO HB2 HE hlt hk
      have TW : Hid (TwinR (dOf m.pages) (m.run na.toNat) (({ m with pages := m.pages.map Pg.clean } : Mc).run na.toNat)) := run_twin (twin_clean m) _
      have okC : ({ m with pages := m.pages.map Pg.clean } : Mc).Ok := ⟨fun P hP => by
        obtain ⟨p, hp, rfl⟩ := List.mem_map.1 hP
        exact Pg.clean_ok (OK.out.ok p hp), by show (m.pages.map Pg.clean).length ≤ _; rw [List.length_map]; exact OK.out.most, OK.out.size, OK.out.small, OK.out.pc⟩
      have HR1 : Hid (∀ (W : World), Below w.heap.size w W → Calls Tryd.prog 9 #[.slice a len cap, .agg m.proc.toArray, .int .i64 na] W fun e w' => ∃ v, e = .returned (.tuple #[v, .agg (m.run na.toNat).m.proc.toArray, .agg (stopL (m.run na.toNat)).toArray]) ∧ POwn w' W.heap.size v (m.run na.toNat).m.pages ∧ (m.run na.toNat).m.Ok ∧ Below W.heap.size W w') := fun W hW =>
        run_any a len cap m na W (HS.out.below hW) OK.out A (HV.out.below hW) (by omega) (by omega)
      have HR2 : Hid (∀ (W : World), Below w.heap.size w W → Pgs W a2 len c2 (m.pages.map Pg.clean) → Calls Tryd.prog 9 #[.slice a2 len c2, .agg m.proc.toArray, .int .i64 na] W fun e w' => ∃ v, e = .returned (.tuple #[v, .agg (m.run na.toNat).m.proc.toArray, .agg (stopL (m.run na.toNat)).toArray]) ∧ POwn w' W.heap.size v (({ m with pages := m.pages.map Pg.clean } : Mc).run na.toNat).m.pages ∧ (({ m with pages := m.pages.map Pg.clean } : Mc).run na.toNat).m.Ok ∧ Below W.heap.size W w') := fun W hW hp => by
        have := run_any a2 len c2 { m with pages := m.pages.map Pg.clean } na W hp okC A (HV.out.below hW) (by omega) (by omega)
        rw [twin_proc TW.out.m, twin_stop TW.out] at this
        exact this
      have HL1 : Hid ((m.run na.toNat).m.pages.length = len) := by
        unfold Hid
        rw [(run_held OK.out _).pages.size]
        exact HLEN.out
      have HL2 : Hid ((({ m with pages := m.pages.map Pg.clean } : Mc).run na.toNat).m.pages.length = len) := by
        unfold Hid
        rw [← TW.out.m.pages.size]
        exact HL1.out
      obtain ⟨a2', c2', hv2, g2, _⟩ := hown.out.pgs okC.ok okC.most
      have hlc : (m.pages.map Pg.clean).length = len := by rw [List.length_map]; exact HLEN.out
      rw [hlc] at hv2 g2
      simp only [Value.slice.injEq, true_and] at hv2
      obtain ⟨rfl, rfl⟩ := hv2
      have G2 := hide g2
      have HSS : Hid (stl (stopL (m.run na.toNat))) := stl_stop _
      have HS1 : Hid (stopL (m.run na.toNat) = [.int .i64 ((m.run na.toNat).kind : Int), .int .i64 ((m.run na.toNat).steps : Int), .int .i64 (m.run na.toNat).code]) := rfl
      clear okC g2 hown HCASE
      generalize (({ m with pages := m.pages.map Pg.clean } : Mc).run na.toNat) = R2 at *
      generalize (m.run na.toNat) = R1 at *
      generalize hS1 : stopL R1 = S1 at *
      clear hS1 hlc
      have D2 := hide (chain D1.out hbl.out)
      have Z42 := hide (Z41.out.below L41.out hbl.out)
      have L42 : Hid (w.heap.size < wr.heap.size) := by have h1 := L41.out; have h2 := hbl.out.size; unfold Hid; omega
      clear hbl Z41 L41 D1
      have r4 : wr.rangeAt w.heap.size 0 m.proc := bl_range Z42.out
      go_wp2_with (first | (refine wpList_load_mid (op := { dst := some 34, op := Go.Op.load 26 (Go.Operand.tmp 4), type := 26, pos := "outright.go:105", after := #[], guard := none }) rfl 26 (.tmp 4) rfl w.heap.size 0 rfl m.proc _ r4 HU.out rfl HI.out ?_) | fail)
      refine Calls.mono (HR1.out wr D2.out) ?_
      rintro e w3 ⟨v1, rfl, hoA, ok1, bA⟩
      have OK1 := hide ok1
      clear ok1 HR1
      obtain ⟨t1A, t2A, ⟨j1A, j2A, j3A, j4A⟩, k1A, k2A, k3A, k4A⟩ := keepR w3 R1.m S1 OK1.out HSS.out
      have T1A := hide t1A
      have T2A := hide t2A
      have J1A := hide j1A
      have J2A := hide j2A
      have J3A := hide j3A
      have J4A := hide j4A
      have K1A := hide k1A
      have K2A := hide k2A
      have K3A := hide k3A
      have K4A := hide k4A
      have HOA := hide (hoA.below k3A)
      have D2' := hide (chain D2.out (chain bA k3A))
      have HBBA := hide (chain bA k3A)
      clear t1A t2A j1A j2A j3A j4A k1A k2A k3A k4A hoA
      go_upto_region 11 with (first | (refine wpList_store_mid (op := { dst := none, op := Go.Op.store 26 (Go.Operand.tmp 10) (Go.Operand.tmp 38), type := 0, pos := "outright.go:105", after := #[{ on := 8, ground := Go.Ground.data }, { on := 6, ground := Go.Ground.data }, { on := 10, ground := Go.Ground.chain }, { on := 0, ground := Go.Ground.phase }, { on := 1, ground := Go.Ground.phase }, { on := 2, ground := Go.Ground.phase }, { on := 3, ground := Go.Ground.phase }, { on := 4, ground := Go.Ground.phase }, { on := 5, ground := Go.Ground.phase }, { on := 6, ground := Go.Ground.phase }, { on := 7, ground := Go.Ground.textOnly Go.Departure.lateStores }, { on := 8, ground := Go.Ground.phase }, { on := 9, ground := Go.Ground.phase }, { on := 10, ground := Go.Ground.phase }], guard := none }) rfl 26 (.tmp 10) (.tmp 38) rfl w3.heap.size 0 R1.m.proc.toArray rfl rfl T1A.out J1A.out J3A.out ?_) | (refine wpList_store_mid (op := { dst := none, op := Go.Op.store 32 (Go.Operand.tmp 11) (Go.Operand.tmp 39), type := 0, pos := "outright.go:105", after := #[{ on := 9, ground := Go.Ground.data }, { on := 7, ground := Go.Ground.data }, { on := 11, ground := Go.Ground.chain }, { on := 0, ground := Go.Ground.phase }, { on := 1, ground := Go.Ground.phase }, { on := 2, ground := Go.Ground.phase }, { on := 3, ground := Go.Ground.phase }, { on := 4, ground := Go.Ground.phase }, { on := 5, ground := Go.Ground.phase }, { on := 6, ground := Go.Ground.phase }, { on := 7, ground := Go.Ground.phase }, { on := 8, ground := Go.Ground.phase }, { on := 9, ground := Go.Ground.phase }, { on := 10, ground := Go.Ground.phase }, { on := 11, ground := Go.Ground.phase }], guard := none }) rfl 32 (.tmp 11) (.tmp 39) rfl (w3.heap.size + 1) 0 (S1).toArray rfl rfl T2A.out J2A.out J4A.out ?_) | fail)
      simp only [Act.put]
      generalize (((w3.alloc (.cells #[.int .u32 0, .int .u32 0, .int .u32 0, .int .u32 0, .int .u32 0, .int .u32 0, .int .u32 0, .int .u32 0, .int .u32 0, .int .u32 0, .int .u32 0, .int .u32 0, .int .u32 0, .int .u32 0, .int .u32 0, .int .u32 0, .int .u32 0, .int .i64 0, .int .i64 0, .int .i64 0, .int .i64 0] 26)).alloc (.cells #[.int .i64 0, .int .i64 0, .int .i64 0] 32)).setCells w3.heap.size 0 R1.m.proc).setCells (w3.heap.size + 1) 0 S1 = W4 at *
      have Z43 := hide (Z42.out.below L42.out HBBA.out)
      have r4b : W4.rangeAt w.heap.size 0 m.proc := bl_range Z43.out
      have HI1 : Hid ((Tryd.prog.info? 26).map (·.size) = some R1.m.proc.length) := by unfold Hid; rw [proc_len OK1.out]; exact infoProc
      go_wp2_with (first | (refine wpList_load_mid (op := { dst := some 42, op := Go.Op.load 26 (Go.Operand.tmp 4), type := 26, pos := "outright.go:106", after := #[], guard := none }) rfl 26 (.tmp 4) rfl w.heap.size 0 rfl m.proc _ r4b HU.out rfl HI.out ?_) | fail)
      refine Calls.mono (HR2.out W4 D2'.out (G2.out.below HBBA.out)) ?_
      rintro e w5 ⟨v2, rfl, hoB, ok2, bB⟩
      have OK2 := hide ok2
      clear ok2 HR2
      obtain ⟨t1B, t2B, ⟨j1B, j2B, j3B, j4B⟩, k1B, k2B, k3B, k4B⟩ := keepR w5 R1.m S1 OK1.out HSS.out
      have T1B := hide t1B
      have T2B := hide t2B
      have J1B := hide j1B
      have J2B := hide j2B
      have J3B := hide j3B
      have J4B := hide j4B
      have K1B := hide k1B
      have K2B := hide k2B
      have K3B := hide k3B
      have K4B := hide k4B
      have HOB := hide (hoB.below k3B)
      have D2'' := hide (chain D2'.out (chain bB k3B))
      have HBBB := hide (chain bB k3B)
      clear t1B t2B j1B j2B j3B j4B k1B k2B k3B k4B hoB
      go_upto_region 12 with (first | (refine wpList_store_mid (op := { dst := none, op := Go.Op.store 26 (Go.Operand.tmp 13) (Go.Operand.tmp 46), type := 0, pos := "outright.go:106", after := #[{ on := 8, ground := Go.Ground.data }, { on := 6, ground := Go.Ground.data }, { on := 10, ground := Go.Ground.chain }, { on := 0, ground := Go.Ground.phase }, { on := 1, ground := Go.Ground.phase }, { on := 2, ground := Go.Ground.phase }, { on := 3, ground := Go.Ground.phase }, { on := 4, ground := Go.Ground.phase }, { on := 5, ground := Go.Ground.phase }, { on := 6, ground := Go.Ground.phase }, { on := 7, ground := Go.Ground.textOnly Go.Departure.lateStores }, { on := 8, ground := Go.Ground.phase }, { on := 9, ground := Go.Ground.phase }, { on := 10, ground := Go.Ground.phase }], guard := none }) rfl 26 (.tmp 13) (.tmp 46) rfl w5.heap.size 0 R1.m.proc.toArray rfl rfl T1B.out J1B.out J3B.out ?_) | (refine wpList_store_mid (op := { dst := none, op := Go.Op.store 32 (Go.Operand.tmp 14) (Go.Operand.tmp 47), type := 0, pos := "outright.go:106", after := #[{ on := 9, ground := Go.Ground.data }, { on := 7, ground := Go.Ground.data }, { on := 11, ground := Go.Ground.chain }, { on := 0, ground := Go.Ground.phase }, { on := 1, ground := Go.Ground.phase }, { on := 2, ground := Go.Ground.phase }, { on := 3, ground := Go.Ground.phase }, { on := 4, ground := Go.Ground.phase }, { on := 5, ground := Go.Ground.phase }, { on := 6, ground := Go.Ground.phase }, { on := 7, ground := Go.Ground.phase }, { on := 8, ground := Go.Ground.phase }, { on := 9, ground := Go.Ground.phase }, { on := 10, ground := Go.Ground.phase }, { on := 11, ground := Go.Ground.phase }], guard := none }) rfl 32 (.tmp 14) (.tmp 47) rfl (w5.heap.size + 1) 0 (S1).toArray rfl rfl T2B.out J2B.out J4B.out ?_) | fail)
      simp only [Act.put]
      generalize (((w5.alloc (.cells #[.int .u32 0, .int .u32 0, .int .u32 0, .int .u32 0, .int .u32 0, .int .u32 0, .int .u32 0, .int .u32 0, .int .u32 0, .int .u32 0, .int .u32 0, .int .u32 0, .int .u32 0, .int .u32 0, .int .u32 0, .int .u32 0, .int .u32 0, .int .i64 0, .int .i64 0, .int .i64 0, .int .i64 0] 26)).alloc (.cells #[.int .i64 0, .int .i64 0, .int .i64 0] 32)).setCells w5.heap.size 0 R1.m.proc).setCells (w5.heap.size + 1) 0 S1 = W6 at *
      have hzA : w3.heap.size + 2 = W4.heap.size := K4A.out.symm
      have hA1 := K1A.out.below (by omega) HBBB.out
      have hA2 := K2A.out.below (by omega) HBBB.out
      have hOA := HOA.out.below HBBB.out
      have HQ := hide (And.intro (bl_range hA1) (And.intro (bl_range K1B.out) (And.intro (bl_range K2B.out) (bl_range hA2))))
      have HU32 := hide Tryd.underlying32
      have HI32 : Hid ((Tryd.prog.info? 32).map (·.size) = some S1.length) := by unfold Hid; rw [HSS.out.1]; exact infoStop
      obtain ⟨va, ca, rfl, pA, _⟩ := hOA.pgs OK1.out.ok OK1.out.most
      obtain ⟨vb, cb, rfl, pB, _⟩ := HOB.out.pgs OK2.out.ok OK2.out.most
      rw [HL1.out] at pA ⊢
      rw [HL2.out] at pB ⊢
      have PA := hide pA
      have PB := hide pB
      clear hA1 hA2 hOA hzA pA pB r4 r4b HOB HOA
      refine wp_region_list ?_
      refine wpList_load_mid (op := { dst := some 48, op := Go.Op.load 32 (Go.Operand.tmp 11), type := 32, pos := "outright.go:107", after := #[], guard := none }) rfl 32 (.tmp 11) rfl (w3.heap.size + 1) 0 rfl S1 _ HQ.out.2.2.2 HU32.out rfl HI32.out ?_
      simp only [Act.put, List.setIfInBounds_toArray, List.set_cons_zero, List.set_cons_succ]
      refine wpList_load_mid (op := { dst := some 49, op := Go.Op.load 32 (Go.Operand.tmp 14), type := 32, pos := "outright.go:107", after := #[], guard := none }) rfl 32 (.tmp 14) rfl (w5.heap.size + 1) 0 rfl S1 _ HQ.out.2.2.1 HU32.out rfl HI32.out ?_
      simp only [Act.put, List.setIfInBounds_toArray, List.set_cons_zero, List.set_cons_succ]
      refine wpList_run_g (op := { dst := some 50, op := Go.Op.binOp Go.BinOp.neq 32 (Go.Operand.tmp 48) (Go.Operand.tmp 49) 32, type := 4, pos := "outright.go:107", after := #[{ on := 0, ground := Go.Ground.data }, { on := 1, ground := Go.Ground.data }], guard := none }) (by rfl) (.bool false) (neq_stop HS1.out _ (.tmp 48) (.tmp 49) rfl rfl _ _ rfl _) ?_
      simp only [Act.put, List.setIfInBounds_toArray, List.set_cons_zero, List.set_cons_succ]
      refine wpList_run_g (op := { dst := some 51, op := Go.Op.move (Go.Operand.tmp 50), type := 4, pos := "outright.go:107", after := #[{ on := 2, ground := Go.Ground.data }], guard := none }) (by rfl) (.bool false) (by rfl) ?_
      simp only [Act.put, List.setIfInBounds_toArray, List.set_cons_zero, List.set_cons_succ]
      refine wpList_load_g (op := { dst := some 52, op := Go.Op.load 26 (Go.Operand.tmp 10), type := 26, pos := "outright.go:107", after := #[{ on := 3, ground := Go.Ground.guard }], guard := some (3, false) }) (by rfl) 26 (.tmp 10) rfl w3.heap.size 0 rfl R1.m.proc _ HQ.out.1 HU.out rfl HI1.out ?_
      simp only [Act.put, List.setIfInBounds_toArray, List.set_cons_zero, List.set_cons_succ]
      refine wpList_load_g (op := { dst := some 53, op := Go.Op.load 26 (Go.Operand.tmp 13), type := 26, pos := "outright.go:107", after := #[{ on := 3, ground := Go.Ground.guard }], guard := some (3, false) }) (by rfl) 26 (.tmp 13) rfl w5.heap.size 0 rfl R1.m.proc _ HQ.out.2.1 HU.out rfl HI1.out ?_
      simp only [Act.put, List.setIfInBounds_toArray, List.set_cons_zero, List.set_cons_succ]
      refine wpList_run_g (op := { dst := some 54, op := Go.Op.binOp Go.BinOp.neq 26 (Go.Operand.tmp 52) (Go.Operand.tmp 53) 26, type := 4, pos := "outright.go:107", after := #[{ on := 4, ground := Go.Ground.data }, { on := 5, ground := Go.Ground.data }, { on := 3, ground := Go.Ground.guard }], guard := some (3, false) }) (by rfl) (.bool false) (neq_proc OK1.out _ (.tmp 52) (.tmp 53) rfl rfl _ _ rfl _) ?_
      simp only [Act.put, List.setIfInBounds_toArray, List.set_cons_zero, List.set_cons_succ]
      go_wp2
      clear HQ HU32 HI32 HI1 HSS HS1 HI HU G2 Z42 Z43 L42 D2 D2' HBBA HBBB T1A T2A J1A J2A J3A J4A K1A K2A K3A K4A T1B T2B J1B J2B J3B J4B K1B K2B K3B K4B bA bB
      go_loopw [72] (fun i wr => ∃ k : Nat, k ≤ len ∧ i = .int .i64 (k : Int) ∧ Hid (Below W6.heap.size W6 wr)) (fun i _ => len - (intOf i).toNat)
      case atStart => exact ⟨0, by omega, rfl, Below.refl _ _⟩
      case round =>
        obtain ⟨k, hk, rfl, hb⟩ := hrel
        by_cases hlt : k < len
        · obtain ⟨p, hp⟩ : ∃ p, R1.m.pages[k]? = some p := ⟨_, List.getElem?_eq_getElem (by rw [HL1.out]; exact hlt)⟩
          obtain ⟨q, hq⟩ : ∃ q, R2.m.pages[k]? = some q := ⟨_, List.getElem?_eq_getElem (by rw [HL2.out]; exact hlt)⟩
          obtain ⟨s, hsq⟩ : ∃ s, m.pages[k]? = some s := ⟨_, List.getElem?_eq_getElem (by rw [HLEN.out]; exact hlt)⟩
          obtain ⟨b, off, rfl, hr⟩ := PA.out.cell k p hp
          obtain ⟨b', off', rfl, hr'⟩ := PB.out.cell k q hq
          obtain ⟨b'', off'', rfl, hr''⟩ := HS.out.cell k s hsq
          obtain ⟨t1, t2, t3⟩ := TW.out.m.pages.at' k p q hp hq
          have hD : dOf m.pages k = s.dirty := by unfold dOf; rw [hsq]
          rw [hD] at t3
          have hr1 := range_row (range_below hr hb.out)
          have hr2 := range_row (range_below hr' hb.out)
          have d1 := (range_below hr hb.out) 1 (.bool p.dirty) rfl
          have d2 := (range_below hr' hb.out) 1 (.bool q.dirty) rfl
          have d3 := (range_below (range_below hr'' D2''.out) hb.out) 1 (.bool s.dirty) rfl
          have hpo : p.Ok := OK1.out.ok p (List.mem_of_getElem? hp)
          have hqo : q.Ok := OK2.out.ok q (List.mem_of_getElem? hq)
          have hu38 := Tryd.underlying38
          have hi1 : (Tryd.prog.info? 38).map (·.size) = some p.row.length := by rw [hpo.row]; exact sizeData
          have hi2 : (Tryd.prog.info? 38).map (·.size) = some q.row.length := by rw [hqo.row]; exact sizeData
          have hne : ∀ w, (binOp .neq 38 (.agg p.row.toArray) (.agg q.row.toArray)).run Tryd.prog w = .ok (.bool false) w := fun w => by rw [neq_rows hpo hqo]; simp [t2]
          rw [t3] at d1
          clear hr hr' hr'' hp hq hsq hpo hqo t1 t2 t3 hD
          generalize s.dirty = sd at *
          generalize q.dirty = qd at *
          cases sd <;> cases qd
          all_goals
            simp only [Bool.or_false, Bool.or_true, Bool.true_or, Bool.false_or, Bool.or_self] at d1
            go_wp2
            refine wp_region_quiet_lit (by kernel_rfl) (by kernel_rfl) ?_
            repeat (first
              | (go_big_quiet_want; refine quiet_load_mid 38 (.tmp 78) rfl b (off + k * 66 + 2) rfl p.row _ hr1 hu38 rfl hi1 ?_; simp only [Act.put, List.setIfInBounds_toArray, List.set_cons_succ, List.set_cons_zero]; go_big_quiet_on)
              | (go_big_quiet_want; refine quiet_load_mid 38 (.tmp 83) rfl b' (off' + k * 66 + 2) rfl q.row _ hr2 hu38 rfl hi2 ?_; simp only [Act.put, List.setIfInBounds_toArray, List.set_cons_succ, List.set_cons_zero]; go_big_quiet_on)
              | (go_big_quiet_want; refine quiet_neq 38 38 (.tmp 79) (.tmp 84) rfl _ _ rfl rfl (by kernel_rfl) _ hne ?_; simp only [Act.put, List.setIfInBounds_toArray, List.set_cons_succ, List.set_cons_zero]; go_big_quiet_on)
              | go_big_quiet_step (fail))
            refine wpQuiet_nil ?_
            intro _ hw'
            obtain ⟨nq, rfl⟩ := hw'
            clear hne hr1 hr2 hu38 hi1 hi2 d1 d2 d3
            go_wp2
            go_roundw
            case rel => exact ⟨k + 1, by omega, by go_num, drewN_below hb.out nq⟩
            case measure => simp [intOf]; omega
        · go_wp2
          go_ret
          exact ⟨rfl, chain D2''.out hb.out⟩
end Go.Proofs.YtbcpcepehnllhaaDoor.coreMarks
