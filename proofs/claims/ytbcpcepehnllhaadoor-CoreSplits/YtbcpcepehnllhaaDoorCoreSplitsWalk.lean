/-
  CoreSplits: the law walked.
-/
import Derived.Test.YtbcpcepehnllhaaDoorCmSplit
import Derived.Test.YtbcpcepehnllhaaDoorPgEq
namespace Go.Proofs.YtbcpcepehnllhaaDoor.coreSplits
open Go.RowKit FerryCrc FerryAlu
set_option linter.unusedVariables false
set_option linter.unusedSimpArgs false

theorem two_alloc (w : World) (x y : Array Value) (t u : TypeId) : Bl ((w.alloc (.cells x t)).alloc (.cells y u)) w.heap.size x.toList ∧ Bl ((w.alloc (.cells x t)).alloc (.cells y u)) (w.heap.size + 1) y.toList ∧ Below w.heap.size w ((w.alloc (.cells x t)).alloc (.cells y u)) ∧ ((w.alloc (.cells x t)).alloc (.cells y u)).heap.size = w.heap.size + 2 := by
  have h1 := bl_alloc w x t
  have s1 : (w.alloc (.cells x t)).heap.size = w.heap.size + 1 := by simp
  have b1 : Below w.heap.size w (w.alloc (.cells x t)) := (Below.refl _ _).alloc (Nat.le_refl _) _
  generalize w.alloc (.cells x t) = w1 at *
  have h2 := bl_alloc w1 y u
  have s2 : (w1.alloc (.cells y u)).heap.size = w1.heap.size + 1 := by simp
  have b2 : Below w1.heap.size w1 (w1.alloc (.cells y u)) := (Below.refl _ _).alloc (Nat.le_refl _) _
  have h1b := h1.below (by omega) b2
  rw [s1] at h2
  exact ⟨h1b, h2, b1.trans (b2.mono (by omega)), by omega⟩

theorem eq_stopx (k s c : Int) (w : World) : (binOp .eql 32 (.agg #[.int .i64 k, .int .i64 s, .int .i64 c]) (.agg #[.int .i64 k, .int .i64 s, .int .i64 c])).run Tryd.prog w = .ok (.bool true) w := by
  go_simp
theorem eql_stop {S : List Value} {k s c : Int} (hS : S = [.int .i64 k, .int .i64 s, .int .i64 c]) (ev : Operand → Value) (x y : Operand) (hx : ev x = .agg S.toArray) (hy : ev y = .agg S.toArray) (o : Oper) (t : TypeId) (ho : o.op = .binOp .eql 32 x y t) (w : World) : (execOp ev o).run Tryd.prog w = .ok (.value (.bool true)) w := by
  subst hS
  unfold execOp
  simp only [ho, hx, hy, Sem.run_bind, run_eqGuard_agg _ _ _ _ _ _ _ (show Tryd.prog.eqGuardType Tryd.prog.depth 32 = false by kernel_rfl), Result.andThen_ok, eq_stopx]
  rfl
def stl (S : List Value) : Prop := S.length = 3 ∧ ∀ u ∈ S, u.oneCell' = true
theorem stl_stop (R : Rn) : stl (stopL R) := ⟨rfl, fun u hu => by
  simp only [stopL, List.mem_cons, List.not_mem_nil, or_false] at hu
  rcases hu with rfl | rfl | rfl <;> rfl⟩
theorem keepR (w2 : World) (M : Mc) (S : List Value) (ok : M.Ok) (hS : stl S) :
    ((w2.alloc (.cells #[.int .u32 0, .int .u32 0, .int .u32 0, .int .u32 0, .int .u32 0, .int .u32 0, .int .u32 0, .int .u32 0, .int .u32 0, .int .u32 0, .int .u32 0, .int .u32 0, .int .u32 0, .int .u32 0, .int .u32 0, .int .u32 0, .int .u32 0, .int .i64 0, .int .i64 0, .int .i64 0, .int .i64 0] 26)).alloc (.cells #[.int .i64 0, .int .i64 0, .int .i64 0] 32)).there w2.heap.size 0 M.proc.toArray.size ∧ (((w2.alloc (.cells #[.int .u32 0, .int .u32 0, .int .u32 0, .int .u32 0, .int .u32 0, .int .u32 0, .int .u32 0, .int .u32 0, .int .u32 0, .int .u32 0, .int .u32 0, .int .u32 0, .int .u32 0, .int .u32 0, .int .u32 0, .int .u32 0, .int .u32 0, .int .i64 0, .int .i64 0, .int .i64 0, .int .i64 0] 26)).alloc (.cells #[.int .i64 0, .int .i64 0, .int .i64 0] 32)).setCells w2.heap.size 0 M.proc).there (w2.heap.size + 1) 0 S.toArray.size ∧
    ((Tryd.prog.info? 26).map (·.size) = some M.proc.toArray.size ∧ (Tryd.prog.info? 32).map (·.size) = some S.toArray.size ∧ M.proc.toArray.all (·.oneCell') = true ∧ S.toArray.all (·.oneCell') = true) ∧
    Bl ((((w2.alloc (.cells #[.int .u32 0, .int .u32 0, .int .u32 0, .int .u32 0, .int .u32 0, .int .u32 0, .int .u32 0, .int .u32 0, .int .u32 0, .int .u32 0, .int .u32 0, .int .u32 0, .int .u32 0, .int .u32 0, .int .u32 0, .int .u32 0, .int .u32 0, .int .i64 0, .int .i64 0, .int .i64 0, .int .i64 0] 26)).alloc (.cells #[.int .i64 0, .int .i64 0, .int .i64 0] 32)).setCells w2.heap.size 0 M.proc).setCells (w2.heap.size + 1) 0 S) w2.heap.size M.proc ∧ Bl ((((w2.alloc (.cells #[.int .u32 0, .int .u32 0, .int .u32 0, .int .u32 0, .int .u32 0, .int .u32 0, .int .u32 0, .int .u32 0, .int .u32 0, .int .u32 0, .int .u32 0, .int .u32 0, .int .u32 0, .int .u32 0, .int .u32 0, .int .u32 0, .int .u32 0, .int .i64 0, .int .i64 0, .int .i64 0, .int .i64 0] 26)).alloc (.cells #[.int .i64 0, .int .i64 0, .int .i64 0] 32)).setCells w2.heap.size 0 M.proc).setCells (w2.heap.size + 1) 0 S) (w2.heap.size + 1) S ∧
    Below w2.heap.size w2 ((((w2.alloc (.cells #[.int .u32 0, .int .u32 0, .int .u32 0, .int .u32 0, .int .u32 0, .int .u32 0, .int .u32 0, .int .u32 0, .int .u32 0, .int .u32 0, .int .u32 0, .int .u32 0, .int .u32 0, .int .u32 0, .int .u32 0, .int .u32 0, .int .u32 0, .int .i64 0, .int .i64 0, .int .i64 0, .int .i64 0] 26)).alloc (.cells #[.int .i64 0, .int .i64 0, .int .i64 0] 32)).setCells w2.heap.size 0 M.proc).setCells (w2.heap.size + 1) 0 S) ∧ ((((w2.alloc (.cells #[.int .u32 0, .int .u32 0, .int .u32 0, .int .u32 0, .int .u32 0, .int .u32 0, .int .u32 0, .int .u32 0, .int .u32 0, .int .u32 0, .int .u32 0, .int .u32 0, .int .u32 0, .int .u32 0, .int .u32 0, .int .u32 0, .int .u32 0, .int .i64 0, .int .i64 0, .int .i64 0, .int .i64 0] 26)).alloc (.cells #[.int .i64 0, .int .i64 0, .int .i64 0] 32)).setCells w2.heap.size 0 M.proc).setCells (w2.heap.size + 1) 0 S).heap.size = w2.heap.size + 2 := by
  have hp := proc_len ok
  obtain ⟨t1, t2, k1, k2, k3, k4⟩ := keep2 w2 #[.int .u32 0, .int .u32 0, .int .u32 0, .int .u32 0, .int .u32 0, .int .u32 0, .int .u32 0, .int .u32 0, .int .u32 0, .int .u32 0, .int .u32 0, .int .u32 0, .int .u32 0, .int .u32 0, .int .u32 0, .int .u32 0, .int .u32 0, .int .i64 0, .int .i64 0, .int .i64 0, .int .i64 0] #[.int .i64 0, .int .i64 0, .int .i64 0] M.proc S 26 32 (by rw [hp]; rfl) (by rw [hS.1]; rfl)
  refine ⟨by simpa using t1, by simpa using t2, ⟨?_, ?_, all_oneCell_toArray (proc_one M), all_oneCell_toArray hS.2⟩, k1, k2, k3, k4⟩
  · rw [List.size_toArray, hp]
    exact infoProc
  · rw [List.size_toArray, hS.1]
    exact infoStop

theorem wpList_tail {P : Program} {ops : Array Oper} {Q : Exit → Act → World → Prop} {a : Act} {w : World} (pre tl : List Oper) (h : ∀ t, t = tl → wpList P ops Q (pre ++ t) a w) : wpList P ops Q (pre ++ tl) a w := h tl rfl

set_option maxRecDepth 100000 in
set_option maxHeartbeats 8000000 in
theorem law (a : Option Addr) (len cap : Nat) (m : Mc) (c1 c2 : Int) (w : World) (A : Addr) (hv : Cov w A) (hs : Pgs w a len cap m.pages) (ok : m.Ok) (i1 : -9223372036854775808 ≤ c1) (i2 : -9223372036854775808 ≤ c2) :
    Calls Tryd.prog 3 #[.slice a len cap, .agg m.proc.toArray, .agg #[.int .i64 c1, .int .i64 c2]] w fun e w' => e = .returned (.bool true) ∧ Below w.heap.size w w' := by
  have HS := hide hs
  have HV := hide hv
  have OK := hide ok
  have HPL : Hid (m.proc.length = 21) := proc_len ok
  obtain ⟨z4, z5, hb0, hsz⟩ := two_alloc w m.proc.toArray #[.int .i64 c1, .int .i64 c2] 26 28
  have Z4 : Hid (Bl ((w.alloc (.cells m.proc.toArray 26)).alloc (.cells #[.int .i64 c1, .int .i64 c2] 28)) w.heap.size m.proc) := z4
  have Z5 := hide z5
  have HB0 := hide hb0
  have HSZ := hide hsz
  have hu26 := Tryd.underlying26
  have hi26 : (Tryd.prog.info? 26).map (·.size) = some m.proc.length := by rw [HPL.out]; exact infoProc
  have HU := hide hu26
  have HI := hide hi26
  clear hs hv ok z4 z5 hb0 hsz hu26 hi26
  obtain ⟨na, hna⟩ : ∃ na, (if 3000 < c1 then 3000 else c1) = na := ⟨_, rfl⟩
  obtain ⟨nb, hnb⟩ : ∃ nb, (if 3000 < c2 then 3000 else c2) = nb := ⟨_, rfl⟩
  have BA := hide (bounded_any c1)
  have BB := hide (bounded_any c2)
  rw [hna] at BA
  rw [hnb] at BB
  have a1 : na ≤ 3000 := by rw [← hna]; split <;> omega
  have a2 : nb ≤ 3000 := by rw [← hnb]; split <;> omega
  have a3 : -9223372036854775808 ≤ na := by rw [← hna]; split <;> omega
  have a4 : -9223372036854775808 ≤ nb := by rw [← hnb]; split <;> omega
  clear hna hnb
  go_enter Tryd.func3, Tryd.ntmps3
  go_upto_region 1 with fail
  generalize (w.alloc (.cells m.proc.toArray 26)).alloc (.cells #[.int .i64 c1, .int .i64 c2] 28) = W0 at *
  go_wp2_with fail
  refine Calls.mono (awake_any W0 A (HV.out.below HB0.out)) ?_
  rintro e w1 ⟨rfl, b1⟩
  have HB1 := hide b1
  have Z41 := hide (Z4.out.below (by rw [HSZ.out]; omega) b1)
  have z51 := Z5.out.below (by rw [HSZ.out]; omega) b1
  have e0 : w1.cell? ⟨w.heap.size + 1, 0, none⟩ = some (.int .i64 c1) := z51.cell 0 _ rfl
  have e1 : w1.cell? ⟨w.heap.size + 1, 1, none⟩ = some (.int .i64 c2) := z51.cell 1 _ rfl
  have D1 := hide (chain HB0.out b1)
  have L41 : Hid (w.heap.size < w1.heap.size) := by have h1 := HSZ.out; have h2 := b1.size; unfold Hid; omega
  clear z51 b1 Z4 Z5 HB1
  go_wp2_with fail
  refine Calls.mono (BA.out _) ?_
  rintro e w' ⟨rfl, rfl⟩
  go_wp2_with fail
  refine Calls.mono (BB.out _) ?_
  rintro e w' ⟨rfl, rfl⟩
  by_cases ha : na < 0
  · have d0 : decide (na < 0) = true := decide_eq_true ha
    go_wp2
    go_ret
    exact ⟨rfl, D1.out⟩
  have d0 : decide (na < 0) = false := decide_eq_false ha
  by_cases hb : nb < 0
  · have d1 : decide (nb < 0) = true := decide_eq_true hb
    go_wp2
    go_ret
    exact ⟨rfl, D1.out⟩
  have d1 : decide (nb < 0) = false := decide_eq_false hb
  obtain ⟨x, rfl⟩ := Int.eq_ofNat_of_zero_le (show 0 ≤ na by omega)
  obtain ⟨y, rfl⟩ := Int.eq_ofNat_of_zero_le (show 0 ≤ nb by omega)
  have HR1 : Hid (∀ (W : World), Below w.heap.size w W → Calls Tryd.prog 9 #[.slice a len cap, .agg m.proc.toArray, .int .i64 (x : Int)] W fun e w' => ∃ v, e = .returned (.tuple #[v, .agg (m.run x).m.proc.toArray, .agg (stopL (m.run x)).toArray]) ∧ POwn w' W.heap.size v (m.run x).m.pages ∧ (m.run x).m.Ok ∧ Below W.heap.size W w') := fun W hW => by
    have := run_any a len cap m (x : Int) W (HS.out.below hW) OK.out A (HV.out.below hW) (by omega) (by omega)
    rwa [Int.toNat_natCast] at this
  have HR2 : Hid (∀ (W : World), Below w.heap.size w W → Calls Tryd.prog 9 #[.slice a len cap, .agg m.proc.toArray, .int .i64 ((x : Int) + (y : Int))] W fun e w' => ∃ v, e = .returned (.tuple #[v, .agg (m.run (x + y)).m.proc.toArray, .agg (stopL (m.run (x + y))).toArray]) ∧ POwn w' W.heap.size v (m.run (x + y)).m.pages ∧ (m.run (x + y)).m.Ok ∧ Below W.heap.size W w') := fun W hW => by
    have := run_any a len cap m ((x + y : Nat) : Int) W (HS.out.below hW) OK.out A (HV.out.below hW) (by omega) (by omega)
    rwa [Int.toNat_natCast, Int.natCast_add] at this
  clear BA BB i1 i2 ha hb d0 d1 a3 a4
  have r4 : w1.rangeAt w.heap.size 0 m.proc := bl_range Z41.out
  go_wp2_with (first | (refine wpList_load_mid (op := { dst := some 34, op := Go.Op.load 26 (Go.Operand.tmp 4), type := 26, pos := "outright.go:22", after := #[], guard := none }) rfl 26 (.tmp 4) rfl w.heap.size 0 rfl m.proc _ r4 HU.out rfl HI.out ?_) | fail)
  refine Calls.mono (HR1.out w1 D1.out) ?_
  rintro e w2 ⟨v1, rfl, hoA, ok1, bA⟩
  have OK1 := hide ok1
  have HSS : Hid (stl (stopL (m.run x))) := stl_stop _
  have HCASE : Hid (((m.run x).kind ≠ 0 ∧ m.run (x + y) = m.run x) ∨ ((m.run x).kind = 0 ∧ (m.run x).steps = x ∧ m.run (x + y) = ⟨((m.run x).m.run y).m, ((m.run x).m.run y).kind, ((m.run x).m.run y).code, ((m.run x).m.run y).steps + x⟩)) := by
    by_cases hk : (m.run x).kind = 0
    · exact .inr ⟨hk, run_split OK.out y hk⟩
    · exact .inl ⟨hk, run_ended y hk⟩
  have HS1 : Hid (stopL (m.run x) = [.int .i64 ((m.run x).kind : Int), .int .i64 ((m.run x).steps : Int), .int .i64 (m.run x).code]) := rfl
  clear ok1 HR1
  generalize m.run x = R1 at *
  generalize hS1 : stopL R1 = S1 at *
  have HSX := hide hS1
  clear hS1
  obtain ⟨t1A, t2A, ⟨j1A, j2A, j3A, j4A⟩, k1A, k2A, k3A, k4A⟩ := keepR w2 R1.m S1 OK1.out HSS.out
  have T1A := hide t1A
  have T2A := hide t2A
  have J1A := hide j1A
  have J2A := hide j2A
  have J3A := hide j3A
  have J4A := hide j4A
  have K1A := hide k1A
  have K2A := hide k2A
  have K3A := hide k3A
  have K4A := hide k4A
  have HOA := hide (hoA.below k3A)
  have D1' := hide (chain D1.out (chain bA k3A))
  have HBBA := hide (chain bA k3A)
  clear t1A t2A j1A j2A j3A j4A k1A k2A k3A k4A hoA
  go_upto_region 8 with (first | (refine wpList_store_mid (op := { dst := none, op := Go.Op.store 26 (Go.Operand.tmp 10) (Go.Operand.tmp 38), type := 0, pos := "outright.go:22", after := #[{ on := 8, ground := Go.Ground.data }, { on := 6, ground := Go.Ground.data }, { on := 10, ground := Go.Ground.chain }, { on := 0, ground := Go.Ground.phase }, { on := 1, ground := Go.Ground.phase }, { on := 2, ground := Go.Ground.phase }, { on := 3, ground := Go.Ground.phase }, { on := 4, ground := Go.Ground.phase }, { on := 5, ground := Go.Ground.phase }, { on := 6, ground := Go.Ground.phase }, { on := 7, ground := Go.Ground.textOnly Go.Departure.lateStores }, { on := 8, ground := Go.Ground.phase }, { on := 9, ground := Go.Ground.phase }, { on := 10, ground := Go.Ground.phase }], guard := none }) rfl 26 (.tmp 10) (.tmp 38) rfl w2.heap.size 0 R1.m.proc.toArray rfl rfl T1A.out J1A.out J3A.out ?_) | (refine wpList_store_mid (op := { dst := none, op := Go.Op.store 32 (Go.Operand.tmp 11) (Go.Operand.tmp 39), type := 0, pos := "outright.go:22", after := #[{ on := 9, ground := Go.Ground.data }, { on := 7, ground := Go.Ground.data }, { on := 11, ground := Go.Ground.chain }, { on := 0, ground := Go.Ground.phase }, { on := 1, ground := Go.Ground.phase }, { on := 2, ground := Go.Ground.phase }, { on := 3, ground := Go.Ground.phase }, { on := 4, ground := Go.Ground.phase }, { on := 5, ground := Go.Ground.phase }, { on := 6, ground := Go.Ground.phase }, { on := 7, ground := Go.Ground.phase }, { on := 8, ground := Go.Ground.phase }, { on := 9, ground := Go.Ground.phase }, { on := 10, ground := Go.Ground.phase }, { on := 11, ground := Go.Ground.phase }], guard := none }) rfl 32 (.tmp 11) (.tmp 39) rfl (w2.heap.size + 1) 0 (S1).toArray rfl rfl T2A.out J2A.out J4A.out ?_) | fail)
  simp only [Act.put]
  generalize (((w2.alloc (.cells #[.int .u32 0, .int .u32 0, .int .u32 0, .int .u32 0, .int .u32 0, .int .u32 0, .int .u32 0, .int .u32 0, .int .u32 0, .int .u32 0, .int .u32 0, .int .u32 0, .int .u32 0, .int .u32 0, .int .u32 0, .int .u32 0, .int .u32 0, .int .i64 0, .int .i64 0, .int .i64 0, .int .i64 0] 26)).alloc (.cells #[.int .i64 0, .int .i64 0, .int .i64 0] 32)).setCells w2.heap.size 0 R1.m.proc).setCells (w2.heap.size + 1) 0 S1 = W3 at *
  have r4b : W3.rangeAt w.heap.size 0 m.proc := bl_range (Z41.out.below L41.out HBBA.out)
  have HI1 : Hid ((Tryd.prog.info? 26).map (·.size) = some R1.m.proc.length) := by unfold Hid; rw [proc_len OK1.out]; exact infoProc
  go_wp2_with (first | (refine wpList_load_mid (op := { dst := some 42, op := Go.Op.load 26 (Go.Operand.tmp 4), type := 26, pos := "outright.go:23", after := #[], guard := none }) rfl 26 (.tmp 4) rfl w.heap.size 0 rfl m.proc _ r4b HU.out rfl HI.out ?_) | fail)
  rcases HCASE.out with ⟨hk, he⟩ | ⟨hk, hst, he⟩
  · rw [he, HSX.out] at HR2
    refine Calls.mono (HR2.out W3 D1'.out) ?_
    rintro e w4 ⟨v2, rfl, hoB, _, bB⟩
    clear HR2 HCASE
    obtain ⟨t1B, t2B, ⟨j1B, j2B, j3B, j4B⟩, k1B, k2B, k3B, k4B⟩ := keepR w4 R1.m S1 OK1.out HSS.out
    have T1B := hide t1B
    have T2B := hide t2B
    have J1B := hide j1B
    have J2B := hide j2B
    have J3B := hide j3B
    have J4B := hide j4B
    have K1B := hide k1B
    have K2B := hide k2B
    have K3B := hide k3B
    have K4B := hide k4B
    have HOB := hide (hoB.below k3B)
    have D1'' := hide (chain D1'.out (chain bB k3B))
    have HBBB := hide (chain bB k3B)
    clear t1B t2B j1B j2B j3B j4B k1B k2B k3B k4B hoB
    go_upto_region 9 with (first | (refine wpList_store_mid (op := { dst := none, op := Go.Op.store 26 (Go.Operand.tmp 13) (Go.Operand.tmp 48), type := 0, pos := "outright.go:23", after := #[{ on := 10, ground := Go.Ground.data }, { on := 8, ground := Go.Ground.data }, { on := 12, ground := Go.Ground.chain }, { on := 0, ground := Go.Ground.phase }, { on := 1, ground := Go.Ground.phase }, { on := 2, ground := Go.Ground.phase }, { on := 3, ground := Go.Ground.phase }, { on := 4, ground := Go.Ground.phase }, { on := 5, ground := Go.Ground.phase }, { on := 6, ground := Go.Ground.phase }, { on := 7, ground := Go.Ground.phase }, { on := 8, ground := Go.Ground.phase }, { on := 9, ground := Go.Ground.textOnly Go.Departure.lateStores }, { on := 10, ground := Go.Ground.phase }, { on := 11, ground := Go.Ground.phase }, { on := 12, ground := Go.Ground.phase }], guard := none }) rfl 26 (.tmp 13) (.tmp 48) rfl w4.heap.size 0 R1.m.proc.toArray rfl rfl T1B.out J1B.out J3B.out ?_) | (refine wpList_store_mid (op := { dst := none, op := Go.Op.store 32 (Go.Operand.tmp 14) (Go.Operand.tmp 49), type := 0, pos := "outright.go:23", after := #[{ on := 11, ground := Go.Ground.data }, { on := 9, ground := Go.Ground.data }, { on := 13, ground := Go.Ground.chain }, { on := 0, ground := Go.Ground.phase }, { on := 1, ground := Go.Ground.phase }, { on := 2, ground := Go.Ground.phase }, { on := 3, ground := Go.Ground.phase }, { on := 4, ground := Go.Ground.phase }, { on := 5, ground := Go.Ground.phase }, { on := 6, ground := Go.Ground.phase }, { on := 7, ground := Go.Ground.phase }, { on := 8, ground := Go.Ground.phase }, { on := 9, ground := Go.Ground.phase }, { on := 10, ground := Go.Ground.phase }, { on := 11, ground := Go.Ground.phase }, { on := 12, ground := Go.Ground.phase }, { on := 13, ground := Go.Ground.phase }], guard := none }) rfl 32 (.tmp 14) (.tmp 49) rfl (w4.heap.size + 1) 0 (S1).toArray rfl rfl T2B.out J2B.out J4B.out ?_) | fail)
    simp only [Act.put]
    generalize (((w4.alloc (.cells #[.int .u32 0, .int .u32 0, .int .u32 0, .int .u32 0, .int .u32 0, .int .u32 0, .int .u32 0, .int .u32 0, .int .u32 0, .int .u32 0, .int .u32 0, .int .u32 0, .int .u32 0, .int .u32 0, .int .u32 0, .int .u32 0, .int .u32 0, .int .i64 0, .int .i64 0, .int .i64 0, .int .i64 0] 26)).alloc (.cells #[.int .i64 0, .int .i64 0, .int .i64 0] 32)).setCells w4.heap.size 0 R1.m.proc).setCells (w4.heap.size + 1) 0 S1 = W5 at *
    have hzA : w2.heap.size + 2 = W3.heap.size := K4A.out.symm
    have hA1 := K1A.out.below (by omega) HBBB.out
    have hA2 := K2A.out.below (by omega) HBBB.out
    have hOA := HOA.out.below HBBB.out
    have q10 := bl_range hA1
    have q13 := bl_range K1B.out
    have c0 : W5.cell? ⟨w2.heap.size + 1, 0, none⟩ = some (.int .i64 (R1.kind : Int)) := hA2.cell 0 _ (by rw [HS1.out]; rfl)
    have c1 : W5.cell? ⟨w2.heap.size + 1, 1, none⟩ = some (.int .i64 (R1.steps : Int)) := hA2.cell 1 _ (by rw [HS1.out]; rfl)
    have c2 : W5.cell? ⟨w2.heap.size + 1, 2, none⟩ = some (.int .i64 R1.code) := hA2.cell 2 _ (by rw [HS1.out]; rfl)
    have f0 : W5.cell? ⟨w4.heap.size + 1, 0, none⟩ = some (.int .i64 (R1.kind : Int)) := K2B.out.cell 0 _ (by rw [HS1.out]; rfl)
    have f1 : W5.cell? ⟨w4.heap.size + 1, 1, none⟩ = some (.int .i64 (R1.steps : Int)) := K2B.out.cell 1 _ (by rw [HS1.out]; rfl)
    have f2 : W5.cell? ⟨w4.heap.size + 1, 2, none⟩ = some (.int .i64 R1.code) := K2B.out.cell 2 _ (by rw [HS1.out]; rfl)
    have dk : ((R1.kind : Int) != 0) = true := by rw [bne_iff_ne]; omega
    have HSAME := hide (same_own hOA HOB.out OK1.out.ok OK1.out.most)
    have HU32 := hide Tryd.underlying32
    have HI32 : Hid ((Tryd.prog.info? 32).map (·.size) = some S1.length) := by unfold Hid; rw [HSS.out.1]; exact infoStop
    have qS14 := bl_range K2B.out
    have qS11 := bl_range hA2
    have HQ := hide (And.intro q10 (And.intro q13 (And.intro qS14 qS11)))
    clear q10 q13 qS14 qS11 hA1 hA2 hOA hk he r4b hzA
    go_upto_region 10 with fail
    refine wp_region_list ?_
    refine wpList_load_mid (op := { dst := some 53, op := Go.Op.load 32 (Go.Operand.tmp 14), type := 32, pos := "outright.go:25", after := #[], guard := none }) rfl 32 (.tmp 14) rfl (w4.heap.size + 1) 0 rfl S1 _ HQ.out.2.2.1 HU32.out rfl HI32.out ?_
    simp only [Act.put, List.setIfInBounds_toArray, List.set_cons_zero, List.set_cons_succ]
    refine wpList_load_mid (op := { dst := some 54, op := Go.Op.load 32 (Go.Operand.tmp 11), type := 32, pos := "outright.go:25", after := #[], guard := none }) rfl 32 (.tmp 11) rfl (w2.heap.size + 1) 0 rfl S1 _ HQ.out.2.2.2 HU32.out rfl HI32.out ?_
    simp only [Act.put, List.setIfInBounds_toArray, List.set_cons_zero, List.set_cons_succ]
    refine wpList_run_g (op := { dst := some 55, op := Go.Op.binOp Go.BinOp.eql 32 (Go.Operand.tmp 53) (Go.Operand.tmp 54) 32, type := 4, pos := "outright.go:25", after := #[{ on := 0, ground := Go.Ground.data }, { on := 1, ground := Go.Ground.data }], guard := none }) (by rfl) (.bool true) (eql_stop HS1.out _ (.tmp 53) (.tmp 54) rfl rfl _ _ rfl _) ?_
    simp only [Act.put, List.setIfInBounds_toArray, List.set_cons_zero, List.set_cons_succ]
    refine wpList_run_g (op := { dst := some 56, op := Go.Op.move (Go.Operand.tmp 55), type := 4, pos := "outright.go:25", after := #[{ on := 2, ground := Go.Ground.data }], guard := none }) (by rfl) (.bool true) (by rfl) ?_
    simp only [Act.put, List.setIfInBounds_toArray, List.set_cons_zero, List.set_cons_succ]
    refine wpList_load_g (op := { dst := some 57, op := Go.Op.load 26 (Go.Operand.tmp 13), type := 26, pos := "outright.go:25", after := #[{ on := 3, ground := Go.Ground.guard }], guard := some (3, true) }) (by rfl) 26 (.tmp 13) rfl w4.heap.size 0 rfl R1.m.proc _ HQ.out.2.1 HU.out rfl HI1.out ?_
    simp only [Act.put, List.setIfInBounds_toArray, List.set_cons_zero, List.set_cons_succ]
    refine wpList_load_g (op := { dst := some 58, op := Go.Op.load 26 (Go.Operand.tmp 10), type := 26, pos := "outright.go:25", after := #[{ on := 3, ground := Go.Ground.guard }], guard := some (3, true) }) (by rfl) 26 (.tmp 10) rfl w2.heap.size 0 rfl R1.m.proc _ HQ.out.1 HU.out rfl HI1.out ?_
    simp only [Act.put, List.setIfInBounds_toArray, List.set_cons_zero, List.set_cons_succ]
    refine wpList_run_g (op := { dst := some 59, op := Go.Op.binOp Go.BinOp.eql 26 (Go.Operand.tmp 57) (Go.Operand.tmp 58) 26, type := 4, pos := "outright.go:25", after := #[{ on := 4, ground := Go.Ground.data }, { on := 5, ground := Go.Ground.data }, { on := 3, ground := Go.Ground.guard }], guard := some (3, true) }) (by rfl) (.bool true) (eql_proc OK1.out _ (.tmp 57) (.tmp 58) rfl rfl _ _ rfl _) ?_
    simp only [Act.put, List.setIfInBounds_toArray, List.set_cons_zero, List.set_cons_succ]
    go_wp2_with fail
    refine Calls.mono HSAME.out ?_
    rintro e w6 ⟨rfl, b6⟩
    have D6 := hide (chain D1''.out b6)
    clear b6
    go_wp2
    go_ret
    exact ⟨rfl, D6.out⟩
  · have HR4 : Hid (∀ (W : World), Below w.heap.size w W → Calls Tryd.prog 9 #[.slice a len cap, .agg m.proc.toArray, .int .i64 ((x : Int) + (y : Int))] W fun e w' => ∃ v, e = .returned (.tuple #[v, .agg (R1.m.run y).m.proc.toArray, .agg (stopL ⟨(R1.m.run y).m, (R1.m.run y).kind, (R1.m.run y).code, (R1.m.run y).steps + x⟩).toArray]) ∧ POwn w' W.heap.size v (R1.m.run y).m.pages ∧ (R1.m.run y).m.Ok ∧ Below W.heap.size W w') := by
      rw [he] at HR2
      exact HR2
    have HR3 : Hid (∀ (W : World), Below w.heap.size w W → ∀ (a' : Option Addr) (l' c' : Nat), Pgs W a' l' c' R1.m.pages → Calls Tryd.prog 9 #[.slice a' l' c', .agg R1.m.proc.toArray, .int .i64 (y : Int)] W fun e w' => ∃ v, e = .returned (.tuple #[v, .agg (R1.m.run y).m.proc.toArray, .agg (stopL (R1.m.run y)).toArray]) ∧ POwn w' W.heap.size v (R1.m.run y).m.pages ∧ (R1.m.run y).m.Ok ∧ Below W.heap.size W w') := fun W hW a' l' c' hp => by
      have := run_any a' l' c' R1.m (y : Int) W hp OK1.out A (HV.out.below hW) (by omega) (by omega)
      rwa [Int.toNat_natCast] at this
    have hle : (R1.m.run y).steps ≤ y := by
      have := Rn.go_le y ⟨R1.m.from0, 0, 0, 0⟩
      rw [Nat.zero_add] at this
      exact this
    have HSS2 : Hid (stl (stopL ⟨(R1.m.run y).m, (R1.m.run y).kind, (R1.m.run y).code, (R1.m.run y).steps + x⟩)) := stl_stop _
    have HSS3 : Hid (stl (stopL (R1.m.run y))) := stl_stop _
    have HS2 : Hid (stopL ⟨(R1.m.run y).m, (R1.m.run y).kind, (R1.m.run y).code, (R1.m.run y).steps + x⟩ = [.int .i64 ((R1.m.run y).kind : Int), .int .i64 (((R1.m.run y).steps + x : Nat) : Int), .int .i64 (R1.m.run y).code]) := rfl
    have HS3 : Hid (stopL (R1.m.run y) = [.int .i64 ((R1.m.run y).kind : Int), .int .i64 ((R1.m.run y).steps : Int), .int .i64 (R1.m.run y).code]) := rfl
    clear he HR2 HCASE
    generalize R1.m.run y = R3 at *
    generalize hS2 : stopL ⟨R3.m, R3.kind, R3.code, R3.steps + x⟩ = S2 at *
    generalize hS3 : stopL R3 = S3 at *
    clear hS2 hS3
    obtain ⟨va, vc, rfl, hpA, _⟩ := HOA.out.pgs OK1.out.ok OK1.out.most
    have HPA := hide hpA
    clear hpA
    refine Calls.mono (HR4.out W3 D1'.out) ?_
    rintro e w4 ⟨v2, rfl, hoB, ok3, bB⟩
    have OK3 := hide ok3
    clear HR4 ok3
    obtain ⟨t1B, t2B, ⟨j1B, j2B, j3B, j4B⟩, k1B, k2B, k3B, k4B⟩ := keepR w4 R3.m S2 OK3.out HSS2.out
    have T1B := hide t1B
    have T2B := hide t2B
    have J1B := hide j1B
    have J2B := hide j2B
    have J3B := hide j3B
    have J4B := hide j4B
    have K1B := hide k1B
    have K2B := hide k2B
    have K3B := hide k3B
    have K4B := hide k4B
    have HOB := hide (hoB.below k3B)
    have D1'' := hide (chain D1'.out (chain bB k3B))
    have HBBB := hide (chain bB k3B)
    clear t1B t2B j1B j2B j3B j4B k1B k2B k3B k4B hoB
    go_upto_region 9 with (first | (refine wpList_store_mid (op := { dst := none, op := Go.Op.store 26 (Go.Operand.tmp 13) (Go.Operand.tmp 48), type := 0, pos := "outright.go:23", after := #[{ on := 10, ground := Go.Ground.data }, { on := 8, ground := Go.Ground.data }, { on := 12, ground := Go.Ground.chain }, { on := 0, ground := Go.Ground.phase }, { on := 1, ground := Go.Ground.phase }, { on := 2, ground := Go.Ground.phase }, { on := 3, ground := Go.Ground.phase }, { on := 4, ground := Go.Ground.phase }, { on := 5, ground := Go.Ground.phase }, { on := 6, ground := Go.Ground.phase }, { on := 7, ground := Go.Ground.phase }, { on := 8, ground := Go.Ground.phase }, { on := 9, ground := Go.Ground.textOnly Go.Departure.lateStores }, { on := 10, ground := Go.Ground.phase }, { on := 11, ground := Go.Ground.phase }, { on := 12, ground := Go.Ground.phase }], guard := none }) rfl 26 (.tmp 13) (.tmp 48) rfl w4.heap.size 0 R3.m.proc.toArray rfl rfl T1B.out J1B.out J3B.out ?_) | (refine wpList_store_mid (op := { dst := none, op := Go.Op.store 32 (Go.Operand.tmp 14) (Go.Operand.tmp 49), type := 0, pos := "outright.go:23", after := #[{ on := 11, ground := Go.Ground.data }, { on := 9, ground := Go.Ground.data }, { on := 13, ground := Go.Ground.chain }, { on := 0, ground := Go.Ground.phase }, { on := 1, ground := Go.Ground.phase }, { on := 2, ground := Go.Ground.phase }, { on := 3, ground := Go.Ground.phase }, { on := 4, ground := Go.Ground.phase }, { on := 5, ground := Go.Ground.phase }, { on := 6, ground := Go.Ground.phase }, { on := 7, ground := Go.Ground.phase }, { on := 8, ground := Go.Ground.phase }, { on := 9, ground := Go.Ground.phase }, { on := 10, ground := Go.Ground.phase }, { on := 11, ground := Go.Ground.phase }, { on := 12, ground := Go.Ground.phase }, { on := 13, ground := Go.Ground.phase }], guard := none }) rfl 32 (.tmp 14) (.tmp 49) rfl (w4.heap.size + 1) 0 (S2).toArray rfl rfl T2B.out J2B.out J4B.out ?_) | fail)
    simp only [Act.put]
    generalize (((w4.alloc (.cells #[.int .u32 0, .int .u32 0, .int .u32 0, .int .u32 0, .int .u32 0, .int .u32 0, .int .u32 0, .int .u32 0, .int .u32 0, .int .u32 0, .int .u32 0, .int .u32 0, .int .u32 0, .int .u32 0, .int .u32 0, .int .u32 0, .int .u32 0, .int .i64 0, .int .i64 0, .int .i64 0, .int .i64 0] 26)).alloc (.cells #[.int .i64 0, .int .i64 0, .int .i64 0] 32)).setCells w4.heap.size 0 R3.m.proc).setCells (w4.heap.size + 1) 0 S2 = W5 at *
    have hzA : w2.heap.size + 2 = W3.heap.size := K4A.out.symm
    have hA1 := K1A.out.below (by omega) HBBB.out
    have hA2 := K2A.out.below (by omega) HBBB.out
    have HPA5 := hide (HPA.out.below HBBB.out)
    have c0 : W5.cell? ⟨w2.heap.size + 1, 0, none⟩ = some (.int .i64 0) := hA2.cell 0 _ (by rw [HS1.out, hk]; rfl)
    have c1 : W5.cell? ⟨w2.heap.size + 1, 1, none⟩ = some (.int .i64 (x : Int)) := hA2.cell 1 _ (by rw [HS1.out, hst]; rfl)
    have q10 := bl_range hA1
    have HQ10 := hide q10
    clear q10 hA1 hA2 hzA r4b hk hst
    go_upto_region 13 with fail
    go_wp2_with (first | (refine wpList_load_mid (op := { dst := some 72, op := Go.Op.load 26 (Go.Operand.tmp 10), type := 26, pos := "outright.go:30", after := #[], guard := none }) rfl 26 (.tmp 10) rfl w2.heap.size 0 rfl R1.m.proc _ HQ10.out HU.out rfl HI1.out ?_) | fail)
    refine Calls.mono (HR3.out W5 D1''.out _ _ _ HPA5.out) ?_
    rintro e w6 ⟨v3, rfl, hoC, _, bC⟩
    clear HR3 c0 c1
    obtain ⟨t1C, t2C, ⟨j1C, j2C, j3C, j4C⟩, k1C, k2C, k3C, k4C⟩ := keepR w6 R3.m S3 OK3.out HSS3.out
    have T1C := hide t1C
    have T2C := hide t2C
    have J1C := hide j1C
    have J2C := hide j2C
    have J3C := hide j3C
    have J4C := hide j4C
    have K1C := hide k1C
    have K2C := hide k2C
    have K3C := hide k3C
    have K4C := hide k4C
    have HOC := hide (hoC.below k3C)
    have D1''' := hide (chain D1''.out (chain bC k3C))
    have HBBC := hide (chain bC k3C)
    clear t1C t2C j1C j2C j3C j4C k1C k2C k3C k4C hoC
    go_upto_region 14 with (first | (refine wpList_store_mid (op := { dst := none, op := Go.Op.store 26 (Go.Operand.tmp 16) (Go.Operand.tmp 76), type := 0, pos := "outright.go:30", after := #[{ on := 8, ground := Go.Ground.data }, { on := 6, ground := Go.Ground.data }, { on := 10, ground := Go.Ground.chain }, { on := 0, ground := Go.Ground.phase }, { on := 1, ground := Go.Ground.phase }, { on := 2, ground := Go.Ground.phase }, { on := 3, ground := Go.Ground.phase }, { on := 4, ground := Go.Ground.phase }, { on := 5, ground := Go.Ground.phase }, { on := 6, ground := Go.Ground.phase }, { on := 7, ground := Go.Ground.textOnly Go.Departure.lateStores }, { on := 8, ground := Go.Ground.phase }, { on := 9, ground := Go.Ground.phase }, { on := 10, ground := Go.Ground.phase }], guard := none }) rfl 26 (.tmp 16) (.tmp 76) rfl w6.heap.size 0 R3.m.proc.toArray rfl rfl T1C.out J1C.out J3C.out ?_) | (refine wpList_store_mid (op := { dst := none, op := Go.Op.store 32 (Go.Operand.tmp 17) (Go.Operand.tmp 77), type := 0, pos := "outright.go:30", after := #[{ on := 9, ground := Go.Ground.data }, { on := 7, ground := Go.Ground.data }, { on := 11, ground := Go.Ground.chain }, { on := 0, ground := Go.Ground.phase }, { on := 1, ground := Go.Ground.phase }, { on := 2, ground := Go.Ground.phase }, { on := 3, ground := Go.Ground.phase }, { on := 4, ground := Go.Ground.phase }, { on := 5, ground := Go.Ground.phase }, { on := 6, ground := Go.Ground.phase }, { on := 7, ground := Go.Ground.phase }, { on := 8, ground := Go.Ground.phase }, { on := 9, ground := Go.Ground.phase }, { on := 10, ground := Go.Ground.phase }, { on := 11, ground := Go.Ground.phase }], guard := none }) rfl 32 (.tmp 17) (.tmp 77) rfl (w6.heap.size + 1) 0 (S3).toArray rfl rfl T2C.out J2C.out J4C.out ?_) | fail)
    simp only [Act.put]
    generalize (((w6.alloc (.cells #[.int .u32 0, .int .u32 0, .int .u32 0, .int .u32 0, .int .u32 0, .int .u32 0, .int .u32 0, .int .u32 0, .int .u32 0, .int .u32 0, .int .u32 0, .int .u32 0, .int .u32 0, .int .u32 0, .int .u32 0, .int .u32 0, .int .u32 0, .int .i64 0, .int .i64 0, .int .i64 0, .int .i64 0] 26)).alloc (.cells #[.int .i64 0, .int .i64 0, .int .i64 0] 32)).setCells w6.heap.size 0 R3.m.proc).setCells (w6.heap.size + 1) 0 S3 = W7 at *
    have hzB : w4.heap.size + 2 = W5.heap.size := K4B.out.symm
    have hB1 := K1B.out.below (by omega) HBBC.out
    have hB2 := K2B.out.below (by omega) HBBC.out
    have hOB := HOB.out.below HBBC.out
    have q13 := bl_range hB1
    have q16 := bl_range K1C.out
    have hT : ((R3.steps + x : Nat) : Int) = (x : Int) + (R3.steps : Int) := by omega
    have f0 : W7.cell? ⟨w4.heap.size + 1, 0, none⟩ = some (.int .i64 (R3.kind : Int)) := hB2.cell 0 _ (by rw [HS2.out]; rfl)
    have f1 : W7.cell? ⟨w4.heap.size + 1, 1, none⟩ = some (.int .i64 ((x : Int) + (R3.steps : Int))) := hB2.cell 1 _ (by rw [HS2.out, hT]; rfl)
    have f2 : W7.cell? ⟨w4.heap.size + 1, 2, none⟩ = some (.int .i64 R3.code) := hB2.cell 2 _ (by rw [HS2.out]; rfl)
    have g0 : W7.cell? ⟨w6.heap.size + 1, 0, none⟩ = some (.int .i64 (R3.kind : Int)) := K2C.out.cell 0 _ (by rw [HS3.out]; rfl)
    have g1 : W7.cell? ⟨w6.heap.size + 1, 1, none⟩ = some (.int .i64 (R3.steps : Int)) := K2C.out.cell 1 _ (by rw [HS3.out]; rfl)
    have g2 : W7.cell? ⟨w6.heap.size + 1, 2, none⟩ = some (.int .i64 R3.code) := K2C.out.cell 2 _ (by rw [HS3.out]; rfl)
    have HSAME := hide (same_own HOC.out hOB OK3.out.ok OK3.out.most)
    have HI3 : Hid ((Tryd.prog.info? 26).map (·.size) = some R3.m.proc.length) := by unfold Hid; rw [proc_len OK3.out]; exact infoProc
    have hb1 : (x : Int) + (R3.steps : Int) ≤ 9223372036854775807 := by omega
    have hb2 : -9223372036854775808 ≤ (x : Int) + (R3.steps : Int) := by omega
    have HQ := hide (And.intro q13 q16)
    clear q13 q16 hB1 hB2 hOB hzB hT
    refine wp_region_list ?_
    refine wpList_tail (pre := [{ dst := some 78, op := Go.Op.fieldAddr 32 (Go.Operand.tmp 14) 0, type := 0, pos := "outright.go:31", after := #[], guard := none }, { dst := some 79, op := Go.Op.load 3 (Go.Operand.tmp 78), type := 3, pos := "outright.go:31", after := #[{ on := 0, ground := Go.Ground.data }], guard := none }, { dst := some 80, op := Go.Op.fieldAddr 32 (Go.Operand.tmp 17) 0, type := 0, pos := "outright.go:31", after := #[], guard := none }, { dst := some 81, op := Go.Op.load 3 (Go.Operand.tmp 80), type := 3, pos := "outright.go:31", after := #[{ on := 2, ground := Go.Ground.data }], guard := none }, { dst := some 82, op := Go.Op.binOp Go.BinOp.eql 3 (Go.Operand.tmp 79) (Go.Operand.tmp 81) 3, type := 4, pos := "outright.go:31", after := #[{ on := 1, ground := Go.Ground.data }, { on := 3, ground := Go.Ground.data }], guard := none }, { dst := some 83, op := Go.Op.move (Go.Operand.tmp 82), type := 4, pos := "outright.go:31", after := #[{ on := 4, ground := Go.Ground.data }], guard := none }, { dst := some 84, op := Go.Op.fieldAddr 32 (Go.Operand.tmp 14) 2, type := 0, pos := "outright.go:31", after := #[{ on := 5, ground := Go.Ground.guard }], guard := some (5, true) }, { dst := some 85, op := Go.Op.load 3 (Go.Operand.tmp 84), type := 3, pos := "outright.go:31", after := #[{ on := 6, ground := Go.Ground.data }, { on := 5, ground := Go.Ground.guard }], guard := some (5, true) }, { dst := some 86, op := Go.Op.fieldAddr 32 (Go.Operand.tmp 17) 2, type := 0, pos := "outright.go:31", after := #[{ on := 5, ground := Go.Ground.guard }], guard := some (5, true) }, { dst := some 87, op := Go.Op.load 3 (Go.Operand.tmp 86), type := 3, pos := "outright.go:31", after := #[{ on := 8, ground := Go.Ground.data }, { on := 5, ground := Go.Ground.guard }], guard := some (5, true) }, { dst := some 88, op := Go.Op.binOp Go.BinOp.eql 3 (Go.Operand.tmp 85) (Go.Operand.tmp 87) 3, type := 4, pos := "outright.go:31", after := #[{ on := 7, ground := Go.Ground.data }, { on := 9, ground := Go.Ground.data }, { on := 5, ground := Go.Ground.guard }], guard := some (5, true) }, { dst := some 89, op := Go.Op.pick (Go.Operand.tmp 83) (Go.Operand.tmp 88) (Go.Operand.const (Go.Value.bool false)), type := 4, pos := "outright.go:31", after := #[{ on := 5, ground := Go.Ground.data }, { on := 10, ground := Go.Ground.data }], guard := none }, { dst := some 90, op := Go.Op.move (Go.Operand.tmp 89), type := 4, pos := "outright.go:31", after := #[{ on := 11, ground := Go.Ground.data }, { on := 5, ground := Go.Ground.chain }], guard := none }, { dst := some 91, op := Go.Op.fieldAddr 32 (Go.Operand.tmp 14) 1, type := 0, pos := "outright.go:31", after := #[{ on := 12, ground := Go.Ground.guard }], guard := some (12, true) }, { dst := some 92, op := Go.Op.load 3 (Go.Operand.tmp 91), type := 3, pos := "outright.go:31", after := #[{ on := 13, ground := Go.Ground.data }, { on := 12, ground := Go.Ground.guard }], guard := some (12, true) }, { dst := some 93, op := Go.Op.move (Go.Operand.tmp 7), type := 3, pos := "outright.go:31", after := #[{ on := 12, ground := Go.Ground.guard }], guard := some (12, true) }, { dst := some 94, op := Go.Op.fieldAddr 32 (Go.Operand.tmp 17) 1, type := 0, pos := "outright.go:31", after := #[{ on := 12, ground := Go.Ground.guard }], guard := some (12, true) }, { dst := some 95, op := Go.Op.load 3 (Go.Operand.tmp 94), type := 3, pos := "outright.go:31", after := #[{ on := 16, ground := Go.Ground.data }, { on := 12, ground := Go.Ground.guard }], guard := some (12, true) }, { dst := some 96, op := Go.Op.binOp Go.BinOp.add 3 (Go.Operand.tmp 93) (Go.Operand.tmp 95) 3, type := 3, pos := "outright.go:31", after := #[{ on := 15, ground := Go.Ground.data }, { on := 17, ground := Go.Ground.data }, { on := 12, ground := Go.Ground.guard }], guard := some (12, true) }, { dst := some 97, op := Go.Op.binOp Go.BinOp.eql 3 (Go.Operand.tmp 92) (Go.Operand.tmp 96) 3, type := 4, pos := "outright.go:31", after := #[{ on := 14, ground := Go.Ground.data }, { on := 18, ground := Go.Ground.data }, { on := 12, ground := Go.Ground.guard }], guard := some (12, true) }, { dst := some 98, op := Go.Op.pick (Go.Operand.tmp 90) (Go.Operand.tmp 97) (Go.Operand.const (Go.Value.bool false)), type := 4, pos := "outright.go:31", after := #[{ on := 12, ground := Go.Ground.data }, { on := 19, ground := Go.Ground.data }], guard := none }, { dst := some 99, op := Go.Op.move (Go.Operand.tmp 98), type := 4, pos := "outright.go:31", after := #[{ on := 20, ground := Go.Ground.data }, { on := 12, ground := Go.Ground.chain }], guard := none }]) (tl := [{ dst := some 100, op := Go.Op.load 26 (Go.Operand.tmp 16), type := 26, pos := "outright.go:31", after := #[{ on := 21, ground := Go.Ground.guard }], guard := some (21, true) }, { dst := some 101, op := Go.Op.load 26 (Go.Operand.tmp 13), type := 26, pos := "outright.go:31", after := #[{ on := 21, ground := Go.Ground.guard }], guard := some (21, true) }, { dst := some 102, op := Go.Op.binOp Go.BinOp.eql 26 (Go.Operand.tmp 100) (Go.Operand.tmp 101) 26, type := 4, pos := "outright.go:31", after := #[{ on := 22, ground := Go.Ground.data }, { on := 23, ground := Go.Ground.data }, { on := 21, ground := Go.Ground.guard }], guard := some (21, true) }, { dst := some 103, op := Go.Op.pick (Go.Operand.tmp 99) (Go.Operand.tmp 102) (Go.Operand.const (Go.Value.bool false)), type := 4, pos := "outright.go:31", after := #[{ on := 21, ground := Go.Ground.data }, { on := 24, ground := Go.Ground.data }], guard := none }, { dst := some 104, op := Go.Op.move (Go.Operand.tmp 103), type := 4, pos := "outright.go:31", after := #[{ on := 25, ground := Go.Ground.data }, { on := 21, ground := Go.Ground.chain }], guard := none }, { dst := some 105, op := Go.Op.move (Go.Operand.tmp 15), type := 22, pos := "outright.go:31", after := #[{ on := 26, ground := Go.Ground.guard }], guard := some (26, true) }, { dst := some 106, op := Go.Op.move (Go.Operand.tmp 12), type := 22, pos := "outright.go:31", after := #[{ on := 26, ground := Go.Ground.guard }], guard := some (26, true) }, { dst := some 107, op := Go.Op.call { callee := Go.Callee.value (Go.Operand.func 10), args := #[Go.Operand.tmp 105, Go.Operand.tmp 106], argTypes := #[22, 22] }, type := 4, pos := "outright.go:31", after := #[{ on := 27, ground := Go.Ground.data }, { on := 28, ground := Go.Ground.data }, { on := 26, ground := Go.Ground.chain }, { on := 26, ground := Go.Ground.guard }], guard := some (26, true) }, { dst := some 108, op := Go.Op.pick (Go.Operand.tmp 104) (Go.Operand.tmp 107) (Go.Operand.const (Go.Value.bool false)), type := 4, pos := "outright.go:31", after := #[{ on := 26, ground := Go.Ground.data }, { on := 29, ground := Go.Ground.data }], guard := none }, { dst := some 6, op := Go.Op.assign (Go.Operand.tmp 108), type := 4, pos := "outright.go:31", after := #[{ on := 30, ground := Go.Ground.data }, { on := 29, ground := Go.Ground.chain }, { on := 0, ground := Go.Ground.phase }, { on := 1, ground := Go.Ground.phase }, { on := 2, ground := Go.Ground.phase }, { on := 3, ground := Go.Ground.phase }, { on := 4, ground := Go.Ground.phase }, { on := 5, ground := Go.Ground.phase }, { on := 6, ground := Go.Ground.phase }, { on := 7, ground := Go.Ground.phase }, { on := 8, ground := Go.Ground.phase }, { on := 9, ground := Go.Ground.phase }, { on := 10, ground := Go.Ground.phase }, { on := 11, ground := Go.Ground.phase }, { on := 12, ground := Go.Ground.phase }, { on := 13, ground := Go.Ground.phase }, { on := 14, ground := Go.Ground.phase }, { on := 15, ground := Go.Ground.phase }, { on := 16, ground := Go.Ground.phase }, { on := 17, ground := Go.Ground.phase }, { on := 18, ground := Go.Ground.phase }, { on := 19, ground := Go.Ground.phase }, { on := 20, ground := Go.Ground.phase }, { on := 21, ground := Go.Ground.phase }, { on := 22, ground := Go.Ground.phase }, { on := 23, ground := Go.Ground.phase }, { on := 24, ground := Go.Ground.phase }, { on := 25, ground := Go.Ground.phase }, { on := 26, ground := Go.Ground.phase }, { on := 27, ground := Go.Ground.phase }, { on := 28, ground := Go.Ground.phase }, { on := 29, ground := Go.Ground.phase }, { on := 30, ground := Go.Ground.phase }], guard := none }]) ?_
    intro tl htl
    have HTL := hide htl
    clear htl
    simp only [List.cons_append, List.nil_append]
    go_wp2_with fail
    have htl := HTL.out
    clear HTL
    subst htl
    refine wpList_load_g (op := { dst := some 100, op := Go.Op.load 26 (Go.Operand.tmp 16), type := 26, pos := "outright.go:31", after := #[{ on := 21, ground := Go.Ground.guard }], guard := some (21, true) }) (by rfl) 26 (.tmp 16) rfl w6.heap.size 0 rfl R3.m.proc _ HQ.out.2 HU.out rfl HI3.out ?_
    simp only [Act.put, List.setIfInBounds_toArray, List.set_cons_zero, List.set_cons_succ]
    refine wpList_load_g (op := { dst := some 101, op := Go.Op.load 26 (Go.Operand.tmp 13), type := 26, pos := "outright.go:31", after := #[{ on := 21, ground := Go.Ground.guard }], guard := some (21, true) }) (by rfl) 26 (.tmp 13) rfl w4.heap.size 0 rfl R3.m.proc _ HQ.out.1 HU.out rfl HI3.out ?_
    simp only [Act.put, List.setIfInBounds_toArray, List.set_cons_zero, List.set_cons_succ]
    refine wpList_run_g (op := { dst := some 102, op := Go.Op.binOp Go.BinOp.eql 26 (Go.Operand.tmp 100) (Go.Operand.tmp 101) 26, type := 4, pos := "outright.go:31", after := #[{ on := 22, ground := Go.Ground.data }, { on := 23, ground := Go.Ground.data }, { on := 21, ground := Go.Ground.guard }], guard := some (21, true) }) (by rfl) (.bool true) (eql_proc OK3.out _ (.tmp 100) (.tmp 101) rfl rfl _ _ rfl _) ?_
    simp only [Act.put, List.setIfInBounds_toArray, List.set_cons_zero, List.set_cons_succ]
    go_wp2_with fail
    refine Calls.mono HSAME.out ?_
    rintro e w8 ⟨rfl, b8⟩
    have D8 := hide (chain D1'''.out b8)
    clear b8
    go_wp2
    go_ret
    exact ⟨rfl, D8.out⟩
end Go.Proofs.YtbcpcepehnllhaaDoor.coreSplits
