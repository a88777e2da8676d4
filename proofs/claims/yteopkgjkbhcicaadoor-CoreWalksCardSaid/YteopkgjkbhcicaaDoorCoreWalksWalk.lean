/-
  CoreWalks: the law walked.
-/
import Derived.Test.YteopkgjkbhcicaaDoorCmKeep
import Derived.Test.YteopkgjkbhcicaaDoorCmPath
import Derived.Test.YteopkgjkbhcicaaDoorPgEq
import Derived.Deep.Cut
import Derived.Deep.CutRange
import Derived.BigQuiet
import Derived.Deep.QuietTactic
namespace Go.Proofs.YteopkgjkbhcicaaDoor.coreWalks
open Go.RowKit FerryCrc FerryAlu
set_option linter.unusedVariables false
set_option linter.unusedSimpArgs false

/-- A run that is under way: where it stopped, and that it went on until then. -/
theorem go_kind {r0 : Rn} (h0 : r0.kind = 0) (hs : r0.steps = 0) : ∀ (n k : Nat), k < (Rn.go n r0).steps → (Rn.go k r0).kind = 0 ∧ (Rn.go k r0).steps = k
  | 0, k, h => by
    have : (Rn.go 0 r0).steps = 0 := hs
    omega
  | n + 1, k, h => by
    rw [Rn.go_succ] at h
    by_cases hk : (Rn.go n r0).kind = 0
    · unfold Rn.next at h
      rw [if_pos hk] at h
      have h' : k < (Rn.go n r0).steps + 1 := h
      by_cases he : k < (Rn.go n r0).steps
      · exact go_kind h0 hs n k he
      · have hst := Rn.go_steps n r0 hk
        have hkn : k = n := by omega
        subst hkn
        exact ⟨hk, by omega⟩
    · unfold Rn.next at h
      rw [if_neg hk] at h
      exact go_kind h0 hs n k h
theorem go_back {r0 : Rn} (h0 : r0.kind = 0) (hs : r0.steps = 0) (n : Nat) : Rn.go (Rn.go n r0).steps r0 = Rn.go n r0 := by
  have hle := Rn.go_le n r0
  have h1 : (Rn.go n r0).steps ≤ n := by omega
  by_cases hk : (Rn.go (Rn.go n r0).steps r0).kind = 0
  · have hst := Rn.go_steps _ r0 hk
    by_cases he : (Rn.go n r0).steps = n
    · rw [he]
    · have h2 : Rn.go n r0 = Rn.go (n - (Rn.go n r0).steps) (Rn.go (Rn.go n r0).steps r0) := by
        rw [← Rn.go_add, show (Rn.go n r0).steps + (n - (Rn.go n r0).steps) = n by omega]
      by_cases hn : (Rn.go n r0).kind = 0
      · have := Rn.go_steps n r0 hn
        omega
      · have h3 : (Rn.go ((Rn.go n r0).steps + 1) r0).steps = (Rn.go n r0).steps + 1 := by
          rw [Rn.go_succ]
          unfold Rn.next
          rw [if_pos hk]
          show _ + 1 = _
          omega
        have h4 : ∀ (a b : Nat), (Rn.go a r0).steps ≤ (Rn.go (a + b) r0).steps := by
          intro a b
          induction b with
          | zero => exact Nat.le_refl _
          | succ b ih =>
            refine Nat.le_trans ih ?_
            rw [show a + (b + 1) = (a + b) + 1 by omega, Rn.go_succ]
            unfold Rn.next
            split
            · show _ ≤ _ + 1
              omega
            · exact Nat.le_refl _
        have h5 := h4 ((Rn.go n r0).steps + 1) (n - ((Rn.go n r0).steps + 1))
        rw [show (Rn.go n r0).steps + 1 + (n - ((Rn.go n r0).steps + 1)) = n by omega, h3] at h5
        omega
  · have h2 : Rn.go n r0 = Rn.go (n - (Rn.go n r0).steps) (Rn.go (Rn.go n r0).steps r0) := by
      rw [← Rn.go_add, show (Rn.go n r0).steps + (n - (Rn.go n r0).steps) = n by omega]
    exact (h2.trans (Rn.go_still hk)).symm
theorem one_run {M : Mc} (h : M.zero) : M.run 1 = ⟨M.step.1, M.step.2.1, M.step.2.2, 1⟩ := by
  unfold Mc.run
  rw [from0_same h]
  rfl
theorem from0_proc (m : Mc) (ok : m.Ok) : m.from0.proc = m.proc.set 0 (.int .u32 0) := by
  have h := ok.size
  unfold Mc.proc Mc.from0
  match hr : m.regs, h with
  | r :: l, _ => simp [u32v]
theorem proc_0 (m : Mc) (ok : m.Ok) : ∃ r, m.proc[0]? = some (.int .u32 r) := by
  have h := ok.size
  unfold Mc.proc
  match hr : m.regs, h with
  | r :: l, _ => exact ⟨_, rfl⟩
theorem blw_drewN (w : World) (n : Nat) : Below w.heap.size w (w.drewN n) := ⟨rfl, rfl, rfl, Nat.le_refl _, fun _ _ => rfl⟩
theorem path_at (m : Mc) (n k : Nat) (hk : k < (m.run n).steps) : (m.path n)[k]? = some (Rn.go k ⟨m.from0, 0, 0, 0⟩).m.pc := by
  unfold Mc.path pcs
  rw [List.getElem?_map, List.getElem?_range hk]
  rfl
theorem proc_pc (m : Mc) (ok : m.Ok) : m.proc[16]? = some (.int .u32 (m.pc : Int)) := by
  have h : (m.regs.map u32v).length = 16 := by rw [List.length_map]; exact ok.size
  unfold Mc.proc
  rw [List.getElem?_append_right (by omega), h]
  rfl
set_option maxRecDepth 100000 in
set_option maxHeartbeats 8000000 in
theorem law (a : Option Addr) (len cap : Nat) (m : Mc) (n : Int) (w : World) (A : Addr) (hv : Cov w A) (hs : Pgs w a len cap m.pages) (ok : m.Ok) (i1 : -9223372036854775808 ≤ n) (i2 : n ≤ 9223372036854775807) :
    Calls Tryd.prog 4 #[.slice a len cap, .agg m.proc.toArray, .int .i64 n] w fun e w' => e = .returned (.bool true) ∧ Below w.heap.size w w' := by
  have hm := hs.most
  have HLEN := hide hs.size
  have HS := hide hs
  have HV := hide hv
  have OK := hide ok
  have HPL : Hid (m.proc.length = 21) := proc_len ok
  obtain ⟨z4, hb0, hsz⟩ := one_alloc w m.proc.toArray 26
  have Z4 : Hid (Bl (w.alloc (.cells m.proc.toArray 26)) w.heap.size m.proc) := z4
  have HB0 := hide hb0
  have HSZ := hide hsz
  have hu26 := Tryd.underlying26
  have hi26 : (Tryd.prog.info? 26).map (·.size) = some m.proc.length := by rw [HPL.out]; exact infoProc
  have HU := hide hu26
  have HI := hide hi26
  clear hs hv ok z4 hb0 hsz hu26 hi26
  obtain ⟨na, hna⟩ : ∃ na, (if 3000 < n then 3000 else n) = na := ⟨_, rfl⟩
  have BA := hide (bounded_any n)
  rw [hna] at BA
  have a1 : na ≤ 3000 := by rw [← hna]; split <;> omega
  have a3 : -9223372036854775808 ≤ na := by rw [← hna]; split <;> omega
  clear hna
  go_enter Tryd.func4, Tryd.ntmps4
  go_upto_region 1 with fail
  generalize w.alloc (.cells m.proc.toArray 26) = W0 at *
  go_wp2_with fail
  refine Calls.mono (awake_any W0 A (HV.out.below HB0.out)) ?_
  rintro e w1 ⟨rfl, b1⟩
  have Z41 := hide (Z4.out.below (by rw [HSZ.out]; omega) b1)
  have D1 := hide (chain HB0.out b1)
  have L41 : Hid (w.heap.size < w1.heap.size) := by have h1 := HSZ.out; have h2 := b1.size; unfold Hid; omega
  clear b1 Z4 HB0
  go_wp2_with fail
  refine Calls.mono (BA.out _) ?_
  rintro e w' ⟨rfl, rfl⟩
  go_upto_if 23 with fail
  go_cut [2] from 22 (fun v wx => ∃ nb : Int, v = .int .i64 nb ∧ nb ≤ 400 ∧ -9223372036854775808 ≤ nb ∧ wx = w1)
  case first =>
    by_cases h400 : 400 < na
    · go_wp2
      go_meet
      case rel => exact ⟨400, rfl, by omega, by omega, rfl⟩
    · have h4 : na ≤ 400 := by omega
      clear h400
      go_wp2
      go_meet
      case rel => exact ⟨na, rfl, h4, a3, rfl⟩
  case rest =>
    obtain ⟨nb, rfl, n4, n0, hwc⟩ := hcut
    obtain rfl : w1 = wc := hwc.symm
    clear BA i1 i2 a1 a3
    obtain ⟨N, hN⟩ : ∃ N, nb.toNat = N := ⟨_, rfl⟩
    have HR1 : Hid (∀ (W : World), Below w.heap.size w W → Calls Tryd.prog 10 #[.slice a len cap, .agg m.proc.toArray, .int .i64 nb] W fun e w' => ∃ v, e = .returned (.tuple #[v, .agg (m.run N).m.proc.toArray, .agg (stopL (m.run N)).toArray]) ∧ POwn w' W.heap.size v (m.run N).m.pages ∧ (m.run N).m.Ok ∧ Below W.heap.size W w') := fun W hW => by
      have := run_any a len cap m nb W (HS.out.below hW) OK.out A (HV.out.below hW) (by omega) (by omega)
      rw [hN] at this
      exact this
    have HPT : Hid (∀ (W : World), Below w.heap.size w W → Calls Tryd.prog 12 #[.slice a len cap, .agg m.proc.toArray, .int .i64 nb] W fun e w' => ∃ v, e = .returned (.tuple #[v, .nilIface]) ∧ UOwn w' W.heap.size v (m.path N) ∧ Below W.heap.size W w') := fun W hW => by
      have := path_any a len cap m nb W (HS.out.below hW) OK.out A (HV.out.below hW) (by omega) (by omega)
      rw [hN] at this
      exact this
    obtain ⟨r0, hr0⟩ : ∃ r0, (⟨m.from0, 0, 0, 0⟩ : Rn) = r0 := ⟨_, rfl⟩
    have HRN : Hid (m.run N = Rn.go N r0) := by unfold Hid; rw [← hr0]; rfl
    have HK0 : Hid (r0.kind = 0 ∧ r0.steps = 0 ∧ r0.code = 0 ∧ r0.m = m.from0) := by rw [← hr0]; exact ⟨rfl, rfl, rfl, rfl⟩
    have HZ0 : Hid (r0.m.zero) := by unfold Hid; rw [HK0.out.2.2.2]; exact from0_zero OK.out
    have HPA : Hid (∀ k, k < (m.run N).steps → (m.path N)[k]? = some (Rn.go k r0).m.pc) := fun k hk => by rw [← hr0]; exact path_at m N k hk
    have HPAL : Hid ((m.path N).length = (m.run N).steps) := pcs_len _ _
    have HKI : Hid (∀ k, k < (m.run N).steps → (Rn.go k r0).kind = 0 ∧ (Rn.go k r0).steps = k) := fun k hk => go_kind HK0.out.1 HK0.out.2.1 N k (by rw [← HRN.out]; exact hk)
    have HBK : Hid (Rn.go (m.run N).steps r0 = m.run N) := by unfold Hid; rw [HRN.out]; exact go_back HK0.out.1 HK0.out.2.1 N
    have HLE : Hid ((m.run N).steps ≤ N) := by
      have := Rn.go_le N r0
      rw [HK0.out.2.1] at this
      unfold Hid
      rw [HRN.out]
      omega
    have HEND : Hid ((m.run N).kind = 0 → (m.run N).steps = N) := fun h => by
      rw [HRN.out] at h ⊢
      have := Rn.go_steps N r0 h
      rw [HK0.out.2.1] at this
      omega
    have HSS : Hid (stl (stopL (m.run N))) := stl_stop _
    have HS1 : Hid (stopL (m.run N) = [.int .i64 ((m.run N).kind : Int), .int .i64 ((m.run N).steps : Int), .int .i64 (m.run N).code]) := rfl
    have HNUL : Hid (N = 0 → stopL (m.run N) = [.int .i64 0, .int .i64 0, .int .i64 0]) := fun h => by
      rw [HRN.out, h]
      show stopL r0 = _
      unfold stopL
      rw [HK0.out.1, HK0.out.2.1, HK0.out.2.2.1]
      rfl
    have HRB : Hid (∀ W v B, POwn W B v (Rn.go (m.run N).steps r0).m.pages → POwn W B v (m.run N).m.pages) := fun W v B h => by rw [HBK.out] at h; exact h
    have HNN := hide hN
    clear hr0 HRN hN
    generalize m.path N = PP at *
    generalize m.run N = R at *
    generalize hS1 : stopL R = S1 at *
    clear hS1
    have r4 : w1.rangeAt w.heap.size 0 m.proc := bl_range Z41.out
    go_wp2_with (first | (refine wpList_load_mid (op := { dst := some 26, op := Go.Op.load 26 (Go.Operand.tmp 4), type := 26, pos := "outright.go:46", after := #[], guard := none }) rfl 26 (.tmp 4) rfl w.heap.size 0 rfl m.proc _ r4 HU.out rfl HI.out ?_) | fail)
    refine Calls.mono (HR1.out w1 D1.out) ?_
    rintro e w3 ⟨v1, rfl, hoA, ok1, bA⟩
    have OK1 := hide ok1
    clear ok1 HR1
    obtain ⟨t1A, t2A, ⟨j1A, j2A, j3A, j4A⟩, k1A, k2A, k3A, k4A⟩ := keepR w3 R.m S1 OK1.out HSS.out
    have T1A := hide t1A
    have T2A := hide t2A
    have J1A := hide j1A
    have J2A := hide j2A
    have J3A := hide j3A
    have J4A := hide j4A
    have K1A := hide k1A
    have K2A := hide k2A
    have K3A := hide k3A
    have K4A := hide k4A
    have HOA := hide (hoA.below k3A)
    have D1' := hide (chain D1.out (chain bA k3A))
    have HBBA := hide (chain bA k3A)
    clear t1A t2A j1A j2A j3A j4A k1A k2A k3A k4A hoA
    go_upto_region 7 with (first | (refine wpList_store_mid (op := { dst := none, op := Go.Op.store 26 (Go.Operand.tmp 8) (Go.Operand.tmp 30), type := 0, pos := "outright.go:46", after := #[{ on := 8, ground := Go.Ground.data }, { on := 6, ground := Go.Ground.data }, { on := 10, ground := Go.Ground.chain }, { on := 0, ground := Go.Ground.phase }, { on := 1, ground := Go.Ground.phase }, { on := 2, ground := Go.Ground.phase }, { on := 3, ground := Go.Ground.phase }, { on := 4, ground := Go.Ground.phase }, { on := 5, ground := Go.Ground.phase }, { on := 6, ground := Go.Ground.phase }, { on := 7, ground := Go.Ground.textOnly Go.Departure.lateStores }, { on := 8, ground := Go.Ground.phase }, { on := 9, ground := Go.Ground.phase }, { on := 10, ground := Go.Ground.phase }], guard := none }) rfl 26 (.tmp 8) (.tmp 30) rfl w3.heap.size 0 R.m.proc.toArray rfl rfl T1A.out J1A.out J3A.out ?_) | (refine wpList_store_mid (op := { dst := none, op := Go.Op.store 32 (Go.Operand.tmp 9) (Go.Operand.tmp 31), type := 0, pos := "outright.go:46", after := #[{ on := 9, ground := Go.Ground.data }, { on := 7, ground := Go.Ground.data }, { on := 11, ground := Go.Ground.chain }, { on := 0, ground := Go.Ground.phase }, { on := 1, ground := Go.Ground.phase }, { on := 2, ground := Go.Ground.phase }, { on := 3, ground := Go.Ground.phase }, { on := 4, ground := Go.Ground.phase }, { on := 5, ground := Go.Ground.phase }, { on := 6, ground := Go.Ground.phase }, { on := 7, ground := Go.Ground.phase }, { on := 8, ground := Go.Ground.phase }, { on := 9, ground := Go.Ground.phase }, { on := 10, ground := Go.Ground.phase }, { on := 11, ground := Go.Ground.phase }], guard := none }) rfl 32 (.tmp 9) (.tmp 31) rfl (w3.heap.size + 1) 0 S1.toArray rfl rfl T2A.out J2A.out J4A.out ?_) | fail)
    simp only [Act.put]
    generalize (((w3.alloc (.cells #[.int .u32 0, .int .u32 0, .int .u32 0, .int .u32 0, .int .u32 0, .int .u32 0, .int .u32 0, .int .u32 0, .int .u32 0, .int .u32 0, .int .u32 0, .int .u32 0, .int .u32 0, .int .u32 0, .int .u32 0, .int .u32 0, .int .u32 0, .int .i64 0, .int .i64 0, .int .i64 0, .int .i64 0] 26)).alloc (.cells #[.int .i64 0, .int .i64 0, .int .i64 0] 32)).setCells w3.heap.size 0 R.m.proc).setCells (w3.heap.size + 1) 0 S1 = W4 at *
    have Z43 := hide (Z41.out.below L41.out HBBA.out)
    have L43 : Hid (w.heap.size < W4.heap.size) := by have h1 := L41.out; have h2 := HBBA.out.size; unfold Hid; omega
    have r4b : W4.rangeAt w.heap.size 0 m.proc := bl_range Z43.out
    go_wp2_with (first | (refine wpList_load_mid (op := { dst := some 34, op := Go.Op.load 26 (Go.Operand.tmp 4), type := 26, pos := "outright.go:47", after := #[], guard := none }) rfl 26 (.tmp 4) rfl w.heap.size 0 rfl m.proc _ r4b HU.out rfl HI.out ?_) | fail)
    refine Calls.mono (HPT.out W4 D1'.out) ?_
    rintro e w5 ⟨pv, rfl, huo, b5⟩
    obtain ⟨pa, pq, rfl⟩ := huo.sl
    rw [HPAL.out] at huo ⊢
    have HUO := hide huo
    have D5 := hide (chain D1'.out b5)
    have hz4 : w3.heap.size + 2 = W4.heap.size := K4A.out.symm
    have S5 := hide (K2A.out.below (by omega) b5)
    have Q5 := hide (K1A.out.below (by omega) b5)
    have Z45 := hide (Z43.out.below L43.out b5)
    have HOA5 := hide (HOA.out.below b5)
    have L35 : Hid (w3.heap.size + 2 ≤ w5.heap.size ∧ w.heap.size < w5.heap.size) := by have h1 := b5.size; have h2 := L43.out; unfold Hid; omega
    clear huo b5 r4 r4b hz4 HPT T1A T2A J1A J2A J3A J4A K1A K2A K3A K4A HOA HBBA bA Z43 L43 Z41 L41
    go_upto_region 8 with fail
    go_cut [71] from 39 (fun v wx => v = .bool false ∧ wx = w5)
    case first =>
      have s1 : w5.cell? ⟨w3.heap.size + 1, 1, none⟩ = some (.int .i64 (R.steps : Int)) := S5.out.cell 1 _ (by rw [HS1.out]; rfl)
      have hle := HLE.out
      by_cases hp : 0 < nb
      · --
        as_aux_lemma =>
          have d1 : decide ((R.steps : Int) < 0) = false := by simp
          have d2 : decide (nb < (R.steps : Int)) = false := by have := HNN.out; simp; omega
          have d3 : decide (nb ≤ 0) = false := by simp; omega
          clear hle
          go_wp2
          go_meet
          case rel => exact ⟨rfl, rfl⟩
      · --
        as_aux_lemma =>
          have hN0 : N = 0 := by have := HNN.out; omega
          have rS5 : w5.rangeAt (w3.heap.size + 1) 0 S1 := bl_range S5.out
          have HU32 := hide Tryd.underlying32
          have HI32 : Hid ((Tryd.prog.info? 32).map (·.size) = some S1.length) := by unfold Hid; rw [HSS.out.1]; exact infoStop
          have d1 : decide ((R.steps : Int) < 0) = false := by simp
          have d2 : decide (0 < nb) = false := by simp; omega
          have d3 : nb ≤ 0 := by omega
          clear hle hp
          refine wp_region_list ?_
          refine wpList_tail (pre := [{ dst := some 39, op := Go.Op.move (Go.Operand.tmp 11), type := 39, pos := "outright.go:48", after := #[], guard := none }, { dst := some 40, op := Go.Op.binOp Go.BinOp.neq 39 (Go.Operand.tmp 39) (Go.Operand.const Go.Value.nilIface) 39, type := 4, pos := "outright.go:48", after := #[{ on := 0, ground := Go.Ground.data }], guard := none }, { dst := some 41, op := Go.Op.move (Go.Operand.tmp 40), type := 4, pos := "outright.go:48", after := #[{ on := 1, ground := Go.Ground.data }], guard := none }, { dst := some 42, op := Go.Op.move (Go.Operand.tmp 10), type := 37, pos := "outright.go:48", after := #[{ on := 2, ground := Go.Ground.guard }], guard := some (2, false) }, { dst := some 43, op := Go.Op.call { callee := Go.Callee.builtin Go.Builtin.len, args := #[Go.Operand.tmp 42], argTypes := #[37] }, type := 3, pos := "outright.go:48", after := #[{ on := 3, ground := Go.Ground.data }, { on := 2, ground := Go.Ground.guard }], guard := some (2, false) }, { dst := some 44, op := Go.Op.fieldAddr 32 (Go.Operand.tmp 9) 1, type := 0, pos := "outright.go:48", after := #[{ on := 2, ground := Go.Ground.guard }], guard := some (2, false) }, { dst := some 45, op := Go.Op.load 3 (Go.Operand.tmp 44), type := 3, pos := "outright.go:48", after := #[{ on := 5, ground := Go.Ground.data }, { on := 2, ground := Go.Ground.guard }], guard := some (2, false) }, { dst := some 46, op := Go.Op.binOp Go.BinOp.neq 3 (Go.Operand.tmp 43) (Go.Operand.tmp 45) 3, type := 4, pos := "outright.go:48", after := #[{ on := 4, ground := Go.Ground.data }, { on := 6, ground := Go.Ground.data }, { on := 2, ground := Go.Ground.guard }], guard := some (2, false) }, { dst := some 47, op := Go.Op.pick (Go.Operand.tmp 41) (Go.Operand.const (Go.Value.bool true)) (Go.Operand.tmp 46), type := 4, pos := "outright.go:48", after := #[{ on := 2, ground := Go.Ground.data }, { on := 7, ground := Go.Ground.data }], guard := none }, { dst := some 48, op := Go.Op.move (Go.Operand.tmp 47), type := 4, pos := "outright.go:48", after := #[{ on := 8, ground := Go.Ground.data }, { on := 2, ground := Go.Ground.chain }], guard := none }, { dst := some 49, op := Go.Op.fieldAddr 32 (Go.Operand.tmp 9) 1, type := 0, pos := "outright.go:48", after := #[{ on := 9, ground := Go.Ground.guard }], guard := some (9, false) }, { dst := some 50, op := Go.Op.load 3 (Go.Operand.tmp 49), type := 3, pos := "outright.go:48", after := #[{ on := 10, ground := Go.Ground.data }, { on := 9, ground := Go.Ground.guard }], guard := some (9, false) }, { dst := some 51, op := Go.Op.binOp Go.BinOp.lss 3 (Go.Operand.tmp 50) (Go.Operand.const (Go.Value.int Go.IntKind.i64 0)) 3, type := 4, pos := "outright.go:48", after := #[{ on := 11, ground := Go.Ground.data }, { on := 9, ground := Go.Ground.guard }], guard := some (9, false) }, { dst := some 52, op := Go.Op.pick (Go.Operand.tmp 48) (Go.Operand.const (Go.Value.bool true)) (Go.Operand.tmp 51), type := 4, pos := "outright.go:48", after := #[{ on := 9, ground := Go.Ground.data }, { on := 12, ground := Go.Ground.data }], guard := none }, { dst := some 53, op := Go.Op.move (Go.Operand.tmp 52), type := 4, pos := "outright.go:48", after := #[{ on := 13, ground := Go.Ground.data }, { on := 9, ground := Go.Ground.chain }], guard := none }, { dst := some 54, op := Go.Op.move (Go.Operand.tmp 2), type := 3, pos := "outright.go:48", after := #[{ on := 14, ground := Go.Ground.guard }], guard := some (14, false) }, { dst := some 55, op := Go.Op.binOp Go.BinOp.gtr 3 (Go.Operand.tmp 54) (Go.Operand.const (Go.Value.int Go.IntKind.i64 0)) 3, type := 4, pos := "outright.go:48", after := #[{ on := 15, ground := Go.Ground.data }, { on := 14, ground := Go.Ground.guard }], guard := some (14, false) }, { dst := some 56, op := Go.Op.move (Go.Operand.tmp 55), type := 4, pos := "outright.go:48", after := #[{ on := 16, ground := Go.Ground.data }, { on := 14, ground := Go.Ground.chain }, { on := 14, ground := Go.Ground.guard }], guard := some (14, false) }, { dst := some 57, op := Go.Op.fieldAddr 32 (Go.Operand.tmp 9) 1, type := 0, pos := "outright.go:48", after := #[{ on := 17, ground := Go.Ground.guard }], guard := some (17, true) }, { dst := some 58, op := Go.Op.load 3 (Go.Operand.tmp 57), type := 3, pos := "outright.go:48", after := #[{ on := 18, ground := Go.Ground.data }, { on := 17, ground := Go.Ground.guard }], guard := some (17, true) }, { dst := some 59, op := Go.Op.move (Go.Operand.tmp 2), type := 3, pos := "outright.go:48", after := #[{ on := 17, ground := Go.Ground.guard }], guard := some (17, true) }, { dst := some 60, op := Go.Op.binOp Go.BinOp.gtr 3 (Go.Operand.tmp 58) (Go.Operand.tmp 59) 3, type := 4, pos := "outright.go:48", after := #[{ on := 19, ground := Go.Ground.data }, { on := 20, ground := Go.Ground.data }, { on := 17, ground := Go.Ground.guard }], guard := some (17, true) }, { dst := some 61, op := Go.Op.pick (Go.Operand.tmp 56) (Go.Operand.tmp 60) (Go.Operand.const (Go.Value.bool false)), type := 4, pos := "outright.go:48", after := #[{ on := 17, ground := Go.Ground.data }, { on := 21, ground := Go.Ground.data }, { on := 14, ground := Go.Ground.guard }], guard := some (14, false) }, { dst := some 62, op := Go.Op.pick (Go.Operand.tmp 53) (Go.Operand.const (Go.Value.bool true)) (Go.Operand.tmp 61), type := 4, pos := "outright.go:48", after := #[{ on := 14, ground := Go.Ground.data }, { on := 22, ground := Go.Ground.data }], guard := none }, { dst := some 63, op := Go.Op.move (Go.Operand.tmp 62), type := 4, pos := "outright.go:48", after := #[{ on := 23, ground := Go.Ground.data }, { on := 17, ground := Go.Ground.chain }], guard := none }, { dst := some 64, op := Go.Op.move (Go.Operand.tmp 2), type := 3, pos := "outright.go:48", after := #[{ on := 24, ground := Go.Ground.guard }], guard := some (24, false) }, { dst := some 65, op := Go.Op.binOp Go.BinOp.leq 3 (Go.Operand.tmp 64) (Go.Operand.const (Go.Value.int Go.IntKind.i64 0)) 3, type := 4, pos := "outright.go:48", after := #[{ on := 25, ground := Go.Ground.data }, { on := 24, ground := Go.Ground.guard }], guard := some (24, false) }, { dst := some 66, op := Go.Op.move (Go.Operand.tmp 65), type := 4, pos := "outright.go:48", after := #[{ on := 26, ground := Go.Ground.data }, { on := 24, ground := Go.Ground.chain }, { on := 24, ground := Go.Ground.guard }], guard := some (24, false) }]) _ ?_
          intro tl htl
          have HTL := hide htl
          clear htl
          simp only [List.cons_append, List.nil_append]
          go_wp2_with fail
          have htl := HTL.out
          clear HTL
          subst htl
          refine wpList_load_g (op := { dst := some 67, op := Go.Op.load 32 (Go.Operand.tmp 9), type := 32, pos := "outright.go:48", after := #[{ on := 27, ground := Go.Ground.guard }], guard := some (27, true) }) (by rfl) 32 (.tmp 9) rfl (w3.heap.size + 1) (0) rfl S1 _ rS5 HU32.out rfl HI32.out ?_
          simp only [Act.put, List.setIfInBounds_toArray, List.set_cons_zero, List.set_cons_succ]
          refine wpList_tail (pre := [{ dst := some 68, op := Go.Op.build 32 #[], type := 32, pos := "outright.go:48", after := #[{ on := 27, ground := Go.Ground.guard }], guard := some (27, true) }]) _ ?_
          intro tl htl
          have HTL := hide htl
          clear htl
          simp only [List.cons_append, List.nil_append]
          go_wp2_with fail
          have htl := HTL.out
          clear HTL
          subst htl
          refine wpList_run_g (op := { dst := some 69, op := Go.Op.binOp Go.BinOp.neq 32 (Go.Operand.tmp 67) (Go.Operand.tmp 68) 32, type := 4, pos := "outright.go:48", after := #[{ on := 28, ground := Go.Ground.data }, { on := 29, ground := Go.Ground.data }, { on := 27, ground := Go.Ground.guard }], guard := some (27, true) }) (by rfl) (.bool false) (neq_stop (HNUL.out hN0) _ (.tmp 67) (.tmp 68) rfl (by rw [HNUL.out hN0]; rfl) _ _ rfl _) ?_
          simp only [Act.put, List.setIfInBounds_toArray, List.set_cons_zero, List.set_cons_succ]
          go_wp2
          go_meet
          case rel => exact ⟨rfl, rfl⟩
    case rest =>
      obtain ⟨rfl, hwc⟩ := hcut
      obtain rfl : w5 = wc := hwc.symm
      go_wp2_with fail
      refine Calls.mono (refCopy_any a len cap m.pages w5 (HS.out.below D5.out)) ?_
      rintro e w6 ⟨v2, rfl, ho2, b6⟩
      have HO2 := hide ho2
      have D6 := hide (chain D5.out b6)
      have hl5 := L35.out
      have S6 := hide (S5.out.below (by omega) b6)
      have Q6 := hide (Q5.out.below (by omega) b6)
      have Z46 := hide (Z45.out.below (by omega) b6)
      have HOA6 := hide (HOA5.out.below b6)
      have HUO6 : Hid (UOwn w6 W4.heap.size (.slice pa R.steps pq) PP) := HUO.out.oth (o := none) ⟨b6.os, b6.tape, b6.output, b6.size, fun k hk _ => b6.block k hk⟩ (fun k _ => by simp)
      have L6 : Hid (w3.heap.size + 2 ≤ w6.heap.size ∧ w.heap.size < w6.heap.size ∧ w5.heap.size ≤ w6.heap.size) := by have h1 := b6.size; unfold Hid; omega
      have HV2 : Hid (∀ j, v2.ownBlock = some j → j < w6.heap.size) := fun j e => (World.ownsRow.lt ho2 j e).2
      have HPO6 : Hid (∀ j, (Value.slice pa R.steps pq).ownBlock = some j → j < w6.heap.size) := fun j e => (World.ownsRow.lt HUO6.out j e).2
      clear ho2 b6 hl5 S5 Q5 Z45 HOA5 HUO
      go_upto_region 11 with fail
      have r46 : w6.rangeAt w.heap.size 0 m.proc := bl_range Z46.out
      refine wp_region_list ?_
      refine wpList_load_g (op := { dst := some 74, op := Go.Op.load 26 (Go.Operand.tmp 4), type := 26, pos := "outright.go:52", after := #[], guard := none }) (by rfl) 26 (.tmp 4) rfl w.heap.size (0) rfl m.proc _ r46 HU.out rfl HI.out ?_
      simp only [Act.put, List.setIfInBounds_toArray, List.set_cons_zero, List.set_cons_succ]
      refine wpList_tail (pre := [{ dst := some 13, op := Go.Op.alloc 26, type := 0, pos := "outright.go:52", after := #[], guard := none }]) _ ?_
      intro tl htl
      have HTL := hide htl
      clear htl
      simp only [List.cons_append, List.nil_append]
      go_wp2_with fail
      have htl := HTL.out
      clear HTL
      subst htl
      refine wpList_store_new (op := { dst := none, op := Go.Op.store 26 (Go.Operand.tmp 13) (Go.Operand.tmp 74), type := 0, pos := "outright.go:52", after := #[{ on := 1, ground := Go.Ground.data }, { on := 0, ground := Go.Ground.data }, { on := 0, ground := Go.Ground.phase }, { on := 1, ground := Go.Ground.phase }], guard := none }) rfl 26 (.tmp 13) (.tmp 74) rfl m.proc.toArray rfl rfl (by rw [List.size_toArray]; exact HI.out) (show (21 : Nat) = m.proc.toArray.size by rw [show m.proc.toArray.size = m.proc.length from List.size_toArray, HPL.out]) (all_oneCell_toArray (proc_one m)) ?_
      simp only [Act.put, List.setIfInBounds_toArray, List.set_cons_zero, List.set_cons_succ]
      go_upto_region 12 with fail
      obtain ⟨zq, hbq, hzq⟩ := one_alloc w6 m.proc.toArray 26
      have ZQ : Hid (Bl (w6.alloc (.cells m.proc.toArray 26)) w6.heap.size m.proc) := zq
      obtain ⟨x0, hx0⟩ := proc_0 m OK.out
      generalize w6.alloc (.cells m.proc.toArray 26) = W7 at *
      have q0 := ZQ.out.cell 0 _ hx0
      have y0 := ZQ.out.free 0
      have HBQ : Hid (Below w6.heap.size w6 (W7.setCell ⟨w6.heap.size, 0, none⟩ (.int .u32 0))) := hbq.setCell (p := ⟨w6.heap.size, 0, none⟩) (Nat.le_refl _) _
      have HZQ : Hid (Bl (W7.setCell ⟨w6.heap.size, 0, none⟩ (.int .u32 0)) w6.heap.size r0.m.proc) := by
        have := ZQ.out.set (k := 0) (by rw [HPL.out]; omega) (.int .u32 0)
        unfold Hid
        rw [HK0.out.2.2.2, from0_proc m OK.out]
        exact this
      have HSQ : Hid (w6.heap.size < (W7.setCell ⟨w6.heap.size, 0, none⟩ (.int .u32 0)).heap.size) := by unfold Hid; simp [World.setCell, hzq]
      have HO7 : Hid (POwn (W7.setCell ⟨w6.heap.size, 0, none⟩ (.int .u32 0)) w5.heap.size v2 r0.m.pages) := by
        have h1 := HO2.out.below hbq
        unfold Hid
        rw [HK0.out.2.2.2]
        exact own_far h1 (fun e => by have := HV2.out _ e; omega)
      have HOK0 : Hid (r0.m.Ok) := by unfold Hid; rw [HK0.out.2.2.2]; exact from0_ok OK.out
      clear zq hbq hzq hx0 ZQ r46
      go_upto_region 13 with fail
      clear q0 y0
      generalize W7.setCell ⟨w6.heap.size, 0, none⟩ (.int .u32 0) = W8 at *
      have HVN : Hid (v2.ownBlock ≠ some w6.heap.size) := fun e => by have := HV2.out _ e; omega
      clear HV2 HO2
      go_wp2
      go_loopw [12, 14] (fun v i wr => ∃ k : Nat, k ≤ R.steps ∧ i = .int .i64 (k : Int) ∧ Hid (POwn wr w5.heap.size v (Rn.go k r0).m.pages) ∧ Hid (v.ownBlock ≠ some w6.heap.size) ∧ Hid (Bl wr w6.heap.size (Rn.go k r0).m.proc) ∧ Hid ((Rn.go k r0).m.Ok ∧ (Rn.go k r0).m.zero) ∧ Hid (Below w6.heap.size w6 wr) ∧ Hid (w6.heap.size < wr.heap.size)) (fun _ i _ => R.steps - (intOf i).toNat)
      case atStart => exact ⟨0, by omega, rfl, HO7.out, HVN.out, HZQ.out, ⟨HOK0.out, HZ0.out⟩, HBQ.out, HSQ.out⟩
      case round =>
        obtain ⟨k, hk, rfl, hown, hvn, hbl, hok, hb, hsq⟩ := hrel
        have hl6 := L6.out
        have hkb : (k : Int) ≤ 400 := by have h1 := HLE.out; have h2 := HNN.out; omega
        have SR := hide (S6.out.below (by omega) hb.out)
        have t1 : wr.cell? ⟨w3.heap.size + 1, 1, none⟩ = some (.int .i64 (R.steps : Int)) := SR.out.cell 1 _ (by rw [HS1.out]; rfl)
        by_cases hlt : k < R.steps
        · obtain ⟨hk0, hks⟩ := HKI.out k hlt
          have hpk := HPA.out k hlt
          obtain ⟨M, hM⟩ : ∃ M, Rn.go k r0 = M := ⟨_, rfl⟩
          have HX : Hid (Rn.go (k + 1) r0 = ⟨M.m.step.1, M.m.step.2.1, M.m.step.2.2, M.steps + 1⟩) := by
            unfold Hid
            rw [Rn.go_succ, hM]
            rw [hM] at hk0
            unfold Rn.next
            rw [if_pos hk0]
          rw [hM] at hown hbl hok hpk
          have HUOR : Hid (UOwn wr W4.heap.size (.slice pa R.steps pq) PP) := HUO6.out.oth (o := none) ⟨hb.out.os, hb.out.tape, hb.out.output, hb.out.size, fun j hj _ => hb.out.block j hj⟩ (fun j _ => by simp)
          obtain ⟨g, rfl, hpc⟩ : ∃ g, pa = some ⟨g, 0, none⟩ ∧ wr.cell? ⟨g, k, none⟩ = some (.int .u32 (M.m.pc : Int)) := by
            have hl := HPAL.out
            rcases HUOR.out.2 with ⟨e, _⟩ | ⟨g, cp, cur, e, _⟩
            · simp only [Value.slice.injEq] at e
              omega
            · simp only [Value.slice.injEq] at e
              obtain ⟨rfl, -, rfl⟩ := e
              have hu := HUOR.out
              unfold UOwn at hu
              rw [hl] at hu
              have := World.ownsRow.cellAt hu k (by omega)
              refine ⟨g, rfl, ?_⟩
              rw [this, List.getElem?_map, hpk]
              rfl
          have hqc : wr.cell? ⟨w6.heap.size, 16, none⟩ = some (.int .u32 (M.m.pc : Int)) := hbl.out.cell 16 _ (proc_pc M.m hok.out.1)
          have HLT := hide hlt
          clear hpk hM hk0 hks HUOR hlt
          go_upto_region 16 with fail
          go_quiet (fail)
          have hdw := blw_drewN wr nq
          have hsz9 : (wr.drewN nq).heap.size = wr.heap.size := rfl
          have hown9 := hown.out.below hdw
          have hbl9 := hbl.out.below hsq.out hdw
          have hb9 : Below w6.heap.size w6 (wr.drewN nq) := hb.out.trans (hdw.mono (Nat.le_of_lt hsq.out))
          have hsq9 : w6.heap.size < (wr.drewN nq).heap.size := hsq.out
          have SR9 := hide (SR.out.below (by omega) hdw)
          clear hdw hsz9 t1 hpc hqc hown hbl hb hsq SR hl6
          generalize wr.drewN nq = W9 at *
          obtain ⟨va, ca, rfl, hpg, _⟩ := hown9.pgs hok.out.1.ok hok.out.1.most
          have HPG := hide hpg
          have HB9 := hide hb9
          have HBL9 := hide hbl9
          have HSQ9 := hide hsq9
          have D9 := hide (chain D6.out hb9)
          obtain ⟨X, hXX⟩ : ∃ X, Rn.go (k + 1) r0 = X := ⟨_, rfl⟩
          have HST : Hid (∀ (W : World), Below w.heap.size w W → Pgs W va M.m.pages.length ca M.m.pages → Calls Tryd.prog 14 #[.slice va M.m.pages.length ca, .agg M.m.proc.toArray] W fun e w' => ∃ v, e = .returned (.tuple #[v, .agg X.m.proc.toArray, .agg (stopL ⟨X.m, X.kind, X.code, 1⟩).toArray]) ∧ POwn w' W.heap.size v X.m.pages ∧ X.m.Ok ∧ Below W.heap.size W w') := fun W hW hp => by
            have := core_step_any va _ ca M.m W hp hok.out.1 A (HV.out.below hW)
            rw [one_run hok.out.2] at this
            rw [← hXX, HX.out]
            exact this
          have HXZ : Hid (X.m.zero) := by unfold Hid; rw [← hXX, HX.out]; exact step_zero hok.out.2
          have HXX := hide hXX
          have HSS2 : Hid (stl (stopL ⟨X.m, X.kind, X.code, 1⟩)) := stl_stop _
          have HS2 : Hid (stopL ⟨X.m, X.kind, X.code, 1⟩ = [.int .i64 (X.kind : Int), .int .i64 ((1 : Nat) : Int), .int .i64 X.code]) := rfl
          have HIM : Hid ((Tryd.prog.info? 26).map (·.size) = some M.m.proc.length) := by unfold Hid; rw [proc_len hok.out.1]; exact infoProc
          have r13 : W9.rangeAt w6.heap.size 0 M.m.proc := bl_range HBL9.out
          generalize hS2 : stopL ⟨X.m, X.kind, X.code, 1⟩ = S2 at *
          have HOKM := hide hok.out.1
          clear hXX hS2 HX hpg hb9 hbl9 hsq9 hown9 hok
          go_upto_region 18 with fail
          go_wp2_with (first | (refine wpList_load_mid (op := { dst := some 92, op := Go.Op.load 26 (Go.Operand.tmp 13), type := 26, pos := "outright.go:58", after := #[], guard := none }) rfl 26 (.tmp 13) rfl w6.heap.size 0 rfl M.m.proc _ r13 HU.out rfl HIM.out ?_) | fail)
          refine Calls.mono (HST.out W9 D9.out HPG.out) ?_
          rintro e w10 ⟨v10, rfl, hoB, okx, bB⟩
          have OKX := hide okx
          clear okx HST r13
          obtain ⟨t1B, t2B, ⟨j1B, j2B, j3B, j4B⟩, k1B, k2B, k3B, k4B⟩ := keepR w10 X.m S2 OKX.out HSS2.out
          have T1B := hide t1B
          have T2B := hide t2B
          have J1B := hide j1B
          have J2B := hide j2B
          have J3B := hide j3B
          have J4B := hide j4B
          have K1B := hide k1B
          have K2B := hide k2B
          have K3B := hide k3B
          have K4B := hide k4B
          have HOB := hide (hoB.below k3B)
          have D9' := hide (chain D9.out (chain bB k3B))
          have HBBB := hide (chain bB k3B)
          clear t1B t2B j1B j2B j3B j4B k1B k2B k3B k4B hoB
          go_upto_region 19 with (first | (refine wpList_store_mid (op := { dst := none, op := Go.Op.store 26 (Go.Operand.tmp 16) (Go.Operand.tmp 95), type := 0, pos := "outright.go:58", after := #[{ on := 7, ground := Go.Ground.data }, { on := 5, ground := Go.Ground.data }, { on := 9, ground := Go.Ground.chain }, { on := 0, ground := Go.Ground.phase }, { on := 1, ground := Go.Ground.phase }, { on := 2, ground := Go.Ground.phase }, { on := 3, ground := Go.Ground.phase }, { on := 4, ground := Go.Ground.phase }, { on := 5, ground := Go.Ground.phase }, { on := 6, ground := Go.Ground.textOnly Go.Departure.lateStores }, { on := 7, ground := Go.Ground.phase }, { on := 8, ground := Go.Ground.phase }, { on := 9, ground := Go.Ground.phase }], guard := none }) rfl 26 (.tmp 16) (.tmp 95) rfl w10.heap.size 0 X.m.proc.toArray rfl rfl T1B.out J1B.out J3B.out ?_) | (refine wpList_store_mid (op := { dst := none, op := Go.Op.store 32 (Go.Operand.tmp 17) (Go.Operand.tmp 96), type := 0, pos := "outright.go:58", after := #[{ on := 8, ground := Go.Ground.data }, { on := 6, ground := Go.Ground.data }, { on := 10, ground := Go.Ground.chain }, { on := 0, ground := Go.Ground.phase }, { on := 1, ground := Go.Ground.phase }, { on := 2, ground := Go.Ground.phase }, { on := 3, ground := Go.Ground.phase }, { on := 4, ground := Go.Ground.phase }, { on := 5, ground := Go.Ground.phase }, { on := 6, ground := Go.Ground.phase }, { on := 7, ground := Go.Ground.phase }, { on := 8, ground := Go.Ground.phase }, { on := 9, ground := Go.Ground.phase }, { on := 10, ground := Go.Ground.phase }], guard := none }) rfl 32 (.tmp 17) (.tmp 96) rfl (w10.heap.size + 1) 0 S2.toArray rfl rfl T2B.out J2B.out J4B.out ?_) | fail)
          simp only [Act.put]
          generalize (((w10.alloc (.cells #[.int .u32 0, .int .u32 0, .int .u32 0, .int .u32 0, .int .u32 0, .int .u32 0, .int .u32 0, .int .u32 0, .int .u32 0, .int .u32 0, .int .u32 0, .int .u32 0, .int .u32 0, .int .u32 0, .int .u32 0, .int .u32 0, .int .u32 0, .int .i64 0, .int .i64 0, .int .i64 0, .int .i64 0] 26)).alloc (.cells #[.int .i64 0, .int .i64 0, .int .i64 0] 32)).setCells w10.heap.size 0 X.m.proc).setCells (w10.heap.size + 1) 0 S2 = W11 at *
          have hl6 := L6.out
          have hs9 := HSQ9.out
          have SR11 := hide (SR9.out.below (by omega) HBBB.out)
          have HBL11 := hide (HBL9.out.below HSQ9.out HBBB.out)
          have HB11 : Hid (Below w6.heap.size w6 W11) := HB9.out.trans (HBBB.out.mono (Nat.le_of_lt HSQ9.out))
          have HVN11 : Hid (v10.ownBlock ≠ some w6.heap.size) := fun e => by
            have := (World.ownsRow.lt HOB.out _ e).1
            omega
          have HW5 : Hid (w5.heap.size ≤ W9.heap.size ∧ w6.heap.size < W11.heap.size) := by have := HBBB.out.size; exact ⟨by omega, by omega⟩
          clear hl6 hs9 SR9 HBL9 HB9 HPG
          go_cut [132] from 77 to 134 (fun v wx => v = .bool false ∧ wx = W11)
          case first =>
            have f1 : W11.cell? ⟨w3.heap.size + 1, 1, none⟩ = some (.int .i64 (R.steps : Int)) := SR11.out.cell 1 _ (by rw [HS1.out]; rfl)
            have g1 : W11.cell? ⟨w10.heap.size + 1, 1, none⟩ = some (.int .i64 1) := K2B.out.cell 1 _ (by rw [HS2.out]; rfl)
            by_cases h1 : k + 1 < R.steps
            · --
              as_aux_lemma =>
                have hxk := (HKI.out (k + 1) h1).1
                rw [HXX.out] at hxk
                have g0 : W11.cell? ⟨w10.heap.size + 1, 0, none⟩ = some (.int .i64 0) := K2B.out.cell 0 _ (by rw [HS2.out, hxk]; rfl)
                have e1 : decide ((k : Int) + 1 < (R.steps : Int)) = true := by simp; omega
                have e2 : ((k : Int) + 1 == (R.steps : Int)) = false := by rw [beq_eq_false_iff_ne]; omega
                clear hxk h1
                go_wp2
                go_meet
                case rel => exact ⟨rfl, rfl⟩
            · --
              as_aux_lemma =>
                have hke : k + 1 = R.steps := by have := HLT.out; omega
                have hxr : X = R := by rw [← HXX.out, hke]; exact HBK.out
                have f0 : W11.cell? ⟨w3.heap.size + 1, 0, none⟩ = some (.int .i64 (R.kind : Int)) := SR11.out.cell 0 _ (by rw [HS1.out]; rfl)
                have f2 : W11.cell? ⟨w3.heap.size + 1, 2, none⟩ = some (.int .i64 R.code) := SR11.out.cell 2 _ (by rw [HS1.out]; rfl)
                have g0 : W11.cell? ⟨w10.heap.size + 1, 0, none⟩ = some (.int .i64 (R.kind : Int)) := K2B.out.cell 0 _ (by rw [HS2.out, hxr]; rfl)
                have g2 : W11.cell? ⟨w10.heap.size + 1, 2, none⟩ = some (.int .i64 R.code) := K2B.out.cell 2 _ (by rw [HS2.out, hxr]; rfl)
                have e1 : decide ((k : Int) + 1 < (R.steps : Int)) = false := by simp; omega
                have e2 : ((k : Int) + 1 == (R.steps : Int)) = true := by rw [beq_iff_eq]; omega
                clear hxr hke h1
                go_wp2
                go_meet
                case rel => exact ⟨rfl, rfl⟩
          case rest =>
            as_aux_lemma =>
              obtain ⟨rfl, hwc⟩ := hcut
              obtain rfl : W11 = wc := hwc.symm
              have rX : W11.rangeAt w10.heap.size 0 X.m.proc := bl_range K1B.out
              have HIX : Hid ((Tryd.prog.info? 26).map (·.size) = some X.m.proc.length) := by unfold Hid; rw [proc_len OKX.out]; exact infoProc
              have TH : Hid (W11.there w6.heap.size 0 X.m.proc.toArray.size) := by
                have := bl_there HBL11.out
                rw [proc_len HOKM.out] at this
                unfold Hid
                rw [show X.m.proc.toArray.size = X.m.proc.length from List.size_toArray, proc_len OKX.out]
                exact this
              go_upto_region 22 with fail
              refine wp_region_list ?_
              refine wpList_load_g (op := { dst := some 134, op := Go.Op.load 26 (Go.Operand.tmp 16), type := 26, pos := "outright.go:63", after := #[], guard := none }) (by rfl) 26 (.tmp 16) rfl w10.heap.size (0) rfl X.m.proc _ rX HU.out rfl HIX.out ?_
              simp only [Act.put, List.setIfInBounds_toArray, List.set_cons_zero, List.set_cons_succ]
              refine wpList_store_mid (op := { dst := none, op := Go.Op.store 26 (Go.Operand.tmp 13) (Go.Operand.tmp 134), type := 0, pos := "outright.go:63", after := #[{ on := 0, ground := Go.Ground.data }, { on := 0, ground := Go.Ground.phase }], guard := none }) rfl 26 (.tmp 13) (.tmp 134) rfl w6.heap.size 0 X.m.proc.toArray rfl rfl TH.out J1B.out J3B.out ?_
              simp only [Act.put, List.setIfInBounds_toArray, List.set_cons_zero, List.set_cons_succ]
              have HBX : Hid (Bl (W11.setCells w6.heap.size 0 X.m.proc) w6.heap.size X.m.proc) := bl_setCells HBL11.out (by rw [proc_len OKX.out, proc_len HOKM.out])
              have HOX : Hid (POwn (W11.setCells w6.heap.size 0 X.m.proc) w5.heap.size v10 X.m.pages) := own_farCells HVN11.out _ _ _ (HOB.out.weaken HW5.out.1)
              have HDX : Hid (Below w6.heap.size w6 (W11.setCells w6.heap.size 0 X.m.proc)) := below_setCells (Nat.le_refl _) _ _ _ HB11.out
              have HZX : Hid (w6.heap.size < (W11.setCells w6.heap.size 0 X.m.proc).heap.size) := by unfold Hid; rw [setCells_size]; exact HW5.out.2
              generalize W11.setCells w6.heap.size 0 X.m.proc = W12 at *
              clear rX TH
              go_wp2
              go_roundw
              case rel => exact ⟨k + 1, HLT.out, by go_num, by rw [HXX.out]; exact HOX.out, HVN11.out, by rw [HXX.out]; exact HBX.out, by rw [HXX.out]; exact ⟨OKX.out, HXZ.out⟩, HDX.out, HZX.out⟩
              case measure => have := HLT.out; simp [intOf]; omega
        · --
          as_aux_lemma =>
            have hke : k = R.steps := by omega
            have hMR : Rn.go k r0 = R := by rw [hke]; exact HBK.out
            rw [hMR] at hown hbl hok
            have t0 : wr.cell? ⟨w3.heap.size + 1, 0, none⟩ = some (.int .i64 (R.kind : Int)) := SR.out.cell 0 _ (by rw [HS1.out]; rfl)
            have QR := hide (Q6.out.below (by omega) hb.out)
            have HOAR := hide (HOA6.out.below hb.out)
            have HI1 : Hid ((Tryd.prog.info? 26).map (·.size) = some R.m.proc.length) := by unfold Hid; rw [proc_len OK1.out]; exact infoProc
            have HQ := hide (And.intro (bl_range hbl.out) (bl_range QR.out))
            have DR := hide (chain D6.out hb.out)
            have HSAME := hide (same_own hown.out HOAR.out OK1.out.ok OK1.out.most)
            have hge : decide ((k : Int) < (R.steps : Int)) = false := by simp; omega
            have HKE := hide hke
            have hge2 : R.steps ≤ k := by omega
            clear hMR hke hk hl6 hbl hok hsq
            obtain ⟨va, ca, rfl, _, _⟩ := hown.out.pgs OK1.out.ok OK1.out.most
            obtain ⟨vb, cb, rfl, _, _⟩ := HOAR.out.pgs OK1.out.ok OK1.out.most
            go_upto_region 23 with fail
            go_cut [147] from 135 (fun v wx => v = .bool false ∧ wx = wr)
            case first =>
              by_cases hk0 : R.kind = 0
              · have k0 : ((R.kind : Int) == 0) = true := by simp [hk0]
                have hst := HEND.out hk0
                by_cases hp : 0 < nb
                · have e1 : ((R.steps : Int) != nb) = false := by have := HNN.out; rw [bne_eq_false_iff_eq]; omega
                  clear hk0 hst
                  go_wp2
                  go_meet
                  case rel => exact ⟨rfl, rfl⟩
                · have e1 : decide (0 < nb) = false := by simp; omega
                  clear hk0 hst hp
                  go_wp2
                  go_meet
                  case rel => exact ⟨rfl, rfl⟩
              · have k0 : ((R.kind : Int) == 0) = false := by rw [beq_eq_false_iff_ne]; omega
                clear hk0
                go_wp2
                go_meet
                case rel => exact ⟨rfl, rfl⟩
            case rest =>
              obtain ⟨rfl, hwc⟩ := hcut
              obtain rfl : wr = wc := hwc.symm
              go_upto_region 25 with fail
              refine wp_region_list ?_
              refine wpList_load_g (op := { dst := some 148, op := Go.Op.load 26 (Go.Operand.tmp 13), type := 26, pos := "outright.go:68", after := #[], guard := none }) (by rfl) 26 (.tmp 13) rfl w6.heap.size (0) rfl R.m.proc _ HQ.out.1 HU.out rfl HI1.out ?_
              simp only [Act.put, List.setIfInBounds_toArray, List.set_cons_zero, List.set_cons_succ]
              refine wpList_load_g (op := { dst := some 149, op := Go.Op.load 26 (Go.Operand.tmp 8), type := 26, pos := "outright.go:68", after := #[], guard := none }) (by rfl) 26 (.tmp 8) rfl w3.heap.size (0) rfl R.m.proc _ HQ.out.2 HU.out rfl HI1.out ?_
              simp only [Act.put, List.setIfInBounds_toArray, List.set_cons_zero, List.set_cons_succ]
              refine wpList_run_g (op := { dst := some 150, op := Go.Op.binOp Go.BinOp.eql 26 (Go.Operand.tmp 148) (Go.Operand.tmp 149) 26, type := 4, pos := "outright.go:68", after := #[{ on := 0, ground := Go.Ground.data }, { on := 1, ground := Go.Ground.data }], guard := none }) (by rfl) (.bool true) (eql_proc OK1.out _ (.tmp 148) (.tmp 149) rfl rfl _ _ rfl _) ?_
              simp only [Act.put, List.setIfInBounds_toArray, List.set_cons_zero, List.set_cons_succ]
              go_wp2_with fail
              refine Calls.mono HSAME.out ?_
              rintro e w8 ⟨rfl, b8⟩
              have D8 := hide (chain DR.out b8)
              clear b8
              go_wp2
              go_ret
              exact ⟨rfl, D8.out⟩
end Go.Proofs.YteopkgjkbhcicaaDoor.coreWalks
