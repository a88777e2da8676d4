/-
  The document's Equal of two tables that show the same.
-/
import Derived.Test.YtgbckpojoagbnaaGreatDoorRyRGood
import Derived.Test.YtgbckpojoagbnaaGreatDoorRyOwn
import Derived.Laws.StructEq
import Derived.Deep.QuietTactic
import Derived.Deep.MidRow
import Derived.BigQuiet
namespace Go.Proofs.YtgbckpojoagbnaaGreatDoor
open Go.RowKit
set_option linter.unusedVariables false
set_option linter.unusedSimpArgs false

theorem quiet_load_mid {P : Program} {w0 : World} {a : Act} {o : Oper} {K : Act → Prop} (ty : TypeId) (x : Operand) (ho : o.op = .load ty x)
    (b off : Nat) (hx : a.eval x = .pointer (some ⟨b, off, none⟩)) (cs : List Value) (d : TypeDesc) (hc : w0.rangeAt b off cs)
    (hu : P.underlying ty = some d) (hd : d.isRow = true) (hi : (P.info? ty).map (·.size) = some cs.length) (hk : K (a.put o.dst (.agg cs.toArray))) : o.quiet P a (fun w' => ∃ n, w' = w0.drewN n) K := by
  refine quiet_run _ (fun w hw => ?_) hk
  obtain ⟨n, rfl⟩ := hw
  have hc' : (w0.drewN n).rangeAt b off cs := hc
  unfold execOp
  simp only [ho, hx, Instr.loadAt, Instr.sureAddr, Sem.run_bind, Sem.run_pure, Result.andThen_ok, run_loadVar_mid _ b off ty cs d hc' hu hd hi]
theorem equalIn_self {P : Program} (w : World) (d : Nat) (t e : TypeId) (n : Nat) (k k' : IntKind) (ht : P.underlying t = some (.array n e)) (he : P.underlying e = some (.int k')) (hsz : ∀ w, (sizeOf e).run P w = .ok 1 w)
    (xs : List Int) (hx : xs.length = n) : (Op.equalIn (d + 2) t (.agg (xs.map (Value.int k)).toArray) (.agg (xs.map (Value.int k)).toArray)).run P w = .ok true w := by
  rw [Op.equalIn]
  simp only [Sem.run_bind, run_underlying ht, Result.andThen_ok, hsz, Std.Legacy.Range.forIn_eq_forIn_range', Std.Legacy.Range.size, Nat.sub_zero, Nat.add_sub_cancel, Nat.div_one]
  have hl : ∀ i ∈ List.range' 0 n 1, i < n := fun i hi => by simpa using (List.mem_range'_1.1 hi).2
  generalize List.range' 0 n 1 = l at hl ⊢
  induction l with
  | nil => simp
  | cons i l ih =>
    have hi : i < n := hl i (by simp)
    have px : (part e (xs.map (Value.int k)).toArray (i * 1)).run P w = .ok (.int k (xs.getD i 0)) w := by
      simp [part, isAgg, run_underlying he, List.getD, List.getElem?_eq_getElem (show i < xs.length by omega)]
    have pe : (Op.equalIn (d + 1) e (.int k (xs.getD i 0)) (.int k (xs.getD i 0))).run P w = .ok true w := by
      rw [run_equalIn_int w d e k k' _ _ he, beq_self_eq_true]
    simp only [List.forIn_cons, Sem.run_bind, px, pe, Result.andThen_ok]
    simp only [Bool.not_true, Bool.false_eq_true, if_false, Sem.run_pure, Result.andThen_ok]
    exact ih fun j hj => hl j (by simp [hj])
def Pro.regs (p : Pro) : List Int := [p.r0, p.r1, p.r2, p.r3, p.r4, p.r5, p.r6, p.r7, p.r8, p.r9, p.r10, p.r11, p.r12, p.r13, p.r14, p.r15]
theorem sizeU32 : ∀ w, (sizeOf 27).run Tryz.prog w = .ok 1 w := by
  intro w
  have h : (Tryz.prog.info? 27).map (·.size) = some 1 := by kernel_rfl
  cases hq : Tryz.prog.info? 27 with
  | none => simp [hq] at h
  | some i => simp [sizeOf, typeInfo, hq]; simpa [hq] using h
theorem sizeRegs : (Tryz.prog.info? 57).map (·.size) = some 16 := by kernel_rfl
theorem part_regs (p : Pro) (w : World) : (part 57 p.cells.toArray 0).run Tryz.prog w = .ok (.agg (p.regs.map (Value.int .u32)).toArray) w := by
  have hs := sizeRegs
  cases hq : Tryz.prog.info? 57 with
  | none => simp [hq] at hs
  | some i =>
    have hi : i.size = 16 := by simpa [hq] using hs
    have he : List.take 16 (List.drop 0 p.cells) = p.regs.map (Value.int .u32) := rfl
    simp [part, isAgg, run_underlying Tryz.underlying57, sizeOf, typeInfo, hq, hi, Pro.cells, Pro.regs]
theorem structPro : Tryz.prog.underlying 59 = some (.struct (Tryz.prog.fieldsOf 59)) := by
  simp only [Program.fieldsOf, Tryz.underlying59]
theorem heldPro : Tryz.prog.stoodInHeld 59 = false := by kernel_rfl
theorem eqFields6 {P : Program} (w : World) (d : Nat) (xs : Array Value) (f0 f1 f2 f3 f4 f5 : Field) (n0 : f0.name ≠ "_") (n1 : f1.name ≠ "_") (n2 : f2.name ≠ "_") (n3 : f3.name ≠ "_") (n4 : f4.name ≠ "_") (n5 : f5.name ≠ "_") (x0 x1 x2 x3 x4 x5 : Value)
    (a0 : (part f0.type xs f0.offset).run P w = .ok x0 w) (a1 : (part f1.type xs f1.offset).run P w = .ok x1 w) (a2 : (part f2.type xs f2.offset).run P w = .ok x2 w) (a3 : (part f3.type xs f3.offset).run P w = .ok x3 w) (a4 : (part f4.type xs f4.offset).run P w = .ok x4 w) (a5 : (part f5.type xs f5.offset).run P w = .ok x5 w)
    (e0 : (Op.equalIn d f0.type x0 x0).run P w = .ok true w) (e1 : (Op.equalIn d f1.type x1 x1).run P w = .ok true w) (e2 : (Op.equalIn d f2.type x2 x2).run P w = .ok true w) (e3 : (Op.equalIn d f3.type x3 x3).run P w = .ok true w) (e4 : (Op.equalIn d f4.type x4 x4).run P w = .ok true w) (e5 : (Op.equalIn d f5.type x5 x5).run P w = .ok true w) :
    (Op.eqFields d xs xs [f0, f1, f2, f3, f4, f5]).run P w = .ok true w := by
  simp only [Op.eqFields, if_pos n0, if_pos n1, if_pos n2, if_pos n3, if_pos n4, if_pos n5, Sem.run_bind, Sem.run_ite, a0, a1, a2, a3, a4, a5, Result.andThen_ok, e0, e1, e2, e3, e4, e5, Bool.not_true, Bool.false_eq_true, if_false, Sem.run_pure]
theorem same_pro (d : Nat) (p : Pro) (w : World) : (Op.equalIn (d + 2 + 1) 59 (.agg p.cells.toArray) (.agg p.cells.toArray)).run Tryz.prog w = .ok true w := by
  rw [run_equalIn_struct (P := Tryz.prog) w (d + 2) 59 _ _ structPro heldPro]
  have a0 := part_regs p w
  have a1 : (part 27 p.cells.toArray 16).run Tryz.prog w = .ok (.int .u32 p.pc) w := part_plain Tryz.underlying27 rfl rfl w
  have a2 : (part 3 p.cells.toArray 17).run Tryz.prog w = .ok (.int .i64 p.state) w := part_plain Tryz.underlying3 rfl rfl w
  have a3 : (part 3 p.cells.toArray 18).run Tryz.prog w = .ok (.int .i64 p.prio) w := part_plain Tryz.underlying3 rfl rfl w
  have a4 : (part 3 p.cells.toArray 19).run Tryz.prog w = .ok (.int .i64 p.wait) w := part_plain Tryz.underlying3 rfl rfl w
  have a5 : (part 3 p.cells.toArray 20).run Tryz.prog w = .ok (.int .i64 p.obj) w := part_plain Tryz.underlying3 rfl rfl w
  have e0 := equalIn_self (P := Tryz.prog) w d 57 27 16 .u32 .u32 Tryz.underlying57 Tryz.underlying27 sizeU32 p.regs rfl
  have e1 := run_equalIn_int (P := Tryz.prog) w (d + 1) 27 .u32 .u32 p.pc p.pc Tryz.underlying27
  have e2 := run_equalIn_int (P := Tryz.prog) w (d + 1) 3 .i64 .i64 p.state p.state Tryz.underlying3
  have e3 := run_equalIn_int (P := Tryz.prog) w (d + 1) 3 .i64 .i64 p.prio p.prio Tryz.underlying3
  have e4 := run_equalIn_int (P := Tryz.prog) w (d + 1) 3 .i64 .i64 p.wait p.wait Tryz.underlying3
  have e5 := run_equalIn_int (P := Tryz.prog) w (d + 1) 3 .i64 .i64 p.obj p.obj Tryz.underlying3
  have hfo := structPro
  rw [Tryz.underlying59] at hfo
  simp only [Option.some.injEq, TypeDesc.struct.injEq] at hfo
  rw [← hfo]
  rw [beq_self_eq_true] at e1 e2 e3 e4 e5
  exact eqFields6 w (d + 2) _ _ _ _ _ _ _ (by decide) (by decide) (by decide) (by decide) (by decide) (by decide) _ _ _ _ _ _ a0 a1 a2 a3 a4 a5 e0 e1 e2 e3 e4 e5
theorem neq_pro (p : Pro) (w : World) : (binOp .neq 59 (.agg p.cells.toArray) (.agg p.cells.toArray)).run Tryz.prog w = .ok (.bool false) w := by
  rw [run_neq_struct, same_pro 9997 p w]
  rfl
theorem neq_tm_self (x : Tm) (w : World) : (binOp .neq 61 (.agg x.cells.toArray) (.agg x.cells.toArray)).run Tryz.prog w = .ok (.bool false) w := by
  have := neq_tm x x w
  simp only [beq_self_eq_true, Bool.and_self, Bool.not_true] at this
  exact this
theorem sizeTm : (Tryz.prog.info? 61).map (·.size) = some 2 := by kernel_rfl

set_option maxRecDepth 100000 in
set_option maxHeartbeats 4000000 in
theorem requal_same (w : World) (pa : Option Addr) (pn pc : Nat) (l : List Pro) (hp : Pros w pa pn pc l) (ra : Option Addr) (rn rc : Nat) (r : List Int) (hr : Is w ra rn rc r) (ta : Option Addr) (tn tc : Nat) (t : List Tm) (ht : Tms w ta tn tc t)
    (pa' : Option Addr) (pc' : Nat) (hp' : Pros w pa' pn pc' l) (ra' : Option Addr) (rc' : Nat) (hr' : Is w ra' rn rc' r) (ta' : Option Addr) (tc' : Nat) (ht' : Tms w ta' tn tc' t) (hmp : pn ≤ 9223372036854775807) (hmr : rn ≤ 9223372036854775807) (hmt : tn ≤ 9223372036854775807) :
    Calls Tryz.prog 32 #[.agg #[.slice pa pn pc, .slice ra rn rc, .slice ta tn tc], .agg #[.slice pa' pn pc', .slice ra' rn rc', .slice ta' tn tc']] w fun e w' => e = .returned (.bool true) ∧ Below w.heap.size w w' := by
  have X1 := new_below w (.cells #[.slice pa pn pc, .slice ra rn rc, .slice ta tn tc] 26)
  have X2 := new_below (w.alloc (.cells #[.slice pa pn pc, .slice ra rn rc, .slice ta tn tc] 26)) (.cells #[.slice pa' pn pc', .slice ra' rn rc', .slice ta' tn tc'] 26)
  have BX0 : Bl (w.alloc (.cells #[.slice pa pn pc, .slice ra rn rc, .slice ta tn tc] 26)) w.heap.size [.slice pa pn pc, .slice ra rn rc, .slice ta tn tc] := bl_alloc w #[.slice pa pn pc, .slice ra rn rc, .slice ta tn tc] 26
  have BX := hide (BX0.below (by simp) X2)
  have BG : Hid (Bl ((w.alloc (.cells #[.slice pa pn pc, .slice ra rn rc, .slice ta tn tc] 26)).alloc (.cells #[.slice pa' pn pc', .slice ra' rn rc', .slice ta' tn tc'] 26)) (w.heap.size + 1) [.slice pa' pn pc', .slice ra' rn rc', .slice ta' tn tc']) := by
    have := bl_alloc (w.alloc (.cells #[.slice pa pn pc, .slice ra rn rc, .slice ta tn tc] 26)) #[.slice pa' pn pc', .slice ra' rn rc', .slice ta' tn tc'] 26
    rw [show (w.alloc (.cells #[.slice pa pn pc, .slice ra rn rc, .slice ta tn tc] 26)).heap.size = w.heap.size + 1 by simp] at this
    exact this
  have HB0 := hide (chain X1 X2)
  have hz : Hid (w.heap.size + 1 < ((w.alloc (.cells #[.slice pa pn pc, .slice ra rn rc, .slice ta tn tc] 26)).alloc (.cells #[.slice pa' pn pc', .slice ra' rn rc', .slice ta' tn tc'] 26)).heap.size) := by unfold Hid; simp
  have HS := hide (hp.below HB0.out)
  have HI := hide (hr.below HB0.out)
  have HT := hide (ht.below HB0.out)
  have HS' := hide (hp'.below HB0.out)
  have HI' := hide (hr'.below HB0.out)
  have HT' := hide (ht'.below HB0.out)
  have HL : Hid (l.length = pn) := hp.size
  have HLT : Hid (t.length = tn) := ht.size
  clear X1 X2 BX0 hp hr ht hp' hr' ht'
  go_enter Tryz.func32, Tryz.ntmps32
  go_upto_region 1 with fail
  generalize ((w.alloc (.cells #[.slice pa pn pc, .slice ra rn rc, .slice ta tn tc] 26)).alloc (.cells #[.slice pa' pn pc', .slice ra' rn rc', .slice ta' tn tc'] 26)) = W0 at *
  have b0 := BX.out.cell 0 _ rfl
  have b1 := BX.out.cell 1 _ rfl
  have b2 := BX.out.cell 2 _ rfl
  have g0 := BG.out.cell 0 _ rfl
  have g1 := BG.out.cell 1 _ rfl
  have g2 := BG.out.cell 2 _ rfl
  go_wp2_with fail
  refine Calls.mono (equalInts_any W0 ra rn rc r HI.out ra' rn rc' r HI'.out hmr hmr) ?_
  rintro e w1 ⟨rfl, x1⟩
  rw [decide_eq_true rfl]
  have HW1 := hide x1
  clear x1 b0 b1 b2 g0 g1 g2
  go_wp2
  go_loopw [5] (fun i wr => ∃ k : Nat, k ≤ pn ∧ i = .int .i64 (k : Int) ∧ Hid (Below W0.heap.size W0 wr)) (fun i _ => pn - (intOf i).toNat)
  case atStart => exact ⟨0, by omega, rfl, HW1.out⟩
  case round =>
    obtain ⟨k, hk, rfl, hb⟩ := hrel
    have b0 := (BX.out.below (Nat.lt_of_succ_lt hz.out) hb.out).cell 0 _ rfl
    have g0 := (BG.out.below hz.out hb.out).cell 0 _ rfl
    by_cases hlt : k < pn
    · obtain ⟨p, hp⟩ : ∃ p, l[k]? = some p := ⟨_, List.getElem?_eq_getElem (by rw [HL.out]; exact hlt)⟩
      obtain ⟨b, off, rfl, hr1⟩ := (HS.out.below hb.out).at pro21 (by decide) hp
      obtain ⟨b', off', rfl, hr2⟩ := (HS'.out.below hb.out).at pro21 (by decide) hp
      have hu41 := Tryz.underlying59
      have hi1 : (Tryz.prog.info? 59).map (·.size) = some p.cells.length := sizeProc
      have hne : ∀ w, (binOp .neq 59 (.agg p.cells.toArray) (.agg p.cells.toArray)).run Tryz.prog w = .ok (.bool false) w := fun w => neq_pro p w
      have hk1 : (k : Int) < (pn : Int) := by omega
      clear hp
      generalize p.cells = cs at *
      go_wp2
      refine wp_region_quiet_lit (by kernel_rfl) (by kernel_rfl) ?_
      repeat (first
        | (go_big_quiet_want; refine quiet_load_mid 59 (.tmp 41) rfl b (off + k * 21) rfl cs _ hr1 hu41 rfl hi1 ?_; simp only [Act.put, List.setIfInBounds_toArray, List.set_cons_succ, List.set_cons_zero]; go_big_quiet_on)
        | (go_big_quiet_want; refine quiet_load_mid 59 (.tmp 46) rfl b' (off' + k * 21) rfl cs _ hr2 hu41 rfl hi1 ?_; simp only [Act.put, List.setIfInBounds_toArray, List.set_cons_succ, List.set_cons_zero]; go_big_quiet_on)
        | (go_big_quiet_want; refine quiet_neq 59 59 (.tmp 42) (.tmp 47) rfl _ _ rfl rfl (by kernel_rfl) _ hne ?_; simp only [Act.put, List.setIfInBounds_toArray, List.set_cons_succ, List.set_cons_zero]; go_big_quiet_on)
        | go_big_quiet_step (fail))
      refine wpQuiet_nil ?_
      intro _ hw'
      obtain ⟨nq, rfl⟩ := hw'
      clear hne hr1 hr2 hu41 hi1
      go_wp2
      go_roundw
      case rel => exact ⟨k + 1, by omega, by go_num, drewN_below hb.out nq⟩
      case measure => simp [intOf]; omega
    · obtain rfl : k = pn := by omega
      go_wp2
      clear b0 g0
      have HB2 := hide hb.out
      clear hb
      go_loopw [6] (fun i ws => ∃ q : Nat, q ≤ tn ∧ i = .int .i64 (q : Int) ∧ Hid (Below W0.heap.size W0 ws)) (fun i _ => tn - (intOf i).toNat)
      case atStart => exact ⟨0, by omega, rfl, HB2.out⟩
      case round =>
        obtain ⟨q, hq, rfl, hb⟩ := hrel
        have b2 := (BX.out.below (Nat.lt_of_succ_lt hz.out) hb.out).cell 2 _ rfl
        have g2 := (BG.out.below hz.out hb.out).cell 2 _ rfl
        by_cases hlt : q < tn
        · obtain ⟨p, hp⟩ : ∃ p, t[q]? = some p := ⟨_, List.getElem?_eq_getElem (by rw [HLT.out]; exact hlt)⟩
          obtain ⟨b, off, rfl, hr1⟩ := (HT.out.below hb.out).at tm2 (by decide) hp
          obtain ⟨b', off', rfl, hr2⟩ := (HT'.out.below hb.out).at tm2 (by decide) hp
          have hu41 := Tryz.underlying61
          have hi1 : (Tryz.prog.info? 61).map (·.size) = some p.cells.length := sizeTm
          have hne : ∀ w, (binOp .neq 61 (.agg p.cells.toArray) (.agg p.cells.toArray)).run Tryz.prog w = .ok (.bool false) w := fun w => neq_tm_self p w
          have hk1 : (q : Int) < (tn : Int) := by omega
          clear hp
          generalize p.cells = cs at *
          go_wp2
          refine wp_region_quiet_lit (by kernel_rfl) (by kernel_rfl) ?_
          repeat (first
            | (go_big_quiet_want; refine quiet_load_mid 61 (.tmp 59) rfl b (off + q * 2) rfl cs _ hr1 hu41 rfl hi1 ?_; simp only [Act.put, List.setIfInBounds_toArray, List.set_cons_succ, List.set_cons_zero]; go_big_quiet_on)
            | (go_big_quiet_want; refine quiet_load_mid 61 (.tmp 64) rfl b' (off' + q * 2) rfl cs _ hr2 hu41 rfl hi1 ?_; simp only [Act.put, List.setIfInBounds_toArray, List.set_cons_succ, List.set_cons_zero]; go_big_quiet_on)
            | (go_big_quiet_want; refine quiet_neq 61 61 (.tmp 60) (.tmp 65) rfl _ _ rfl rfl (by kernel_rfl) _ hne ?_; simp only [Act.put, List.setIfInBounds_toArray, List.set_cons_succ, List.set_cons_zero]; go_big_quiet_on)
            | go_big_quiet_step (fail))
          refine wpQuiet_nil ?_
          intro _ hw'
          obtain ⟨nq, rfl⟩ := hw'
          clear hne hr1 hr2 hu41 hi1
          go_wp2
          go_roundw
          case rel => exact ⟨q + 1, by omega, by go_num, drewN_below hb.out nq⟩
          case measure => simp [intOf]; omega
        · obtain rfl : q = tn := by omega
          go_wp2
          go_ret
          exact ⟨rfl, HB0.out.trans (hb.out.mono HB0.out.size)⟩
end Go.Proofs.YtgbckpojoagbnaaGreatDoor
