/-
  One step of the document's machine.
-/
import Derived.Test.YtegkodgondlcmaaDoorCmDoc
import Derived.Deep.Cut
import Derived.BigQuiet
import Derived.Deep.QuietTactic
namespace Go.Proofs.YtegkodgondlcmaaDoor
open Go.RowKit FerryCrc FerryAlu
set_option linter.unusedVariables false
set_option linter.unusedSimpArgs false

theorem heldD {W wz : World} {mb base : Nat} {v : Value} {m : Mc} {x y z : Int} (hm : DAt W mb base v m x y z) (hb : Below W.heap.size W wz) : wz.cell? ⟨mb, 0, none⟩ = some v ∧ wz.cell? ⟨mb, 17, none⟩ = some (.int .u32 (m.pc : Int)) :=
  ⟨(hm.m.below hb).pages, (hm.m.below hb).pc⟩
theorem dat_zero {w : World} {mb base : Nat} {v : Value} {m : Mc} {x y z : Int} (h : DAt w mb base v m x y z) (hz : m.zero) : w.cell? ⟨mb, 1, none⟩ = some (.int .u32 0) ∧ DAt (w.setCell ⟨mb, 1, none⟩ (.int .u32 0)) mb base v m x y z := by
  have hc := h.m.reg (k := 0) (by decide)
  have hr : m.reg 0 = 0 := by unfold Mc.reg; rw [List.getD_eq_getElem?_getD, hz]; rfl
  rw [hr] at hc
  refine ⟨hc, h.setCell (by omega) _ ?_⟩
  have hl := proc_len h.m.ok
  have hb := h.m.bl.set (k := 1) (by simp [hl]) (.int .u32 0)
  have he : (v :: m.proc).set 1 (.int .u32 0) = v :: m.proc := by
    have h1 := from0_proc h.m.ok
    rw [from0_same hz] at h1
    show v :: m.proc.set 0 (.int .u32 0) = _
    rw [← h1]
  rw [he] at hb
  exact ⟨hb, own_far h.m.own h.m.ne, h.m.ne, h.m.ok, h.m.le, by simpa [World.setCell] using h.m.lt, by simpa [World.setCell] using h.m.size⟩
theorem undrewD {W w' : World} (b : Below W.drew.heap.size W.drew w') : Below W.heap.size W w' := ⟨b.os, b.tape, b.output, b.size, b.block⟩

set_option maxRecDepth 100000 in
set_option maxHeartbeats 8000000 in
theorem rstep_any {w : World} {mb base : Nat} {v : Value} {m : Mc} {x y z : Int} (h : DAt w mb base v m x y z) (hz : m.zero) :
    Calls Tryd.prog 23 #[.pointer (some ⟨mb, 0, none⟩)] w fun e w' => e = .returned (.tuple #[]) ∧ (∃ v', DAt w' mb base v' m.step.1 ((m.step.2.1 : Nat) : Int) 1 m.step.2.2) ∧ Oth (some mb) w w' := by
  obtain ⟨pa, pq, rfl, _, _⟩ := h.m.own.pgs h.m.ok.ok h.m.ok.most
  obtain ⟨c1, hd1⟩ := dat_zero h hz
  have f1 := h.m.bl.free 1
  have HD := hide hd1
  have HO := hide ((Oth.refl (some mb) w).setCell (j := 1) (.int .u32 0))
  clear h hz hd1
  go_enter Tryd.func23, Tryd.ntmps23
  go_upto_region 1 with fail
  clear c1 f1
  generalize w.setCell ⟨mb, 1, none⟩ (.int .u32 0) = W1 at *
  have HF2 : Hid (∀ W, Below W1.heap.size W1 W → Calls Tryd.prog 31 #[.slice pa m.pages.length pq, .int .u32 (m.pc : Int)] W fun e w' => e = .returned (.tuple #[.agg (fIns m.pages m.pc).cells, .int .i64 ((fCode m.pages m.pc : Nat) : Int)]) ∧ Below W.heap.size W w') := fun W hW => rcoreFetch_any pa m.pages.length pq m.pages m.pc W (HD.out.m.below hW).pgs.1 HD.out.m.ok.pc
  have HFI : Hid (fCode m.pages m.pc = 0 → okI (fIns m.pages m.pc) = true) := fIns_ok
  have HSTEP : Hid (m.step = if fCode m.pages m.pc ≠ 0 then (m, 2, (fCode m.pages m.pc : Int)) else if (m.doI (fIns m.pages m.pc)).2 ≠ 0 then (m, 2, ((m.doI (fIns m.pages m.pc)).2 : Int)) else if (fIns m.pages m.pc).op = 64 then ((m.doI (fIns m.pages m.pc)).1, 1, (fIns m.pages m.pc).imm) else ((m.doI (fIns m.pages m.pc)).1, 0, 0)) := rfl
  generalize fIns m.pages m.pc = I at *
  generalize fCode m.pages m.pc = F at *
  obtain ⟨o, p, q, r, s⟩ := I
  unfold Ins.cells at HF2
  go_cut [2, 3] from 33 (fun v2 v3 wx => ∃ g : Nat, v2 = .pointer (some ⟨g, 0, none⟩) ∧ v3 = .int .i64 (F : Int) ∧ Hid (Bl wx g [.int .i64 o, .int .i64 p, .int .i64 q, .int .i64 r, .int .i64 s]) ∧ Hid (Below W1.heap.size W1 wx) ∧ Hid (W1.heap.size ≤ g ∧ g < wx.heap.size))
  case first =>
    as_aux_lemma =>
      have r0 := HD.out.m.pages
      have r1 := HD.out.m.pc
      have HW := hide (Below.refl W1.heap.size W1)
      have HA : Hid (Below W1.heap.size W1 (W1.alloc (.cells #[.int .i64 0, .int .i64 0, .int .i64 0, .int .i64 0, .int .i64 0] 48)).drew) := ((Below.refl _ _).alloc (Nat.le_refl _) _).drew
      have HLb := hide (bl_alloc W1 #[.int .i64 0, .int .i64 0, .int .i64 0, .int .i64 0, .int .i64 0] 48)
      have HLs : Hid (W1.heap.size < (W1.alloc (.cells #[.int .i64 0, .int .i64 0, .int .i64 0, .int .i64 0, .int .i64 0] 48)).heap.size) := by unfold Hid; simp
      go_region_held3 (fun wz => wz.cell? ⟨mb, 0, none⟩ = some (.slice pa m.pages.length pq) ∧ wz.cell? ⟨mb, 17, none⟩ = some (.int .u32 (m.pc : Int)))
        (first | exact heldD HD.out HW.out | exact heldD HD.out HW.out.drew | exact heldD HD.out (HW.out.alloc HW.out.size _) | exact heldD HD.out (HW.out.alloc HW.out.size _).drew | exact heldD HD.out HX.out | exact heldD HD.out HX.out.drew)
        (first
          | (go_at_call 31; refine (HF2.out W1.drew HW.out.drew).mono ?_; rintro e wx ⟨rfl, bx⟩; have HW := hide (chain HW.out (undrewD bx)); clear bx)
          | (go_at_call 31; refine (HF2.out ((W1.alloc (.cells #[.int .i64 0, .int .i64 0, .int .i64 0, .int .i64 0, .int .i64 0] 48)).drew) HA.out).mono ?_; rintro e wx ⟨rfl, bx⟩; have HW := hide (chain HA.out bx); obtain ⟨z0, z1, z2, z3, z4⟩ := bl_get (HLb.out.below HLs.out (undrewD bx)); obtain ⟨y0, y1, y2, y3, y4⟩ := bl_free (HLb.out.below HLs.out (undrewD bx)); have HZ2 := hide ((HLb.out.below HLs.out (undrewD bx)).five (.int .i64 o) (.int .i64 p) (.int .i64 q) (.int .i64 r) (.int .i64 s)); have HX := hide (below_five HW.out (Nat.le_refl _) (.int .i64 o) (.int .i64 p) (.int .i64 q) (.int .i64 r) (.int .i64 s)); have HXS : Hid (W1.heap.size < wx.heap.size) := Nat.lt_of_lt_of_le HLs.out bx.size; clear bx)
          | fail)
      · have HBL := hide (bl_alloc wx #[.int .i64 o, .int .i64 p, .int .i64 q, .int .i64 r, .int .i64 s] 48)
        have HB5 : Hid (Below W1.heap.size W1 (wx.alloc (.cells #[.int .i64 o, .int .i64 p, .int .i64 q, .int .i64 r, .int .i64 s] 48))) := HW.out.alloc HW.out.size _
        have HG5 : Hid (wx.heap.size < (wx.alloc (.cells #[.int .i64 o, .int .i64 p, .int .i64 q, .int .i64 r, .int .i64 s] 48)).heap.size) := by unfold Hid; simp
        have HGW : Hid (W1.heap.size ≤ wx.heap.size) := HW.out.size
        go_wp2
        go_meet
        case rel => exact ⟨_, rfl, rfl, HBL.out, HB5.out, HGW.out, HG5.out⟩
      · have HG5 : Hid (W1.heap.size < (set5 wx W1.heap.size (.int .i64 o) (.int .i64 p) (.int .i64 q) (.int .i64 r) (.int .i64 s)).heap.size) := by unfold Hid set5; simpa [World.setCell] using HXS.out
        go_wp2
        go_meet
        case rel => exact ⟨_, rfl, rfl, HZ2.out, HX.out, Nat.le_refl _, HG5.out⟩
  case rest =>
    obtain ⟨g, rfl, rfl, HBL, HBW, HG⟩ := hcut
    have HD2 := hide (HD.out.below HBW.out)
    have HO2 : Hid (Oth (some mb) w wc) := HO.out.trans (Oth.ofBelow HBW.out)
    have hgm : g ≠ mb := fun e => by have := HD.out.m.lt; have := HG.out.1; omega
    have hmg : mb ≠ g := fun e => hgm e.symm
    have HGL : Hid (g < wc.heap.size) := HG.out.2
    have HML : Hid (mb < wc.heap.size) := HD2.out.m.lt
    clear HD HO HBW HG HF2
    by_cases hF : F = 0
    · subst hF
      have hok := HFI.out rfl
      obtain ⟨a, b, c, e, ha, hb, hc, i0, i1⟩ := ins_nat hok
      have hop := op_cases hok
      simp only at e hop i0 i1
      have HST : Hid (m.step = if (m.doI (mkI o a b c s)).2 ≠ 0 then (m, 2, ((m.doI (mkI o a b c s)).2 : Int)) else if o = 64 then ((m.doI (mkI o a b c s)).1, 1, s) else ((m.doI (mkI o a b c s)).1, 0, 0)) := by
        have := HSTEP.out
        rw [if_neg (fun h => h rfl), e] at this
        exact this
      unfold mkI at e
      simp only [Ins.mk.injEq, true_and, and_true] at e
      obtain ⟨rfl, rfl, rfl⟩ := e
      obtain ⟨q0, q1, q2, q3, q4⟩ := bl_get HBL.out
      have ra := HD2.out.m.reg ha
      have rb := HD2.out.m.reg hb
      have rc := HD2.out.m.reg hc
      have hla : (a : Int) < 16 := by omega
      have hlb : (b : Int) < 16 := by omega
      have hlc : (c : Int) < 16 := by omega
      have la := reg_lt HD2.out.m.ok a
      have lb := reg_lt HD2.out.m.ok b
      have lc := reg_lt HD2.out.m.ok c
      have p17 := HD2.out.m.pc
      have pl := HD2.out.m.ok.pc
      obtain ⟨nx, hnx⟩ : ∃ nx, (m.pc + 4) % 4294967296 = nx := ⟨_, rfl⟩
      have e4 : ((m.pc : Int) + 4) % 4294967296 = (nx : Int) := by omega
      have nl : nx < 4294967296 := by omega
      have HNX := hide hnx
      clear HFI HSTEP hok hnx
      have zl := un_lt s
      go_upto_region 4 with fail
      go_quiet (fail)
      have hdw := blw_drewN wc nq
      have HD2x := hide (HD2.out.below hdw)
      have HBLx := hide (HBL.out.below HGL.out hdw)
      have HO2x : Hid (Oth (some mb) w (wc.drewN nq)) := HO2.out.trans (Oth.ofBelow hdw)
      have HGLx : Hid (g < (wc.drewN nq).heap.size) := HGL.out
      have HMLx : Hid (mb < (wc.drewN nq).heap.size) := HML.out
      clear HD2 HBL HO2 HGL HML q0 q1 q2 q3 q4 ra rb rc p17 hdw
      have HD2 := HD2x
      have HBL := HBLx
      have HO2 := HO2x
      have HGL := HGLx
      have HML := HMLx
      clear HD2x HBLx HO2x HGLx HMLx
      generalize wc.drewN nq = V1 at *
      obtain ⟨q0, q1, q2, q3, q4⟩ := bl_get HBL.out
      have ra := HD2.out.m.reg ha
      have rb := HD2.out.m.reg hb
      have rc := HD2.out.m.reg hc
      have p17 := HD2.out.m.pc
      go_upto_region 5 with fail
      go_quiet (fail)
      have hdw := blw_drewN V1 nq
      have HD2x := hide (HD2.out.below hdw)
      have HBLx := hide (HBL.out.below HGL.out hdw)
      have HO2x : Hid (Oth (some mb) w (V1.drewN nq)) := HO2.out.trans (Oth.ofBelow hdw)
      have HGLx : Hid (g < (V1.drewN nq).heap.size) := HGL.out
      have HMLx : Hid (mb < (V1.drewN nq).heap.size) := HML.out
      clear HD2 HBL HO2 HGL HML q0 q1 q2 q3 q4 ra rb rc p17 hdw
      have HD2 := HD2x
      have HBL := HBLx
      have HO2 := HO2x
      have HGL := HGLx
      have HML := HMLx
      clear HD2x HBLx HO2x HGLx HMLx
      generalize V1.drewN nq = V2 at *
      obtain ⟨q0, q1, q2, q3, q4⟩ := bl_get HBL.out
      have ra := HD2.out.m.reg ha
      have rb := HD2.out.m.reg hb
      have rc := HD2.out.m.reg hc
      have p17 := HD2.out.m.pc
      go_upto_region 6 with fail
      go_quiet (fail)
      have hdw := blw_drewN V2 nq
      have HD2x := hide (HD2.out.below hdw)
      have HBLx := hide (HBL.out.below HGL.out hdw)
      have HO2x : Hid (Oth (some mb) w (V2.drewN nq)) := HO2.out.trans (Oth.ofBelow hdw)
      have HGLx : Hid (g < (V2.drewN nq).heap.size) := HGL.out
      have HMLx : Hid (mb < (V2.drewN nq).heap.size) := HML.out
      clear HD2 HBL HO2 HGL HML q0 q1 q2 q3 q4 ra rb rc p17 hdw
      have HD2 := HD2x
      have HBL := HBLx
      have HO2 := HO2x
      have HGL := HGLx
      have HML := HMLx
      clear HD2x HBLx HO2x HGLx HMLx
      generalize V2.drewN nq = V3 at *
      obtain ⟨q0, q1, q2, q3, q4⟩ := bl_get HBL.out
      have ra := HD2.out.m.reg ha
      have rb := HD2.out.m.reg hb
      have rc := HD2.out.m.reg hc
      have p17 := HD2.out.m.pc
      go_wp2_with fail
      refine Calls.mono (rword_any s _ i0 i1) ?_
      rintro e w' ⟨rfl, rfl⟩
      go_upto_region 9 with fail
      have hadr : m.adr (mkI o a b c s) = (m.reg b + un s) % 4294967296 := rfl
      obtain ⟨ad, had⟩ : ∃ ad, (m.reg b + un s) % 4294967296 = ad := ⟨_, rfl⟩
      rw [had] at hadr
      have e5 : ((m.reg b : Int) + ((un s : Nat) : Int)) % 4294967296 = (ad : Int) := by omega
      have al : ad < 4294967296 := by omega
      have HADR := hide hadr
      clear hadr had
      clear ra rb rc p17
      rcases hop with ⟨o1, o2⟩ | ⟨o1, o2⟩ | ⟨o1, o2⟩ | o1 | o1 | o1 | ⟨o1, o2⟩
      · --
        as_aux_lemma =>
          have d1 : decide (1 ≤ o) = true := decide_eq_true (by omega)
          have d2 : decide (o ≤ 15) = false := decide_eq_false (by omega)
          have k16 : (o == 16) = false := by rw [beq_eq_false_iff_ne]; omega
          have k17 : (o == 17) = false := by rw [beq_eq_false_iff_ne]; omega
          have k18 : (o == 18) = false := by rw [beq_eq_false_iff_ne]; omega
          have k19 : (o == 19) = false := by rw [beq_eq_false_iff_ne]; omega
          have k20 : (o == 20) = false := by rw [beq_eq_false_iff_ne]; omega
          have d3 : decide (32 ≤ o) = true := decide_eq_true (by omega)
          have d4 : decide (o ≤ 34) = true := decide_eq_true (by omega)
          have k64 : (o == 64) = false := by rw [beq_eq_false_iff_ne]; omega
          have HDI : Hid (m.doI (mkI o a b c s) = if nfault m.pages ad (szI o) 0 = 0 then ((m.setR a (ldv m.pages ad (szI o) 0)).setP nx, 0) else (m, nfault m.pages ad (szI o) 0)) := by
            unfold Hid Mc.doI
            rw [if_pos ⟨o1, o2⟩, HADR.out]
            show (if nfault m.pages ad (szI o) 0 = 0 then ((m.setR a (ldv m.pages ad (szI o) 0)).setP ((m.pc + 4) % 4294967296), 0) else (m, nfault m.pages ad (szI o) 0)) = _
            rw [HNX.out]
          have HLD : Hid (∀ n, Calls Tryd.prog 36 #[.slice pa m.pages.length pq, .int .u32 (ad : Int), .int .i64 ((szI o : Nat) : Int)] (V3.drewN n) fun e w' => e = .returned (.tuple #[.int .u32 ((ldv m.pages ad (szI o) 0 : Nat) : Int), .int .i64 ((nfault m.pages ad (szI o) 0 : Nat) : Int), .int .i64 0]) ∧ V3.drewN n = w') := fun n => refLoad_any pa m.pages.length pq m.pages ad (szI o) _ (HD2.out.m.below (blw_drewN V3 n)).pgs.1 al (szI_sized o)
          have HSZ : Hid (∀ w, Calls Tryd.prog 37 #[.int .i64 o] w fun e w' => e = .returned (.int .i64 ((szI o : Nat) : Int)) ∧ w = w') := rsize_any o
          have HLL := hide (ldv_lt2 HD2.out.m.ok ad (szI o) 0 (szI_sized o))
          have pp := HD2.out.m.pages
          generalize nfault m.pages ad (szI o) 0 = F1 at *
          generalize ldv m.pages ad (szI o) 0 = L1 at *
          generalize szI o = z1 at *
          go_upto_region 29 with fail
          go_quiet (first | (go_at_call 37; exact Calls.quiet_of_same ((HSZ.out _).mono fun _ _ h => ⟨h.1, h.2.symm⟩)) | (go_at_call 36; exact Calls.quiet_of_same ((HLD.out _).mono fun _ _ h => ⟨h.1, h.2.symm⟩)))
          clear pp
          have hdw := blw_drewN V3 nq
          have HD2x := hide (HD2.out.below hdw)
          have HBLx := hide (HBL.out.below HGL.out hdw)
          have HO2x : Hid (Oth (some mb) w (V3.drewN nq)) := HO2.out.trans (Oth.ofBelow hdw)
          have HGLx : Hid (g < (V3.drewN nq).heap.size) := HGL.out
          have HMLx : Hid (mb < (V3.drewN nq).heap.size) := HML.out
          clear HD2 HBL HO2 HGL HML q0 q1 q2 q3 q4 hdw
          have HD2 := HD2x
          have HBL := HBLx
          have HO2 := HO2x
          have HGL := HGLx
          have HML := HMLx
          clear HD2x HBLx HO2x HGLx HMLx
          generalize V3.drewN nq = V4 at *
          obtain ⟨q0, q1, q2, q3, q4⟩ := bl_get HBL.out
          by_cases hF : F1 = 0
          · have HR := HDI.out
            rw [if_pos hF] at HR
            have HSS : Hid (m.step = ((m.setR a L1).setP nx, 0, 0)) := by
              unfold Hid
              rw [HST.out, HR, if_neg (fun h => h rfl), if_neg (by omega)]
            subst hF
            clear HR HDI HLD HST o1 o2
            go_wp2_with fail
            refine Calls.mono (rset_any HD2.out a L1 ha HLL.out) ?_
            rintro e w2 ⟨rfl, hd, ho⟩
            have HBLx := hide (HBL.out.oth HGL.out ho (fun e => hmg (by injection e)))
            have HO2x := hide (HO2.out.trans ho)
            have HGLx : Hid (g < w2.heap.size) := Nat.lt_of_lt_of_le HGL.out ho.size
            have HMLx : Hid (mb < w2.heap.size) := Nat.lt_of_lt_of_le HML.out ho.size
            have HD2x := hide hd
            clear HD2 HBL HO2 HGL HML q0 q1 q2 q3 q4 hd ho
            have HD2 := HD2x
            have HBL := HBLx
            have HO2 := HO2x
            have HGL := HGLx
            have HML := HMLx
            clear HD2x HBLx HO2x HGLx HMLx
            obtain ⟨q0, q1, q2, q3, q4⟩ := bl_get HBL.out
            have p17 := HD2.out.m.pc
            have f17 := HD2.out.m.bl.free 17
            have s0 := HD2.out.s0
            have s1 := HD2.out.s1
            have s2 := HD2.out.s2
            have f22 := HD2.out.m.bl.free 22
            have f23 := HD2.out.m.bl.free 23
            have f24 := HD2.out.m.bl.free 24
            have HR := hide ((HD2.out.setP nl).stop 0 1 0)
            have HOR := hide (((((HO2.out.setCell (j := 17) (.int .u32 (nx : Int))).setCell (j := 22) (.int .i64 0)).setCell (j := 23) (.int .i64 1)).setCell (j := 24) (.int .i64 0)))
            go_wp2
            go_end0
            exact ⟨rfl, ⟨_, by rw [HSS.out]; exact HR.out⟩, HOR.out⟩
          · have HR := HDI.out
            rw [if_neg hF] at HR
            have d9 : ((F1 : Int) != 0) = true := by rw [bne_iff_ne]; omega
            have HSS : Hid (m.step = (m, 2, (F1 : Int))) := by
              unfold Hid
              rw [HST.out, HR, if_pos hF]
            clear HR HDI HLD HST o1 o2 hF
            go_wp2_with fail
            refine Calls.mono (rfault_any HD2.out (F1 : Int)) ?_
            rintro e w2 ⟨rfl, hd, ho⟩
            go_wp2
            refine bodyPost_ret (v := .tuple #[]) (results_none rfl _ _ _) rfl ?_
            exact ⟨rfl, ⟨_, by rw [HSS.out]; exact hd⟩, HO2.out.trans ho⟩
      · --
        as_aux_lemma =>
          have d1 : decide (1 ≤ o) = true := decide_eq_true (by omega)
          have d2 : decide (o ≤ 15) = false := decide_eq_false (by omega)
          have k16 : (o == 16) = false := by rw [beq_eq_false_iff_ne]; omega
          have k17 : (o == 17) = false := by rw [beq_eq_false_iff_ne]; omega
          have k18 : (o == 18) = false := by rw [beq_eq_false_iff_ne]; omega
          have k19 : (o == 19) = false := by rw [beq_eq_false_iff_ne]; omega
          have k20 : (o == 20) = false := by rw [beq_eq_false_iff_ne]; omega
          have d3 : decide (32 ≤ o) = true := decide_eq_true (by omega)
          have d4 : decide (o ≤ 34) = false := decide_eq_false (by omega)
          have d5 : decide (35 ≤ o) = true := decide_eq_true (by omega)
          have d6 : decide (o ≤ 37) = true := decide_eq_true (by omega)
          have k64 : (o == 64) = false := by rw [beq_eq_false_iff_ne]; omega
          have HDI : Hid (m.doI (mkI o a b c s) = if nfault m.pages ad (szI o) 1 = 0 then (({ m with pages := pkv m.pages ad (szI o) (m.reg a) } : Mc).setP nx, 0) else (m, nfault m.pages ad (szI o) 1)) := by
            unfold Hid Mc.doI
            rw [if_neg (by show ¬ (32 ≤ o ∧ o ≤ 34); omega), if_pos ⟨o1, o2⟩, HADR.out]
            show (if nfault m.pages ad (szI o) 1 = 0 then (({ m with pages := pkv m.pages ad (szI o) (m.reg a), pc := (m.pc + 4) % 4294967296 } : Mc), 0) else (m, nfault m.pages ad (szI o) 1)) = _
            rw [HNX.out]
            rfl
          have HSTO : Hid (∀ W, Below V3.heap.size V3 W → Calls Tryd.prog 38 #[.slice pa m.pages.length pq, .int .u32 (ad : Int), .int .i64 ((szI o : Nat) : Int), .int .u32 (m.reg a : Int)] W fun e w' => ∃ x, e = .returned (.tuple #[x, .int .i64 ((nfault m.pages ad (szI o) 1 : Nat) : Int), .int .i64 0]) ∧ POwn w' W.heap.size x (stv m.pages ad (szI o) (m.reg a)) ∧ Below W.heap.size W w') := fun W hW => refStore_any pa m.pages.length pq m.pages ad (szI o) (m.reg a) W (HD2.out.m.below hW).pgs.1 al (szI_sized o) la
          have HSZ : Hid (∀ w, Calls Tryd.prog 37 #[.int .i64 o] w fun e w' => e = .returned (.int .i64 ((szI o : Nat) : Int)) ∧ w = w') := rsize_any o
          have HPK : Hid (nfault m.pages ad (szI o) 1 = 0 → stv m.pages ad (szI o) (m.reg a) = pkv m.pages ad (szI o) (m.reg a)) := fun h => by
            unfold stv pkv
            rw [if_pos h, if_pos h]
          have HPO : Hid (Oks (pkv m.pages ad (szI o) (m.reg a)) ∧ (pkv m.pages ad (szI o) (m.reg a)).length = m.pages.length) := by
            unfold Hid pkv
            split
            · exact ⟨stored_ok HD2.out.m.ok.ok _ _ _, stored_len _ _ _ _⟩
            · exact ⟨HD2.out.m.ok.ok, rfl⟩
          generalize nfault m.pages ad (szI o) 1 = F1 at *
          generalize pkv m.pages ad (szI o) (m.reg a) = PK at *
          generalize stv m.pages ad (szI o) (m.reg a) = SV at *
          generalize szI o = z1 at *
          go_upto_region 34 with fail
          have HW := hide (Below.refl V3.heap.size V3)
          have k0 := HD2.out.m.pages
          have K0 := hide k0
          have HQ0 := hide q0
          clear k0
          clear q0 q1 q2 q3 q4
          refine wp_region_held_drew (S := fun wz => wz.cell? ⟨mb, 0, none⟩ = some (.slice pa m.pages.length pq) ∧ wz.cell? ⟨g, 0, none⟩ = some (.int .i64 o)) (by kernel_rfl) (show V3.drew.cell? _ = _ ∧ V3.drew.cell? _ = _ from ⟨K0.out, HQ0.out⟩) (fun hHeld => ?_)
          refine wpAnyH_take (i := 0) (oi := { dst := some 223, op := Go.Op.move (Go.Operand.tmp 0), type := 79, pos := "ref.go:116", after := #[], guard := none }) (v := ?_) rfl (by kernel_rfl) (by kernel_rfl) (by kernel_rfl) (fun _ _ _ h => h) (Or.inl ⟨by rfl, ?_⟩) (by assumption) ?_
          rotate_left
          · intro w hSw
            try dsimp only at hSw
            go_simp
            try with_reducible rfl
          simp only [Act.put, List.setIfInBounds_toArray, List.set_cons_zero, List.set_cons_succ]
          refine wpAnyH_take (i := 1) (oi := { dst := some 224, op := Go.Op.nilCheck (Go.Operand.tmp 223), type := 0, pos := "ref.go:116", after := #[{ on := 0, ground := Go.Ground.data }], guard := none }) (v := ?_) rfl (by kernel_rfl) (by kernel_rfl) (by kernel_rfl) (fun _ _ _ h => h) (Or.inl ⟨by rfl, ?_⟩) (by assumption) ?_
          rotate_left
          · intro w hSw
            try dsimp only at hSw
            go_simp
            try with_reducible rfl
          simp only [Act.put, List.setIfInBounds_toArray, List.set_cons_zero, List.set_cons_succ]
          refine wpAnyH_take (i := 2) (oi := { dst := some 225, op := Go.Op.fieldAddr 56 (Go.Operand.tmp 224) 0, type := 0, pos := "ref.go:116", after := #[{ on := 1, ground := Go.Ground.data }], guard := none }) (v := ?_) rfl (by kernel_rfl) (by kernel_rfl) (by kernel_rfl) (fun _ _ _ h => h) (Or.inl ⟨by rfl, ?_⟩) (by assumption) ?_
          rotate_left
          · intro w hSw
            try dsimp only at hSw
            go_simp
            try with_reducible rfl
          simp only [Act.put, List.setIfInBounds_toArray, List.set_cons_zero, List.set_cons_succ]
          refine wpAnyH_take (i := 3) (oi := { dst := some 226, op := Go.Op.load 22 (Go.Operand.tmp 225), type := 22, pos := "ref.go:116", after := #[{ on := 2, ground := Go.Ground.data }], guard := none }) (v := ?_) rfl (by kernel_rfl) (by kernel_rfl) (by kernel_rfl) (fun _ _ _ h => h) (Or.inl ⟨by rfl, ?_⟩) (by assumption) ?_
          rotate_left
          · intro w hSw
            try dsimp only at hSw
            go_simp
            try with_reducible rfl
          simp only [Act.put, List.setIfInBounds_toArray, List.set_cons_zero, List.set_cons_succ]
          refine wpAnyH_take (i := 4) (oi := { dst := some 227, op := Go.Op.move (Go.Operand.tmp 5), type := 23, pos := "ref.go:116", after := #[], guard := none }) (v := ?_) rfl (by kernel_rfl) (by kernel_rfl) (by kernel_rfl) (fun _ _ _ h => h) (Or.inl ⟨by rfl, ?_⟩) (by assumption) ?_
          rotate_left
          · intro w hSw
            try dsimp only at hSw
            go_simp
            try with_reducible rfl
          simp only [Act.put, List.setIfInBounds_toArray, List.set_cons_zero, List.set_cons_succ]
          refine wpAnyH_take (i := 5) (oi := { dst := some 228, op := Go.Op.move (Go.Operand.tmp 7), type := 23, pos := "ref.go:116", after := #[], guard := none }) (v := ?_) rfl (by kernel_rfl) (by kernel_rfl) (by kernel_rfl) (fun _ _ _ h => h) (Or.inl ⟨by rfl, ?_⟩) (by assumption) ?_
          rotate_left
          · intro w hSw
            try dsimp only at hSw
            go_simp
            try with_reducible rfl
          simp only [Act.put, List.setIfInBounds_toArray, List.set_cons_zero, List.set_cons_succ]
          refine wpAnyH_take (i := 6) (oi := { dst := some 229, op := Go.Op.binOp Go.BinOp.add 23 (Go.Operand.tmp 227) (Go.Operand.tmp 228) 23, type := 23, pos := "ref.go:116", after := #[{ on := 4, ground := Go.Ground.data }, { on := 5, ground := Go.Ground.data }], guard := none }) (v := .int .u32 (ad : Int)) rfl (by kernel_rfl) (by kernel_rfl) (by kernel_rfl) (fun _ _ _ h => h) (Or.inl ⟨by rfl, ?_⟩) (by assumption) ?_
          · intro wq hSw
            go_simp
            first | exact e5 | (unfold IntKind.wrap; simpa using e5) | (simp [IntKind.wrap]; omega)
          simp only [Act.put, List.setIfInBounds_toArray, List.set_cons_zero, List.set_cons_succ]
          refine wpAnyH_take (i := 7) (oi := { dst := some 230, op := Go.Op.fieldAddr 48 (Go.Operand.tmp 2) 0, type := 0, pos := "ref.go:116", after := #[], guard := none }) (v := ?_) rfl (by kernel_rfl) (by kernel_rfl) (by kernel_rfl) (fun _ _ _ h => h) (Or.inl ⟨by rfl, ?_⟩) (by assumption) ?_
          rotate_left
          · intro w hSw
            try dsimp only at hSw
            go_simp
            try with_reducible rfl
          simp only [Act.put, List.setIfInBounds_toArray, List.set_cons_zero, List.set_cons_succ]
          refine wpAnyH_take (i := 8) (oi := { dst := some 231, op := Go.Op.load 3 (Go.Operand.tmp 230), type := 3, pos := "ref.go:116", after := #[{ on := 7, ground := Go.Ground.data }], guard := none }) (v := ?_) rfl (by kernel_rfl) (by kernel_rfl) (by kernel_rfl) (fun _ _ _ h => h) (Or.inl ⟨by rfl, ?_⟩) (by assumption) ?_
          rotate_left
          · intro w hSw
            try dsimp only at hSw
            go_simp
            try with_reducible rfl
          simp only [Act.put, List.setIfInBounds_toArray, List.set_cons_zero, List.set_cons_succ]
          refine wpAnyH_take (i := 10) (oi := { dst := some 233, op := Go.Op.move (Go.Operand.tmp 4), type := 23, pos := "ref.go:116", after := #[], guard := none }) (v := ?_) rfl (by kernel_rfl) (by kernel_rfl) (by kernel_rfl) (fun _ _ _ h => h) (Or.inl ⟨by rfl, ?_⟩) (by assumption) ?_
          rotate_left
          · intro w hSw
            try dsimp only at hSw
            go_simp
            try with_reducible rfl
          simp only [Act.put, List.setIfInBounds_toArray, List.set_cons_zero, List.set_cons_succ]
          refine wpAnyH_ready (rs := [9]) (by kernel_rfl) (by simp) ?_
          refine AllReadyH.cons (o := { dst := some 232, op := Go.Op.call { callee := Go.Callee.value (Go.Operand.func 37), args := #[Go.Operand.tmp 231], argTypes := #[3] }, type := 3, pos := "ref.go:116", after := #[{ on := 8, ground := Go.Ground.data }], guard := none }) rfl (fun K hK => ?_) AllReadyH.nil
          go_simp
          go_at_call 37
          refine (HSZ.out _).mono ?_
          rintro e wy ⟨rfl, rfl⟩
          try go_wp2_with fail
          refine hK.out _ _ (show V3.drew.cell? _ = _ ∧ V3.drew.cell? _ = _ from ⟨K0.out, HQ0.out⟩) (fun hHeld2 => ?_)
          clear hK K hHeld
          try simp only [Act.put, List.setIfInBounds_toArray, List.set_cons_zero, List.set_cons_succ]
          refine wpAnyH_ready (rs := [11]) (by kernel_rfl) (by simp) ?_
          refine AllReadyH.cons (o := { dst := some 234, op := Go.Op.call { callee := Go.Callee.value (Go.Operand.func 38), args := #[Go.Operand.tmp 226, Go.Operand.tmp 229, Go.Operand.tmp 232, Go.Operand.tmp 233], argTypes := #[22, 23, 3, 23] }, type := 86, pos := "ref.go:116", after := #[{ on := 3, ground := Go.Ground.data }, { on := 6, ground := Go.Ground.data }, { on := 9, ground := Go.Ground.data }, { on := 10, ground := Go.Ground.data }, { on := 9, ground := Go.Ground.chain }], guard := none }) rfl (fun K hK => ?_) AllReadyH.nil
          go_simp
          go_at_call 38
          refine (HSTO.out V3.drew HW.out.drew).mono ?_
          rintro e wx ⟨xv, rfl, hxo, bx⟩
          have HXO := hide hxo
          have HW2 := hide (chain HW.out (undrewD bx))
          clear bx hxo HW
          have HW := HW2
          clear HW2
          have K9 := hide (HD2.out.m.below HW.out).pages
          have Q9 := hide ((HBL.out.below HGL.out HW.out).cell 0 _ rfl)
          try go_wp2_with fail
          refine hK.out _ _ ⟨K9.out, Q9.out⟩ (fun hHeld3 => ?_)
          clear hK K hHeld2
          try simp only [Act.put, List.setIfInBounds_toArray, List.set_cons_zero, List.set_cons_succ]
          refine wpAnyH_take (i := 12) (oi := { dst := some 222, op := Go.Op.move (Go.Operand.tmp 234), type := 86, pos := "ref.go:116", after := #[{ on := 11, ground := Go.Ground.data }], guard := none }) (v := ?_) rfl (by kernel_rfl) (by kernel_rfl) (by kernel_rfl) (fun _ _ _ h => h) (Or.inl ⟨by rfl, ?_⟩) (by assumption) ?_
          rotate_left
          · intro w hSw
            try dsimp only at hSw
            go_simp
            try with_reducible rfl
          simp only [Act.put, List.setIfInBounds_toArray, List.set_cons_zero, List.set_cons_succ]
          refine wpAnyH_take (i := 13) (oi := { dst := some 235, op := Go.Op.extract (Go.Operand.tmp 222) 0, type := 22, pos := "ref.go:116", after := #[{ on := 12, ground := Go.Ground.data }], guard := none }) (v := ?_) rfl (by kernel_rfl) (by kernel_rfl) (by kernel_rfl) (fun _ _ _ h => h) (Or.inl ⟨by rfl, ?_⟩) (by assumption) ?_
          rotate_left
          · intro w hSw
            try dsimp only at hSw
            go_simp
            try with_reducible rfl
          simp only [Act.put, List.setIfInBounds_toArray, List.set_cons_zero, List.set_cons_succ]
          refine wpAnyH_take (i := 14) (oi := { dst := some 236, op := Go.Op.extract (Go.Operand.tmp 222) 1, type := 3, pos := "ref.go:116", after := #[{ on := 12, ground := Go.Ground.data }, { on := 16, ground := Go.Ground.gcOnly Go.Departure.lateStores }], guard := none }) (v := ?_) rfl (by kernel_rfl) (by kernel_rfl) (by kernel_rfl) (fun _ _ _ h => h) (Or.inl ⟨by rfl, ?_⟩) (by assumption) ?_
          rotate_left
          · intro w hSw
            try dsimp only at hSw
            go_simp
            try with_reducible rfl
          simp only [Act.put, List.setIfInBounds_toArray, List.set_cons_zero, List.set_cons_succ]
          refine wpAnyH_take (i := 15) (oi := { dst := some 237, op := Go.Op.extract (Go.Operand.tmp 222) 2, type := 3, pos := "ref.go:116", after := #[{ on := 12, ground := Go.Ground.data }, { on := 17, ground := Go.Ground.gcOnly Go.Departure.lateStores }], guard := none }) (v := ?_) rfl (by kernel_rfl) (by kernel_rfl) (by kernel_rfl) (fun _ _ _ h => h) (Or.inl ⟨by rfl, ?_⟩) (by assumption) ?_
          rotate_left
          · intro w hSw
            try dsimp only at hSw
            go_simp
            try with_reducible rfl
          simp only [Act.put, List.setIfInBounds_toArray, List.set_cons_zero, List.set_cons_succ]
          refine wpAnyH_take (i := 16) (oi := { dst := some 22, op := Go.Op.assign (Go.Operand.tmp 235), type := 22, pos := "ref.go:116", after := #[{ on := 13, ground := Go.Ground.data }, { on := 11, ground := Go.Ground.chain }, { on := 0, ground := Go.Ground.phase }, { on := 1, ground := Go.Ground.phase }, { on := 2, ground := Go.Ground.phase }, { on := 3, ground := Go.Ground.phase }, { on := 4, ground := Go.Ground.phase }, { on := 5, ground := Go.Ground.phase }, { on := 6, ground := Go.Ground.phase }, { on := 7, ground := Go.Ground.phase }, { on := 8, ground := Go.Ground.phase }, { on := 9, ground := Go.Ground.phase }, { on := 10, ground := Go.Ground.phase }, { on := 11, ground := Go.Ground.phase }, { on := 12, ground := Go.Ground.phase }, { on := 13, ground := Go.Ground.phase }, { on := 14, ground := Go.Ground.textOnly Go.Departure.lateStores }, { on := 15, ground := Go.Ground.textOnly Go.Departure.lateStores }], guard := none }) (v := ?_) rfl (by kernel_rfl) (by kernel_rfl) (by kernel_rfl) (fun _ _ _ h => h) (Or.inl ⟨by rfl, ?_⟩) (by assumption) ?_
          rotate_left
          · intro w hSw
            try dsimp only at hSw
            go_simp
            try with_reducible rfl
          simp only [Act.put, List.setIfInBounds_toArray, List.set_cons_zero, List.set_cons_succ]
          refine wpAnyH_take (i := 17) (oi := { dst := some 23, op := Go.Op.assign (Go.Operand.tmp 236), type := 3, pos := "ref.go:116", after := #[{ on := 14, ground := Go.Ground.data }, { on := 16, ground := Go.Ground.chain }, { on := 0, ground := Go.Ground.phase }, { on := 1, ground := Go.Ground.phase }, { on := 2, ground := Go.Ground.phase }, { on := 3, ground := Go.Ground.phase }, { on := 4, ground := Go.Ground.phase }, { on := 5, ground := Go.Ground.phase }, { on := 6, ground := Go.Ground.phase }, { on := 7, ground := Go.Ground.phase }, { on := 8, ground := Go.Ground.phase }, { on := 9, ground := Go.Ground.phase }, { on := 10, ground := Go.Ground.phase }, { on := 11, ground := Go.Ground.phase }, { on := 12, ground := Go.Ground.phase }, { on := 13, ground := Go.Ground.phase }, { on := 14, ground := Go.Ground.phase }, { on := 15, ground := Go.Ground.textOnly Go.Departure.lateStores }, { on := 16, ground := Go.Ground.phase }], guard := none }) (v := ?_) rfl (by kernel_rfl) (by kernel_rfl) (by kernel_rfl) (fun _ _ _ h => h) (Or.inl ⟨by rfl, ?_⟩) (by assumption) ?_
          rotate_left
          · intro w hSw
            try dsimp only at hSw
            go_simp
            try with_reducible rfl
          simp only [Act.put, List.setIfInBounds_toArray, List.set_cons_zero, List.set_cons_succ]
          refine wpAnyH_take (i := 18) (oi := { dst := some 24, op := Go.Op.assign (Go.Operand.tmp 237), type := 3, pos := "ref.go:116", after := #[{ on := 15, ground := Go.Ground.data }, { on := 17, ground := Go.Ground.chain }, { on := 0, ground := Go.Ground.phase }, { on := 1, ground := Go.Ground.phase }, { on := 2, ground := Go.Ground.phase }, { on := 3, ground := Go.Ground.phase }, { on := 4, ground := Go.Ground.phase }, { on := 5, ground := Go.Ground.phase }, { on := 6, ground := Go.Ground.phase }, { on := 7, ground := Go.Ground.phase }, { on := 8, ground := Go.Ground.phase }, { on := 9, ground := Go.Ground.phase }, { on := 10, ground := Go.Ground.phase }, { on := 11, ground := Go.Ground.phase }, { on := 12, ground := Go.Ground.phase }, { on := 13, ground := Go.Ground.phase }, { on := 14, ground := Go.Ground.phase }, { on := 15, ground := Go.Ground.phase }, { on := 16, ground := Go.Ground.phase }, { on := 17, ground := Go.Ground.phase }], guard := none }) (v := ?_) rfl (by kernel_rfl) (by kernel_rfl) (by kernel_rfl) (fun _ _ _ h => h) (Or.inl ⟨by rfl, ?_⟩) (by assumption) ?_
          rotate_left
          · intro w hSw
            try dsimp only at hSw
            go_simp
            try with_reducible rfl
          simp only [Act.put, List.setIfInBounds_toArray, List.set_cons_zero, List.set_cons_succ]
          refine wpAnyH_done (by kernel_rfl) ?_ _
          (try simp only [Exit.inBlock, Exit.then])
          have HD2x := hide (HD2.out.below HW.out)
          have HBLx := hide (HBL.out.below HGL.out HW.out)
          have HO2x : Hid (Oth (some mb) w wx) := HO2.out.trans (Oth.ofBelow HW.out)
          have HGLx : Hid (g < wx.heap.size) := Nat.lt_of_lt_of_le HGL.out HW.out.size
          have HMLx : Hid (mb < wx.heap.size) := Nat.lt_of_lt_of_le HML.out HW.out.size
          have HXN : Hid (xv.ownBlock ≠ some mb) := fun e => by
            have h1 := (World.ownsRow.lt HXO.out _ e).1
            have h2 := HML.out
            exact absurd h1 (by show ¬ V3.heap.size ≤ mb; omega)
          have HXB : Hid (base ≤ V3.heap.size) := HD2.out.m.size
          clear HD2 HBL HO2 HGL HML HSTO K0 HQ0
          have HD2 := HD2x
          have HBL := HBLx
          have HO2 := HO2x
          have HGL := HGLx
          have HML := HMLx
          clear HD2x HBLx HO2x HGLx HMLx
          obtain ⟨q0, q1, q2, q3, q4⟩ := bl_get HBL.out
          by_cases hF : F1 = 0
          · have HR := HDI.out
            rw [if_pos hF] at HR
            have HSS : Hid (m.step = (({ m with pages := PK } : Mc).setP nx, 0, 0)) := by
              unfold Hid
              rw [HST.out, HR, if_neg (fun h => h rfl), if_neg (by omega)]
            have hxo := HXO.out
            rw [HPK.out hF] at hxo
            obtain ⟨xa, xc, rfl, _, _⟩ := hxo.pgs HPO.out.1 (by rw [HPO.out.2]; exact HD2.out.m.ok.most)
            have c00 := HD2.out.m.pages
            have f00 := HD2.out.m.bl.free 0
            have hmn : MAt (wx.setCell ⟨mb, 0, none⟩ (.slice xa PK.length xc)) mb base (.slice xa PK.length xc) { m with pages := PK } := by
              have hbs := HD2.out.m.bl.set (k := 0) (by simp) (.slice xa PK.length xc)
              exact ⟨hbs, own_far (hxo.weaken HXB.out) HXN.out, HXN.out, ⟨HPO.out.1, by show PK.length ≤ _; rw [HPO.out.2]; exact HD2.out.m.ok.most, HD2.out.m.ok.size, HD2.out.m.ok.small, HD2.out.m.ok.pc⟩, HD2.out.m.le, by simpa [World.setCell] using HD2.out.m.lt, by simpa [World.setCell] using HD2.out.m.size⟩
            have hd := HD2.out.setCell (j := 0) (by omega) (.slice xa PK.length xc) hmn
            have ho := (Oth.refl (some mb) wx).setCell (j := 0) (.slice xa PK.length xc)
            subst hF
            clear HR HDI HST o1 o2 hxo hmn HXO HXN
            go_upto_region 47 with fail
            generalize hwz : wx.setCell ⟨mb, 0, none⟩ (.slice xa PK.length xc) = w2 at *
            clear c00 f00 hwz
            have HBLx := hide (HBL.out.oth HGL.out ho (fun e => hmg (by injection e)))
            have HO2x := hide (HO2.out.trans ho)
            have HGLx : Hid (g < w2.heap.size) := Nat.lt_of_lt_of_le HGL.out ho.size
            have HMLx : Hid (mb < w2.heap.size) := Nat.lt_of_lt_of_le HML.out ho.size
            have HD2x := hide hd
            clear HD2 HBL HO2 HGL HML q0 q1 q2 q3 q4 hd ho
            have HD2 := HD2x
            have HBL := HBLx
            have HO2 := HO2x
            have HGL := HGLx
            have HML := HMLx
            clear HD2x HBLx HO2x HGLx HMLx
            obtain ⟨q0, q1, q2, q3, q4⟩ := bl_get HBL.out
            have p17 := HD2.out.m.pc
            have f17 := HD2.out.m.bl.free 17
            have s0 := HD2.out.s0
            have s1 := HD2.out.s1
            have s2 := HD2.out.s2
            have f22 := HD2.out.m.bl.free 22
            have f23 := HD2.out.m.bl.free 23
            have f24 := HD2.out.m.bl.free 24
            have HR := hide ((HD2.out.setP nl).stop 0 1 0)
            have HOR := hide (((((HO2.out.setCell (j := 17) (.int .u32 (nx : Int))).setCell (j := 22) (.int .i64 0)).setCell (j := 23) (.int .i64 1)).setCell (j := 24) (.int .i64 0)))
            go_wp2
            go_end0
            exact ⟨rfl, ⟨_, by rw [HSS.out]; exact HR.out⟩, HOR.out⟩
          · have HR := HDI.out
            rw [if_neg hF] at HR
            have d9 : ((F1 : Int) != 0) = true := by rw [bne_iff_ne]; omega
            have HSS : Hid (m.step = (m, 2, (F1 : Int))) := by
              unfold Hid
              rw [HST.out, HR, if_pos hF]
            clear HR HDI HST o1 o2 hF
            go_wp2_with fail
            refine Calls.mono (rfault_any HD2.out (F1 : Int)) ?_
            rintro e w2 ⟨rfl, hd, ho⟩
            go_wp2
            refine bodyPost_ret (v := .tuple #[]) (results_none rfl _ _ _) rfl ?_
            exact ⟨rfl, ⟨_, by rw [HSS.out]; exact hd⟩, HO2.out.trans ho⟩
      · --
        as_aux_lemma =>
          have d1 : decide (1 ≤ o) = true := decide_eq_true (by omega)
          have d2 : decide (o ≤ 15) = false := decide_eq_false (by omega)
          have k16 : (o == 16) = false := by rw [beq_eq_false_iff_ne]; omega
          have k17 : (o == 17) = false := by rw [beq_eq_false_iff_ne]; omega
          have k18 : (o == 18) = false := by rw [beq_eq_false_iff_ne]; omega
          have k19 : (o == 19) = false := by rw [beq_eq_false_iff_ne]; omega
          have k20 : (o == 20) = false := by rw [beq_eq_false_iff_ne]; omega
          have d3 : decide (32 ≤ o) = true := decide_eq_true (by omega)
          have d4 : decide (o ≤ 34) = false := decide_eq_false (by omega)
          have d5 : decide (35 ≤ o) = true := decide_eq_true (by omega)
          have d6 : decide (o ≤ 37) = false := decide_eq_false (by omega)
          have d7 : decide (48 ≤ o) = true := decide_eq_true (by omega)
          have d8 : decide (o ≤ 53) = true := decide_eq_true (by omega)
          have k64 : (o == 64) = false := by rw [beq_eq_false_iff_ne]; omega
          obtain ⟨tg, htg⟩ : ∃ tg, (m.pc + 4 + 4 * un s) % 4294967296 = tg := ⟨_, rfl⟩
          obtain ⟨z4, hz4⟩ : ∃ z4, 4 * un s % 4294967296 = z4 := ⟨_, rfl⟩
          have hnx := HNX.out
          have g5 : 4 * ((un s : Nat) : Int) % 4294967296 = (z4 : Int) := by omega
          have g6 : ((nx : Int) + (z4 : Int)) % 4294967296 = (tg : Int) := by omega
          have tl : tg < 4294967296 := by omega
          have HDI : Hid (m.doI (mkI o a b c s) = (m.setP (if tstV o (m.reg a) (m.reg b) then tg else nx), 0)) := by
            unfold Hid Mc.doI
            rw [if_neg (by show ¬ (32 ≤ o ∧ o ≤ 34); omega), if_neg (by show ¬ (35 ≤ o ∧ o ≤ 37); omega), if_pos ⟨o1, o2⟩]
            show (m.setP (if tstV o (m.reg a) (m.reg b) then (m.pc + 4 + 4 * un s) % 4294967296 else (m.pc + 4) % 4294967296), 0) = _
            rw [hnx, htg]
          have HTE := hide (fun w => refTest_all o (m.reg a) (m.reg b) w o1 o2 la lb)
          clear htg hz4 hnx
          generalize tstV o (m.reg a) (m.reg b) = T at *
          generalize un s = zz at *
          have HSS0 : Hid (m.step = (m.setP (if T then tg else nx), 0, 0)) := by
            unfold Hid
            rw [HST.out, HDI.out, if_neg (fun h => h rfl), if_neg (by omega)]
          clear HST HDI o1 o2
          go_wp2_with fail
          refine Calls.mono (HTE.out _) ?_
          rintro e w' ⟨rfl, rfl⟩
          cases T with
          | true =>
            have HSS : Hid (m.step = (m.setP tg, 0, 0)) := HSS0.out
            have p17 := HD2.out.m.pc
            have f17 := HD2.out.m.bl.free 17
            have s0 := HD2.out.s0
            have s1 := HD2.out.s1
            have s2 := HD2.out.s2
            have f22 := HD2.out.m.bl.free 22
            have f23 := HD2.out.m.bl.free 23
            have f24 := HD2.out.m.bl.free 24
            have HR := hide ((HD2.out.setP tl).stop 0 1 0)
            have HOR := hide (((((HO2.out.setCell (j := 17) (.int .u32 (tg : Int))).setCell (j := 22) (.int .i64 0)).setCell (j := 23) (.int .i64 1)).setCell (j := 24) (.int .i64 0)))
            go_wp2
            go_end0
            exact ⟨rfl, ⟨_, by rw [HSS.out]; exact HR.out⟩, HOR.out⟩
          | false =>
            have HSS : Hid (m.step = (m.setP nx, 0, 0)) := HSS0.out
            have p17 := HD2.out.m.pc
            have f17 := HD2.out.m.bl.free 17
            have s0 := HD2.out.s0
            have s1 := HD2.out.s1
            have s2 := HD2.out.s2
            have f22 := HD2.out.m.bl.free 22
            have f23 := HD2.out.m.bl.free 23
            have f24 := HD2.out.m.bl.free 24
            have HR := hide ((HD2.out.setP nl).stop 0 1 0)
            have HOR := hide (((((HO2.out.setCell (j := 17) (.int .u32 (nx : Int))).setCell (j := 22) (.int .i64 0)).setCell (j := 23) (.int .i64 1)).setCell (j := 24) (.int .i64 0)))
            go_wp2
            go_end0
            exact ⟨rfl, ⟨_, by rw [HSS.out]; exact HR.out⟩, HOR.out⟩
      · --
        as_aux_lemma =>
          subst o1
          obtain ⟨tg, htg⟩ : ∃ tg, (m.pc + 4 + 4 * un s) % 4294967296 = tg := ⟨_, rfl⟩
          obtain ⟨z4, hz4⟩ : ∃ z4, 4 * un s % 4294967296 = z4 := ⟨_, rfl⟩
          have hnx := HNX.out
          have g5 : 4 * ((un s : Nat) : Int) % 4294967296 = (z4 : Int) := by omega
          have g6 : ((nx : Int) + (z4 : Int)) % 4294967296 = (tg : Int) := by omega
          have tl : tg < 4294967296 := by omega
          have HSS : Hid (m.step = ((m.setR a nx).setP tg, 0, 0)) := by
            unfold Hid
            rw [HST.out]
            unfold Mc.doI
            show (if (0 : Nat) ≠ 0 then _ else if (54 : Int) = 64 then _ else ((m.setR a ((m.pc + 4) % 4294967296)).setP ((m.pc + 4 + 4 * un s) % 4294967296), 0, 0)) = _
            rw [if_neg (fun h => h rfl), if_neg (by decide), hnx, htg]
          clear htg hz4 hnx HST
          generalize un s = zz at *
          go_wp2_with fail
          refine Calls.mono (rset_any HD2.out a nx ha nl) ?_
          rintro e w2 ⟨rfl, hd, ho⟩
          have HBLx := hide (HBL.out.oth HGL.out ho (fun e => hmg (by injection e)))
          have HO2x := hide (HO2.out.trans ho)
          have HGLx : Hid (g < w2.heap.size) := Nat.lt_of_lt_of_le HGL.out ho.size
          have HMLx : Hid (mb < w2.heap.size) := Nat.lt_of_lt_of_le HML.out ho.size
          have HD2x := hide hd
          clear HD2 HBL HO2 HGL HML q0 q1 q2 q3 q4 hd ho
          have HD2 := HD2x
          have HBL := HBLx
          have HO2 := HO2x
          have HGL := HGLx
          have HML := HMLx
          clear HD2x HBLx HO2x HGLx HMLx
          obtain ⟨q0, q1, q2, q3, q4⟩ := bl_get HBL.out
          have p17 := HD2.out.m.pc
          have f17 := HD2.out.m.bl.free 17
          have s0 := HD2.out.s0
          have s1 := HD2.out.s1
          have s2 := HD2.out.s2
          have f22 := HD2.out.m.bl.free 22
          have f23 := HD2.out.m.bl.free 23
          have f24 := HD2.out.m.bl.free 24
          have HR := hide ((HD2.out.setP tl).stop 0 1 0)
          have HOR := hide (((((HO2.out.setCell (j := 17) (.int .u32 (tg : Int))).setCell (j := 22) (.int .i64 0)).setCell (j := 23) (.int .i64 1)).setCell (j := 24) (.int .i64 0)))
          go_wp2
          go_end0
          exact ⟨rfl, ⟨_, by rw [HSS.out]; exact HR.out⟩, HOR.out⟩
      · --
        as_aux_lemma =>
          subst o1
          have HSS : Hid (m.step = (m.setP ad, 0, 0)) := by
            unfold Hid
            rw [HST.out]
            unfold Mc.doI
            show (if (0 : Nat) ≠ 0 then _ else if (55 : Int) = 64 then _ else (m.setP (m.adr (mkI 55 a b c s)), 0, 0)) = _
            rw [if_neg (fun h => h rfl), if_neg (by decide), HADR.out]
          clear HST
          generalize un s = zz at *
          have p17 := HD2.out.m.pc
          have f17 := HD2.out.m.bl.free 17
          have s0 := HD2.out.s0
          have s1 := HD2.out.s1
          have s2 := HD2.out.s2
          have f22 := HD2.out.m.bl.free 22
          have f23 := HD2.out.m.bl.free 23
          have f24 := HD2.out.m.bl.free 24
          have HR := hide ((HD2.out.setP al).stop 0 1 0)
          have HOR := hide (((((HO2.out.setCell (j := 17) (.int .u32 (ad : Int))).setCell (j := 22) (.int .i64 0)).setCell (j := 23) (.int .i64 1)).setCell (j := 24) (.int .i64 0)))
          go_wp2
          go_end0
          exact ⟨rfl, ⟨_, by rw [HSS.out]; exact HR.out⟩, HOR.out⟩
      · --
        as_aux_lemma =>
          subst o1
          have hnx := HNX.out
          have HSS : Hid (m.step = (m.setP nx, 1, s)) := by
            unfold Hid
            rw [HST.out]
            unfold Mc.doI
            show (if (0 : Nat) ≠ 0 then _ else if (64 : Int) = 64 then (m.setP ((m.pc + 4) % 4294967296), 1, s) else _) = _
            rw [if_neg (fun h => h rfl), if_pos rfl, hnx]
          clear HST hnx
          generalize un s = zz at *
          have p17 := HD2.out.m.pc
          have f17 := HD2.out.m.bl.free 17
          have s0 := HD2.out.s0
          have s1 := HD2.out.s1
          have s2 := HD2.out.s2
          have f22 := HD2.out.m.bl.free 22
          have f23 := HD2.out.m.bl.free 23
          have f24 := HD2.out.m.bl.free 24
          have HR := hide (((HD2.out.setP nl).stop 0 1 0).stop 1 1 s)
          have HOR := hide ((((((((HO2.out.setCell (j := 17) (.int .u32 (nx : Int))).setCell (j := 22) (.int .i64 0)).setCell (j := 23) (.int .i64 1)).setCell (j := 24) (.int .i64 0)).setCell (j := 22) (.int .i64 1)).setCell (j := 23) (.int .i64 1)).setCell (j := 24) (.int .i64 s)))
          go_wp2
          go_end0
          exact ⟨rfl, ⟨_, by rw [HSS.out]; exact HR.out⟩, HOR.out⟩
      · --
        as_aux_lemma =>
          have HCI : Hid (∀ op, 1 ≤ op → op ≤ 20 → m.doI (mkI op a b c s) = match m.cmp (mkI op a b c s) with | some v => ((m.setR a v).setP nx, 0) | none => (m, 7)) := fun op h1 h2 => by
            unfold Mc.doI
            rw [if_neg (by show ¬ (32 ≤ op ∧ op ≤ 34); omega), if_neg (by show ¬ (35 ≤ op ∧ op ≤ 37); omega), if_neg (by show ¬ (48 ≤ op ∧ op ≤ 53); omega), if_neg (by show ¬ op = 54; omega), if_neg (by show ¬ op = 55; omega), if_neg (by show ¬ op = 64; omega)]
            show (match m.cmp (mkI op a b c s) with | some v => ((m.setR a v).setP ((m.pc + 4) % 4294967296), 0) | none => (m, 7)) = _
            rw [HNX.out]
          by_cases h15 : o ≤ 15
          · have d1 : decide (1 ≤ o) = true := decide_eq_true o1
            have d2 : decide (o ≤ 15) = true := decide_eq_true h15
            have HDI : Hid (m.doI (mkI o a b c s) = match aluV o (m.reg b) (m.reg c) with | some v => ((m.setR a v).setP nx, 0) | none => (m, 7)) := by
              unfold Hid
              rw [HCI.out o o1 o2]
              have : m.cmp (mkI o a b c s) = aluV o (m.reg b) (m.reg c) := by
                unfold Mc.cmp
                show (if o = 20 then _ else if o = 16 then _ else if o = 17 then _ else if o = 18 then _ else if o = 19 then _ else aluV o (m.reg b) (m.reg c)) = _
                rw [if_neg (by omega), if_neg (by omega), if_neg (by omega), if_neg (by omega), if_neg (by omega)]
              rw [this]
            have HDO := hide (fun w => refDo_all o (m.reg b) (m.reg c) w o1 h15 lb lc)
            have k64 : (o == 64) = false := by rw [beq_eq_false_iff_ne]; omega
            have la' := lb
            have lb' := lc
            go_wp2_with fail
            refine Calls.mono (HDO.out _) ?_
            rintro e w4 ⟨⟨xx, kk, rfl, hcase⟩, b4⟩
            have HBLx := hide (HBL.out.below HGL.out b4)
            have HO2x : Hid (Oth (some mb) w w4) := HO2.out.trans (Oth.ofBelow b4)
            have HGLx : Hid (g < w4.heap.size) := Nat.lt_of_lt_of_le HGL.out b4.size
            have HMLx : Hid (mb < w4.heap.size) := Nat.lt_of_lt_of_le HML.out b4.size
            have HD2x := hide (HD2.out.below b4)
            clear HD2 HBL HO2 HGL HML q0 q1 q2 q3 q4 b4
            have HD2 := HD2x
            have HBL := HBLx
            have HO2 := HO2x
            have HGL := HGLx
            have HML := HMLx
            clear HD2x HBLx HO2x HGLx HMLx
            obtain ⟨q0, q1, q2, q3, q4⟩ := bl_get HBL.out
            rcases hcase with ⟨rfl, hval⟩ | ⟨rfl, hval⟩
            · have HXL : Hid (xx < 4294967296) := alu_lt la' lb' hval
              have HSS : Hid (m.step = ((m.setR a xx).setP nx, 0, 0)) := by
                unfold Hid
                rw [HST.out, HDI.out, hval]
                show (if (0 : Nat) ≠ 0 then _ else if o = 64 then _ else ((m.setR a xx).setP nx, 0, 0)) = _
                rw [if_neg (fun h => h rfl), if_neg (by omega)]
              clear hval HDI HST
              go_wp2_with fail
              refine Calls.mono (rset_any HD2.out a xx ha HXL.out) ?_
              rintro e w2 ⟨rfl, hd, ho⟩
              have HBLx := hide (HBL.out.oth HGL.out ho (fun e => hmg (by injection e)))
              have HO2x := hide (HO2.out.trans ho)
              have HGLx : Hid (g < w2.heap.size) := Nat.lt_of_lt_of_le HGL.out ho.size
              have HMLx : Hid (mb < w2.heap.size) := Nat.lt_of_lt_of_le HML.out ho.size
              have HD2x := hide hd
              clear HD2 HBL HO2 HGL HML q0 q1 q2 q3 q4 hd ho
              have HD2 := HD2x
              have HBL := HBLx
              have HO2 := HO2x
              have HGL := HGLx
              have HML := HMLx
              clear HD2x HBLx HO2x HGLx HMLx
              obtain ⟨q0, q1, q2, q3, q4⟩ := bl_get HBL.out
              have p17 := HD2.out.m.pc
              have f17 := HD2.out.m.bl.free 17
              have s0 := HD2.out.s0
              have s1 := HD2.out.s1
              have s2 := HD2.out.s2
              have f22 := HD2.out.m.bl.free 22
              have f23 := HD2.out.m.bl.free 23
              have f24 := HD2.out.m.bl.free 24
              have HR := hide ((HD2.out.setP nl).stop 0 1 0)
              have HOR := hide (((((HO2.out.setCell (j := 17) (.int .u32 (nx : Int))).setCell (j := 22) (.int .i64 0)).setCell (j := 23) (.int .i64 1)).setCell (j := 24) (.int .i64 0)))
              go_wp2
              go_end0
              exact ⟨rfl, ⟨_, by rw [HSS.out]; exact HR.out⟩, HOR.out⟩
            · have HSS : Hid (m.step = (m, 2, 7)) := by
                unfold Hid
                rw [HST.out, HDI.out, hval]
                rfl
              clear hval HDI HST
              go_wp2_with fail
              refine Calls.mono (rfault_any HD2.out 7) ?_
              rintro e w2 ⟨rfl, hd, ho⟩
              go_wp2
              refine bodyPost_ret (v := .tuple #[]) (results_none rfl _ _ _) rfl ?_
              exact ⟨rfl, ⟨_, by rw [HSS.out]; exact hd⟩, HO2.out.trans ho⟩
          · rcases (by omega : o = 16 ∨ o = 17 ∨ o = 18 ∨ o = 19 ∨ o = 20) with rfl | rfl | rfl | rfl | rfl
            · have HDI : Hid (m.doI (mkI 16 a b c s) = match aluV 1 (m.reg b) (un s) with | some v => ((m.setR a v).setP nx, 0) | none => (m, 7)) := HCI.out 16 o1 o2
              have HDO := hide (fun w => refDo_all 1 (m.reg b) (un s) w (by decide) (by decide) lb zl)
              have la' := lb
              have lb' := zl
              go_wp2_with fail
              refine Calls.mono (HDO.out _) ?_
              rintro e w4 ⟨⟨xx, kk, rfl, hcase⟩, b4⟩
              have HBLx := hide (HBL.out.below HGL.out b4)
              have HO2x : Hid (Oth (some mb) w w4) := HO2.out.trans (Oth.ofBelow b4)
              have HGLx : Hid (g < w4.heap.size) := Nat.lt_of_lt_of_le HGL.out b4.size
              have HMLx : Hid (mb < w4.heap.size) := Nat.lt_of_lt_of_le HML.out b4.size
              have HD2x := hide (HD2.out.below b4)
              clear HD2 HBL HO2 HGL HML q0 q1 q2 q3 q4 b4
              have HD2 := HD2x
              have HBL := HBLx
              have HO2 := HO2x
              have HGL := HGLx
              have HML := HMLx
              clear HD2x HBLx HO2x HGLx HMLx
              obtain ⟨q0, q1, q2, q3, q4⟩ := bl_get HBL.out
              rcases hcase with ⟨rfl, hval⟩ | ⟨rfl, hval⟩
              · have HXL : Hid (xx < 4294967296) := alu_lt la' lb' hval
                have HSS : Hid (m.step = ((m.setR a xx).setP nx, 0, 0)) := by
                  unfold Hid
                  rw [HST.out, HDI.out, hval]
                  show (if (0 : Nat) ≠ 0 then _ else if (16 : Int) = 64 then _ else ((m.setR a xx).setP nx, 0, 0)) = _
                  rw [if_neg (fun h => h rfl), if_neg (by omega)]
                clear hval HDI HST
                go_wp2_with fail
                refine Calls.mono (rset_any HD2.out a xx ha HXL.out) ?_
                rintro e w2 ⟨rfl, hd, ho⟩
                have HBLx := hide (HBL.out.oth HGL.out ho (fun e => hmg (by injection e)))
                have HO2x := hide (HO2.out.trans ho)
                have HGLx : Hid (g < w2.heap.size) := Nat.lt_of_lt_of_le HGL.out ho.size
                have HMLx : Hid (mb < w2.heap.size) := Nat.lt_of_lt_of_le HML.out ho.size
                have HD2x := hide hd
                clear HD2 HBL HO2 HGL HML q0 q1 q2 q3 q4 hd ho
                have HD2 := HD2x
                have HBL := HBLx
                have HO2 := HO2x
                have HGL := HGLx
                have HML := HMLx
                clear HD2x HBLx HO2x HGLx HMLx
                obtain ⟨q0, q1, q2, q3, q4⟩ := bl_get HBL.out
                have p17 := HD2.out.m.pc
                have f17 := HD2.out.m.bl.free 17
                have s0 := HD2.out.s0
                have s1 := HD2.out.s1
                have s2 := HD2.out.s2
                have f22 := HD2.out.m.bl.free 22
                have f23 := HD2.out.m.bl.free 23
                have f24 := HD2.out.m.bl.free 24
                have HR := hide ((HD2.out.setP nl).stop 0 1 0)
                have HOR := hide (((((HO2.out.setCell (j := 17) (.int .u32 (nx : Int))).setCell (j := 22) (.int .i64 0)).setCell (j := 23) (.int .i64 1)).setCell (j := 24) (.int .i64 0)))
                go_wp2
                go_end0
                exact ⟨rfl, ⟨_, by rw [HSS.out]; exact HR.out⟩, HOR.out⟩
              · exact absurd hval (by unfold aluV; simp)
            · have HDI : Hid (m.doI (mkI 17 a b c s) = match aluV 3 (m.reg b) (un s) with | some v => ((m.setR a v).setP nx, 0) | none => (m, 7)) := HCI.out 17 o1 o2
              have HDO := hide (fun w => refDo_all 3 (m.reg b) (un s) w (by decide) (by decide) lb zl)
              have la' := lb
              have lb' := zl
              go_wp2_with fail
              refine Calls.mono (HDO.out _) ?_
              rintro e w4 ⟨⟨xx, kk, rfl, hcase⟩, b4⟩
              have HBLx := hide (HBL.out.below HGL.out b4)
              have HO2x : Hid (Oth (some mb) w w4) := HO2.out.trans (Oth.ofBelow b4)
              have HGLx : Hid (g < w4.heap.size) := Nat.lt_of_lt_of_le HGL.out b4.size
              have HMLx : Hid (mb < w4.heap.size) := Nat.lt_of_lt_of_le HML.out b4.size
              have HD2x := hide (HD2.out.below b4)
              clear HD2 HBL HO2 HGL HML q0 q1 q2 q3 q4 b4
              have HD2 := HD2x
              have HBL := HBLx
              have HO2 := HO2x
              have HGL := HGLx
              have HML := HMLx
              clear HD2x HBLx HO2x HGLx HMLx
              obtain ⟨q0, q1, q2, q3, q4⟩ := bl_get HBL.out
              rcases hcase with ⟨rfl, hval⟩ | ⟨rfl, hval⟩
              · have HXL : Hid (xx < 4294967296) := alu_lt la' lb' hval
                have HSS : Hid (m.step = ((m.setR a xx).setP nx, 0, 0)) := by
                  unfold Hid
                  rw [HST.out, HDI.out, hval]
                  show (if (0 : Nat) ≠ 0 then _ else if (17 : Int) = 64 then _ else ((m.setR a xx).setP nx, 0, 0)) = _
                  rw [if_neg (fun h => h rfl), if_neg (by omega)]
                clear hval HDI HST
                go_wp2_with fail
                refine Calls.mono (rset_any HD2.out a xx ha HXL.out) ?_
                rintro e w2 ⟨rfl, hd, ho⟩
                have HBLx := hide (HBL.out.oth HGL.out ho (fun e => hmg (by injection e)))
                have HO2x := hide (HO2.out.trans ho)
                have HGLx : Hid (g < w2.heap.size) := Nat.lt_of_lt_of_le HGL.out ho.size
                have HMLx : Hid (mb < w2.heap.size) := Nat.lt_of_lt_of_le HML.out ho.size
                have HD2x := hide hd
                clear HD2 HBL HO2 HGL HML q0 q1 q2 q3 q4 hd ho
                have HD2 := HD2x
                have HBL := HBLx
                have HO2 := HO2x
                have HGL := HGLx
                have HML := HMLx
                clear HD2x HBLx HO2x HGLx HMLx
                obtain ⟨q0, q1, q2, q3, q4⟩ := bl_get HBL.out
                have p17 := HD2.out.m.pc
                have f17 := HD2.out.m.bl.free 17
                have s0 := HD2.out.s0
                have s1 := HD2.out.s1
                have s2 := HD2.out.s2
                have f22 := HD2.out.m.bl.free 22
                have f23 := HD2.out.m.bl.free 23
                have f24 := HD2.out.m.bl.free 24
                have HR := hide ((HD2.out.setP nl).stop 0 1 0)
                have HOR := hide (((((HO2.out.setCell (j := 17) (.int .u32 (nx : Int))).setCell (j := 22) (.int .i64 0)).setCell (j := 23) (.int .i64 1)).setCell (j := 24) (.int .i64 0)))
                go_wp2
                go_end0
                exact ⟨rfl, ⟨_, by rw [HSS.out]; exact HR.out⟩, HOR.out⟩
              · exact absurd hval (by unfold aluV; simp)
            · have HDI : Hid (m.doI (mkI 18 a b c s) = match aluV 4 (m.reg b) (un s) with | some v => ((m.setR a v).setP nx, 0) | none => (m, 7)) := HCI.out 18 o1 o2
              have HDO := hide (fun w => refDo_all 4 (m.reg b) (un s) w (by decide) (by decide) lb zl)
              have la' := lb
              have lb' := zl
              go_wp2_with fail
              refine Calls.mono (HDO.out _) ?_
              rintro e w4 ⟨⟨xx, kk, rfl, hcase⟩, b4⟩
              have HBLx := hide (HBL.out.below HGL.out b4)
              have HO2x : Hid (Oth (some mb) w w4) := HO2.out.trans (Oth.ofBelow b4)
              have HGLx : Hid (g < w4.heap.size) := Nat.lt_of_lt_of_le HGL.out b4.size
              have HMLx : Hid (mb < w4.heap.size) := Nat.lt_of_lt_of_le HML.out b4.size
              have HD2x := hide (HD2.out.below b4)
              clear HD2 HBL HO2 HGL HML q0 q1 q2 q3 q4 b4
              have HD2 := HD2x
              have HBL := HBLx
              have HO2 := HO2x
              have HGL := HGLx
              have HML := HMLx
              clear HD2x HBLx HO2x HGLx HMLx
              obtain ⟨q0, q1, q2, q3, q4⟩ := bl_get HBL.out
              rcases hcase with ⟨rfl, hval⟩ | ⟨rfl, hval⟩
              · have HXL : Hid (xx < 4294967296) := alu_lt la' lb' hval
                have HSS : Hid (m.step = ((m.setR a xx).setP nx, 0, 0)) := by
                  unfold Hid
                  rw [HST.out, HDI.out, hval]
                  show (if (0 : Nat) ≠ 0 then _ else if (18 : Int) = 64 then _ else ((m.setR a xx).setP nx, 0, 0)) = _
                  rw [if_neg (fun h => h rfl), if_neg (by omega)]
                clear hval HDI HST
                go_wp2_with fail
                refine Calls.mono (rset_any HD2.out a xx ha HXL.out) ?_
                rintro e w2 ⟨rfl, hd, ho⟩
                have HBLx := hide (HBL.out.oth HGL.out ho (fun e => hmg (by injection e)))
                have HO2x := hide (HO2.out.trans ho)
                have HGLx : Hid (g < w2.heap.size) := Nat.lt_of_lt_of_le HGL.out ho.size
                have HMLx : Hid (mb < w2.heap.size) := Nat.lt_of_lt_of_le HML.out ho.size
                have HD2x := hide hd
                clear HD2 HBL HO2 HGL HML q0 q1 q2 q3 q4 hd ho
                have HD2 := HD2x
                have HBL := HBLx
                have HO2 := HO2x
                have HGL := HGLx
                have HML := HMLx
                clear HD2x HBLx HO2x HGLx HMLx
                obtain ⟨q0, q1, q2, q3, q4⟩ := bl_get HBL.out
                have p17 := HD2.out.m.pc
                have f17 := HD2.out.m.bl.free 17
                have s0 := HD2.out.s0
                have s1 := HD2.out.s1
                have s2 := HD2.out.s2
                have f22 := HD2.out.m.bl.free 22
                have f23 := HD2.out.m.bl.free 23
                have f24 := HD2.out.m.bl.free 24
                have HR := hide ((HD2.out.setP nl).stop 0 1 0)
                have HOR := hide (((((HO2.out.setCell (j := 17) (.int .u32 (nx : Int))).setCell (j := 22) (.int .i64 0)).setCell (j := 23) (.int .i64 1)).setCell (j := 24) (.int .i64 0)))
                go_wp2
                go_end0
                exact ⟨rfl, ⟨_, by rw [HSS.out]; exact HR.out⟩, HOR.out⟩
              · exact absurd hval (by unfold aluV; simp)
            · have HDI : Hid (m.doI (mkI 19 a b c s) = match aluV 5 (m.reg b) (un s) with | some v => ((m.setR a v).setP nx, 0) | none => (m, 7)) := HCI.out 19 o1 o2
              have HDO := hide (fun w => refDo_all 5 (m.reg b) (un s) w (by decide) (by decide) lb zl)
              have la' := lb
              have lb' := zl
              go_wp2_with fail
              refine Calls.mono (HDO.out _) ?_
              rintro e w4 ⟨⟨xx, kk, rfl, hcase⟩, b4⟩
              have HBLx := hide (HBL.out.below HGL.out b4)
              have HO2x : Hid (Oth (some mb) w w4) := HO2.out.trans (Oth.ofBelow b4)
              have HGLx : Hid (g < w4.heap.size) := Nat.lt_of_lt_of_le HGL.out b4.size
              have HMLx : Hid (mb < w4.heap.size) := Nat.lt_of_lt_of_le HML.out b4.size
              have HD2x := hide (HD2.out.below b4)
              clear HD2 HBL HO2 HGL HML q0 q1 q2 q3 q4 b4
              have HD2 := HD2x
              have HBL := HBLx
              have HO2 := HO2x
              have HGL := HGLx
              have HML := HMLx
              clear HD2x HBLx HO2x HGLx HMLx
              obtain ⟨q0, q1, q2, q3, q4⟩ := bl_get HBL.out
              rcases hcase with ⟨rfl, hval⟩ | ⟨rfl, hval⟩
              · have HXL : Hid (xx < 4294967296) := alu_lt la' lb' hval
                have HSS : Hid (m.step = ((m.setR a xx).setP nx, 0, 0)) := by
                  unfold Hid
                  rw [HST.out, HDI.out, hval]
                  show (if (0 : Nat) ≠ 0 then _ else if (19 : Int) = 64 then _ else ((m.setR a xx).setP nx, 0, 0)) = _
                  rw [if_neg (fun h => h rfl), if_neg (by omega)]
                clear hval HDI HST
                go_wp2_with fail
                refine Calls.mono (rset_any HD2.out a xx ha HXL.out) ?_
                rintro e w2 ⟨rfl, hd, ho⟩
                have HBLx := hide (HBL.out.oth HGL.out ho (fun e => hmg (by injection e)))
                have HO2x := hide (HO2.out.trans ho)
                have HGLx : Hid (g < w2.heap.size) := Nat.lt_of_lt_of_le HGL.out ho.size
                have HMLx : Hid (mb < w2.heap.size) := Nat.lt_of_lt_of_le HML.out ho.size
                have HD2x := hide hd
                clear HD2 HBL HO2 HGL HML q0 q1 q2 q3 q4 hd ho
                have HD2 := HD2x
                have HBL := HBLx
                have HO2 := HO2x
                have HGL := HGLx
                have HML := HMLx
                clear HD2x HBLx HO2x HGLx HMLx
                obtain ⟨q0, q1, q2, q3, q4⟩ := bl_get HBL.out
                have p17 := HD2.out.m.pc
                have f17 := HD2.out.m.bl.free 17
                have s0 := HD2.out.s0
                have s1 := HD2.out.s1
                have s2 := HD2.out.s2
                have f22 := HD2.out.m.bl.free 22
                have f23 := HD2.out.m.bl.free 23
                have f24 := HD2.out.m.bl.free 24
                have HR := hide ((HD2.out.setP nl).stop 0 1 0)
                have HOR := hide (((((HO2.out.setCell (j := 17) (.int .u32 (nx : Int))).setCell (j := 22) (.int .i64 0)).setCell (j := 23) (.int .i64 1)).setCell (j := 24) (.int .i64 0)))
                go_wp2
                go_end0
                exact ⟨rfl, ⟨_, by rw [HSS.out]; exact HR.out⟩, HOR.out⟩
              · exact absurd hval (by unfold aluV; simp)
            · obtain ⟨xx, hxx⟩ : ∃ xx, un s * 65536 % 4294967296 = xx := ⟨_, rfl⟩
              have e6 : ((un s : Nat) : Int) * 65536 % 4294967296 = (xx : Int) := by omega
              have HXL : Hid (xx < 4294967296) := by unfold Hid; omega
              have HSS : Hid (m.step = ((m.setR a xx).setP nx, 0, 0)) := by
                unfold Hid
                rw [HST.out, HCI.out 20 o1 o2]
                have : m.cmp (mkI 20 a b c s) = some (un s * 65536 % 4294967296) := rfl
                rw [this, hxx]
                rfl
              clear hxx HST
              generalize un s = zz at *
              go_wp2_with fail
              refine Calls.mono (rset_any HD2.out a xx ha HXL.out) ?_
              rintro e w2 ⟨rfl, hd, ho⟩
              have HBLx := hide (HBL.out.oth HGL.out ho (fun e => hmg (by injection e)))
              have HO2x := hide (HO2.out.trans ho)
              have HGLx : Hid (g < w2.heap.size) := Nat.lt_of_lt_of_le HGL.out ho.size
              have HMLx : Hid (mb < w2.heap.size) := Nat.lt_of_lt_of_le HML.out ho.size
              have HD2x := hide hd
              clear HD2 HBL HO2 HGL HML q0 q1 q2 q3 q4 hd ho
              have HD2 := HD2x
              have HBL := HBLx
              have HO2 := HO2x
              have HGL := HGLx
              have HML := HMLx
              clear HD2x HBLx HO2x HGLx HMLx
              obtain ⟨q0, q1, q2, q3, q4⟩ := bl_get HBL.out
              have p17 := HD2.out.m.pc
              have f17 := HD2.out.m.bl.free 17
              have s0 := HD2.out.s0
              have s1 := HD2.out.s1
              have s2 := HD2.out.s2
              have f22 := HD2.out.m.bl.free 22
              have f23 := HD2.out.m.bl.free 23
              have f24 := HD2.out.m.bl.free 24
              have HR := hide ((HD2.out.setP nl).stop 0 1 0)
              have HOR := hide (((((HO2.out.setCell (j := 17) (.int .u32 (nx : Int))).setCell (j := 22) (.int .i64 0)).setCell (j := 23) (.int .i64 1)).setCell (j := 24) (.int .i64 0)))
              go_wp2
              go_end0
              exact ⟨rfl, ⟨_, by rw [HSS.out]; exact HR.out⟩, HOR.out⟩
    · --
      as_aux_lemma =>
        have d9 : ((F : Int) != 0) = true := by rw [bne_iff_ne]; omega
        have HS : Hid (m.step = (m, 2, (F : Int))) := by
          have := HSTEP.out
          rw [if_pos hF] at this
          exact this
        clear hF
        go_wp2_with fail
        refine Calls.mono (rfault_any HD2.out (F : Int)) ?_
        rintro e w2 ⟨rfl, hd, ho⟩
        go_wp2
        refine bodyPost_ret (v := .tuple #[]) (results_none rfl _ _ _) rfl ?_
        exact ⟨rfl, ⟨_, by rw [HS.out]; exact hd⟩, HO2.out.trans ho⟩
end Go.Proofs.YtegkodgondlcmaaDoor
