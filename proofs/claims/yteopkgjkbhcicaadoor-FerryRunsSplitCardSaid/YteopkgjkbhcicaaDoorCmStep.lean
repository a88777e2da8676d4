/-
  One step of the machine.
-/
import Derived.Test.YteopkgjkbhcicaaDoorCmDo2
namespace Go.Proofs.YteopkgjkbhcicaaDoor
open Go.RowKit FerryCrc FerryAlu
set_option linter.unusedVariables false
set_option linter.unusedSimpArgs false

theorem ins_nat {i : Ins} (h : okI i = true) : ∃ a b c : Nat, i = mkI i.op a b c i.imm ∧ a < 16 ∧ b < 16 ∧ c < 16 ∧ -32768 ≤ i.imm ∧ i.imm ≤ 65535 := by
  unfold okI bA bB bC bI at h
  simp only [Bool.and_eq_true, decide_eq_true_eq, ne_eq] at h
  obtain ⟨h0, ⟨a0, a1⟩, ⟨b0, b1⟩, ⟨c0, c1⟩, i0, i1⟩ := h
  have f7 := form_le i.op
  obtain ⟨op, a, b, c, imm⟩ := i
  simp only at *
  have g : a ≤ 15 ∧ b ≤ 15 ∧ c ≤ 15 ∧ -32768 ≤ imm ∧ imm ≤ 65535 := by
    generalize form op = f at *
    rcases (by omega : f = 1 ∨ f = 2 ∨ f = 3 ∨ f = 4 ∨ f = 5 ∨ f = 6 ∨ f = 7) with rfl | rfl | rfl | rfl | rfl | rfl | rfl
    all_goals
      simp [hiA, hiB, hiC, loI, hiI] at *
      omega
  refine ⟨a.toNat, b.toNat, c.toNat, ?_, by omega, by omega, by omega, g.2.2.2.1, g.2.2.2.2⟩
  simp only [Ins.mk.injEq, true_and, and_true]
  omega
theorem op_cases {i : Ins} (h : okI i = true) : (32 ≤ i.op ∧ i.op ≤ 34) ∨ (35 ≤ i.op ∧ i.op ≤ 37) ∨ (48 ≤ i.op ∧ i.op ≤ 53) ∨ i.op = 54 ∨ i.op = 55 ∨ i.op = 64 ∨ (1 ≤ i.op ∧ i.op ≤ 20) := by
  unfold okI at h
  simp only [Bool.and_eq_true, decide_eq_true_eq, ne_eq] at h
  have h0 := h.1
  unfold form at h0
  repeat' split at h0
  all_goals omega

theorem do_any {w : World} {mb base : Nat} {v : Value} {m : Mc} (h : MAt w mb base v m) (i : Ins) (hi : okI i = true) (A : Addr) (hd : Dvz w A) :
    Calls Tryd.prog 25 #[.pointer (some ⟨mb, 0, none⟩), .agg i.cells] w fun e w' => e = .returned (.int .i64 (((m.doI i).2 : Nat) : Int)) ∧ MAt w' mb base v (m.doI i).1 ∧ Mfr mb v w w' := by
  obtain ⟨a, b, c, e, ha, hb, hc, i0, i1⟩ := ins_nat hi
  have ho := op_cases hi
  obtain ⟨op, a', b', c', imm⟩ := i
  simp only at *
  rw [e]
  clear e
  rcases ho with ⟨o1, o2⟩ | ⟨o1, o2⟩ | ⟨o1, o2⟩ | o1 | o1 | o1 | ⟨o1, o2⟩
  · exact do_load h op a b c imm ha hb hc (by omega) (by omega) o1 o2
  · exact do_store h op a b c imm ha hb hc (by omega) (by omega) o1 o2
  · exact do_branch h op a b c imm ha hb hc (by omega) (by omega) o1 o2
  · exact do_jal h op a b c imm ha hb hc (by omega) (by omega) o1
  · exact do_jr h op a b c imm ha hb hc (by omega) (by omega) o1
  · exact do_sys h op a b c imm ha hb hc (by omega) (by omega) o1
  · exact do_comp h op a b c imm ha hb hc (by omega) (by omega) o1 o2 A hd
theorem fIns_ok {l : List Pg} {n : Nat} (h : fCode l n = 0) : okI (fIns l n) = true := by
  unfold fCode at h
  unfold fIns
  by_cases h0 : nfault l n 4 2 = 0
  · rw [if_pos h0] at h ⊢
    by_cases h1 : okI (cand (ldv l n 4 2)) = true
    · unfold dec
      rw [if_pos h1]
      exact h1
    · rw [if_neg h1] at h
      cases h
  · rw [if_neg h0] at h
    exact absurd h h0
theorem fault_same (m : Mc) (i : Ins) (h : (m.doI i).2 ≠ 0) : (m.doI i).1 = m := by
  unfold Mc.doI at *
  split at h
  · rename_i h1
    rw [if_pos h1]
    split at h
    · exact absurd rfl h
    · rename_i h2
      rw [if_neg h2]
  · rename_i h1
    rw [if_neg h1]
    split at h
    · rename_i h2
      rw [if_pos h2]
      split at h
      · exact absurd rfl h
      · rename_i h3
        rw [if_neg h3]
    · rename_i h2
      rw [if_neg h2]
      split at h
      · exact absurd rfl h
      · rename_i h3
        rw [if_neg h3]
        split at h
        · exact absurd rfl h
        · rename_i h4
          rw [if_neg h4]
          split at h
          · exact absurd rfl h
          · rename_i h5
            rw [if_neg h5]
            split at h
            · exact absurd rfl h
            · rename_i h6
              rw [if_neg h6]
              cases hc : m.cmp i with
              | some v => rw [hc] at h; exact absurd rfl h
              | none => rfl
/-- What the machine's functions read of the package-level variables. -/
structure Cov (w : World) (A : Addr) : Prop where
  isv : Isv w
  dvz : Dvz w A
theorem Cov.below {w w' : World} {A : Addr} (h : Cov w A) (hb : Below w.heap.size w w') : Cov w' A := ⟨h.isv.below hb, h.dvz.below hb⟩

theorem heldM {W wz : World} {mb base : Nat} {v : Value} {m : Mc} (hm : MAt W mb base v m) (hb : Below W.heap.size W wz) : wz.cell? ⟨mb, 0, none⟩ = some v ∧ wz.cell? ⟨mb, 17, none⟩ = some (.int .u32 (m.pc : Int)) :=
  ⟨(hm.below hb).pages, (hm.below hb).pc⟩

set_option maxRecDepth 100000 in
set_option maxHeartbeats 8000000 in
theorem step_any {w : World} {mb base : Nat} {v : Value} {m : Mc} (h : MAt w mb base v m) (A : Addr) (hv : Cov w A) :
    Calls Tryd.prog 21 #[.pointer (some ⟨mb, 0, none⟩)] w fun e w' => e = .returned (.tuple #[.int .i64 ((m.step.2.1 : Nat) : Int), .int .i64 m.step.2.2]) ∧ MAt w' mb base v m.step.1 ∧ Mfr mb v w w' := by
  obtain ⟨pa, pq, rfl, _, _⟩ := h.own.pgs h.ok.ok h.ok.most
  have HM := hide h
  have HV := hide hv
  have r0 := h.pages
  have r1 := h.pc
  have HF := hide (coreFetch_any pa m.pages.length pq m.pages m.pc w h.pgs.1 h.ok.pc hv.isv)
  clear h hv
  go_enter Tryd.func21, Tryd.ntmps21
  go_wp2_with fail
  have HF2 : Hid (∀ W, Below w.heap.size w W → Calls Tryd.prog 24 #[.slice pa m.pages.length pq, .int .u32 (m.pc : Int)] W fun e w' => e = .returned (.tuple #[.agg (fIns m.pages m.pc).cells, .int .i64 ((fCode m.pages m.pc : Nat) : Int)]) ∧ Below W.heap.size W w') := fun W hW => coreFetch_any pa m.pages.length pq m.pages m.pc W (HM.out.below hW).pgs.1 HM.out.ok.pc (HV.out.isv.below hW)
  obtain ⟨I, hI⟩ : ∃ I, fIns m.pages m.pc = I := ⟨_, rfl⟩
  obtain ⟨F, hF⟩ : ∃ F, fCode m.pages m.pc = F := ⟨_, rfl⟩
  rw [hI, hF] at HF2
  have HI := hide hI
  have HFF := hide hF
  clear hI hF HF
  obtain ⟨o, p, q, r, s⟩ := I
  unfold Ins.cells at HF2
  have HW := hide (Below.refl w.heap.size w)
  have HA : Hid (Below w.heap.size w (w.alloc (.cells #[.int .i64 0, .int .i64 0, .int .i64 0, .int .i64 0, .int .i64 0] 71)).drew) := ((Below.refl _ _).alloc (Nat.le_refl _) _).drew
  have HLb := hide (bl_alloc w #[.int .i64 0, .int .i64 0, .int .i64 0, .int .i64 0, .int .i64 0] 71)
  have HLs : Hid (w.heap.size < (w.alloc (.cells #[.int .i64 0, .int .i64 0, .int .i64 0, .int .i64 0, .int .i64 0] 71)).heap.size) := by unfold Hid; simp
  go_region_held3 (fun wz => wz.cell? ⟨mb, 0, none⟩ = some (.slice pa m.pages.length pq) ∧ wz.cell? ⟨mb, 17, none⟩ = some (.int .u32 (m.pc : Int)))
    (first | exact heldM HM.out HW.out | exact heldM HM.out HW.out.drew | exact heldM HM.out (HW.out.alloc HW.out.size _) | exact heldM HM.out (HW.out.alloc HW.out.size _).drew | exact heldM HM.out HX.out | exact heldM HM.out HX.out.drew)
    (first
      | (go_at_call 24; refine (HF2.out w.drew HW.out.drew).mono ?_; rintro e wx ⟨rfl, bx⟩; have HW := hide (chain HW.out (undrewC bx)); clear bx)
      | (go_at_call 24; refine (HF2.out ((w.alloc (.cells #[.int .i64 0, .int .i64 0, .int .i64 0, .int .i64 0, .int .i64 0] 71)).drew) HA.out).mono ?_; rintro e wx ⟨rfl, bx⟩; have HW := hide (chain HA.out bx); obtain ⟨z0, z1, z2, z3, z4⟩ := bl_get (HLb.out.below HLs.out (undrewC bx)); obtain ⟨y0, y1, y2, y3, y4⟩ := bl_free (HLb.out.below HLs.out (undrewC bx)); have HZ2 := hide ((HLb.out.below HLs.out (undrewC bx)).five (.int .i64 o) (.int .i64 p) (.int .i64 q) (.int .i64 r) (.int .i64 s)); have HX := hide (below_five HW.out (Nat.le_refl _) (.int .i64 o) (.int .i64 p) (.int .i64 q) (.int .i64 r) (.int .i64 s)); have HXS : Hid (w.heap.size < wx.heap.size) := Nat.lt_of_lt_of_le HLs.out bx.size; clear bx)
      | fail)
  · have HBL := hide (bl_alloc wx #[.int .i64 o, .int .i64 p, .int .i64 q, .int .i64 r, .int .i64 s] 71)
    have HB5 : Hid (Below w.heap.size w (wx.alloc (.cells #[.int .i64 o, .int .i64 p, .int .i64 q, .int .i64 r, .int .i64 s] 71))) := HW.out.alloc HW.out.size _
    have HG5 : Hid (wx.heap.size < (wx.alloc (.cells #[.int .i64 o, .int .i64 p, .int .i64 q, .int .i64 r, .int .i64 s] 71)).heap.size) := by unfold Hid; simp
    have HGW : Hid (w.heap.size ≤ wx.heap.size) := HW.out.size
    generalize wx.alloc (.cells #[.int .i64 o, .int .i64 p, .int .i64 q, .int .i64 r, .int .i64 s] 71) = W5 at *
    generalize wx.heap.size = g5 at *
    clear HW HA HLb HLs
    have HMF : Hid (Mfr mb (.slice pa m.pages.length pq) w W5) := Mfr.ofBelow HB5.out
    have HM5 := hide (HM.out.below HB5.out)
    have HNE : Hid (g5 ≠ mb ∧ (Value.slice pa m.pages.length pq).ownBlock ≠ some g5) := ⟨fun e => by have h1 := HM.out.lt; have h2 := HGW.out; omega, fun e => by have h1 := (World.ownsRow.lt HM.out.own _ e).2; have h2 := HGW.out; omega⟩
    obtain ⟨q0, q1, q2, q3, q4⟩ := bl_get HBL.out
    by_cases hF : F = 0
    · subst hF
      have hok := fIns_ok HFF.out
      rw [HI.out] at hok
      have HS : Hid (m.step = if (m.doI ⟨o, p, q, r, s⟩).2 ≠ 0 then (m, 2, ((m.doI ⟨o, p, q, r, s⟩).2 : Int)) else if o = 64 then ((m.doI ⟨o, p, q, r, s⟩).1, 1, s) else ((m.doI ⟨o, p, q, r, s⟩).1, 0, 0)) := by
        unfold Hid Mc.step
        rw [HI.out, HFF.out, if_neg (fun h => h rfl)]
      have HS3 : Hid ((m.doI ⟨o, p, q, r, s⟩).2 ≠ 0 → (m.doI ⟨o, p, q, r, s⟩).1 = m) := fault_same m ⟨o, p, q, r, s⟩
      have HDO : Hid (Calls Tryd.prog 25 #[.pointer (some ⟨mb, 0, none⟩), .agg #[.int .i64 o, .int .i64 p, .int .i64 q, .int .i64 r, .int .i64 s]] W5 fun e w' => e = .returned (.int .i64 (((m.doI ⟨o, p, q, r, s⟩).2 : Nat) : Int)) ∧ MAt w' mb base (.slice pa m.pages.length pq) (m.doI ⟨o, p, q, r, s⟩).1 ∧ Mfr mb (.slice pa m.pages.length pq) W5 w') := do_any HM5.out ⟨o, p, q, r, s⟩ hok A (HV.out.dvz.below HB5.out)
      clear hok
      generalize m.doI ⟨o, p, q, r, s⟩ = R at *
      obtain ⟨m1, f1⟩ := R
      go_wp2_with fail
      refine Calls.mono HDO.out ?_
      rintro e w6 ⟨rfl, hm6, b6⟩
      have HF6 := hide (HMF.out.trans b6)
      obtain ⟨k0, k1, k2, k3, k4⟩ := bl_get (HBL.out.mfr HG5.out b6 HNE.out.1 HNE.out.2)
      by_cases hf1 : f1 = 0
      · subst hf1
        have HS2 := HS.out
        rw [if_neg (fun h => h rfl)] at HS2
        have HM6 := hide hm6
        by_cases ho : o = 64
        · subst ho
          rw [if_pos rfl] at HS2
          have HSS := hide HS2
          clear HS HS2 hm6 b6 HDO
          go_wp2_with fail
          go_quiet (fail)
          go_wp2
          go_ret2
          exact ⟨by rw [HSS.out]; rfl, by rw [HSS.out]; exact HM6.out.below (drewN_below (Below.refl _ _) _), by rw [← World.drewN_zero (w := w)]; exact HF6.out.trans (Mfr.ofBelow (drewN_below (Below.refl _ _) _))⟩
        · have d64 : (o == 64) = false := by simpa using ho
          rw [if_neg ho] at HS2
          have HSS := hide HS2
          clear HS HS2 hm6 b6 HDO
          go_wp2
          go_ret2
          exact ⟨by rw [HSS.out]; rfl, by rw [HSS.out]; exact HM6.out, HF6.out⟩
      · have d9 : ((f1 : Int) != 0) = true := by rw [bne_iff_ne]; omega
        have HS2 := HS.out
        rw [if_pos hf1] at HS2
        have HSS := hide HS2
        have hsame := HS3.out hf1
        subst hsame
        have HM6 := hide hm6
        clear HS HS2 hm6 b6 HDO
        go_wp2
        go_ret2
        exact ⟨by rw [HSS.out]; rfl, by rw [HSS.out]; exact HM6.out, HF6.out⟩
    · have d8 : ((F : Int) == 0) = false := by rw [beq_eq_false_iff_ne]; omega
      have d9 : ((F : Int) != 0) = true := by rw [bne_iff_ne]; omega
      have HS : Hid (m.step = (m, 2, (F : Int))) := by
        unfold Hid Mc.step
        rw [HFF.out, if_pos hF]
      clear hF
      go_wp2
      go_ret2
      exact ⟨by rw [HS.out]; rfl, by rw [HS.out]; exact HM5.out, HMF.out⟩
  · have HBL := HZ2
    have HB5 := HX
    have HG5 : Hid (w.heap.size < (set5 wx w.heap.size (.int .i64 o) (.int .i64 p) (.int .i64 q) (.int .i64 r) (.int .i64 s)).heap.size) := by unfold Hid set5; simpa [World.setCell] using HXS.out
    have HGW : Hid (w.heap.size ≤ w.heap.size) := Nat.le_refl _
    clear HZ2 HX HW HA HLb HLs z0 z1 z2 z3 z4 y0 y1 y2 y3 y4 HXS
    unfold set5 at HBL HB5 HG5
    generalize ((((wx.setCell ⟨w.heap.size, 0, none⟩ (.int .i64 o)).setCell ⟨w.heap.size, 1, none⟩ (.int .i64 p)).setCell ⟨w.heap.size, 2, none⟩ (.int .i64 q)).setCell ⟨w.heap.size, 3, none⟩ (.int .i64 r)).setCell ⟨w.heap.size, 4, none⟩ (.int .i64 s) = W5 at *
    have HMF : Hid (Mfr mb (.slice pa m.pages.length pq) w W5) := Mfr.ofBelow HB5.out
    have HM5 := hide (HM.out.below HB5.out)
    have HNE : Hid (w.heap.size ≠ mb ∧ (Value.slice pa m.pages.length pq).ownBlock ≠ some w.heap.size) := ⟨fun e => by have h1 := HM.out.lt; have h2 := HGW.out; omega, fun e => by have h1 := (World.ownsRow.lt HM.out.own _ e).2; have h2 := HGW.out; omega⟩
    obtain ⟨q0, q1, q2, q3, q4⟩ := bl_get HBL.out
    by_cases hF : F = 0
    · subst hF
      have hok := fIns_ok HFF.out
      rw [HI.out] at hok
      have HS : Hid (m.step = if (m.doI ⟨o, p, q, r, s⟩).2 ≠ 0 then (m, 2, ((m.doI ⟨o, p, q, r, s⟩).2 : Int)) else if o = 64 then ((m.doI ⟨o, p, q, r, s⟩).1, 1, s) else ((m.doI ⟨o, p, q, r, s⟩).1, 0, 0)) := by
        unfold Hid Mc.step
        rw [HI.out, HFF.out, if_neg (fun h => h rfl)]
      have HS3 : Hid ((m.doI ⟨o, p, q, r, s⟩).2 ≠ 0 → (m.doI ⟨o, p, q, r, s⟩).1 = m) := fault_same m ⟨o, p, q, r, s⟩
      have HDO : Hid (Calls Tryd.prog 25 #[.pointer (some ⟨mb, 0, none⟩), .agg #[.int .i64 o, .int .i64 p, .int .i64 q, .int .i64 r, .int .i64 s]] W5 fun e w' => e = .returned (.int .i64 (((m.doI ⟨o, p, q, r, s⟩).2 : Nat) : Int)) ∧ MAt w' mb base (.slice pa m.pages.length pq) (m.doI ⟨o, p, q, r, s⟩).1 ∧ Mfr mb (.slice pa m.pages.length pq) W5 w') := do_any HM5.out ⟨o, p, q, r, s⟩ hok A (HV.out.dvz.below HB5.out)
      clear hok
      generalize m.doI ⟨o, p, q, r, s⟩ = R at *
      obtain ⟨m1, f1⟩ := R
      go_wp2_with fail
      refine Calls.mono HDO.out ?_
      rintro e w6 ⟨rfl, hm6, b6⟩
      have HF6 := hide (HMF.out.trans b6)
      obtain ⟨k0, k1, k2, k3, k4⟩ := bl_get (HBL.out.mfr HG5.out b6 HNE.out.1 HNE.out.2)
      by_cases hf1 : f1 = 0
      · subst hf1
        have HS2 := HS.out
        rw [if_neg (fun h => h rfl)] at HS2
        have HM6 := hide hm6
        by_cases ho : o = 64
        · subst ho
          rw [if_pos rfl] at HS2
          have HSS := hide HS2
          clear HS HS2 hm6 b6 HDO
          go_wp2_with fail
          go_quiet (fail)
          go_wp2
          go_ret2
          exact ⟨by rw [HSS.out]; rfl, by rw [HSS.out]; exact HM6.out.below (drewN_below (Below.refl _ _) _), by rw [← World.drewN_zero (w := w)]; exact HF6.out.trans (Mfr.ofBelow (drewN_below (Below.refl _ _) _))⟩
        · have d64 : (o == 64) = false := by simpa using ho
          rw [if_neg ho] at HS2
          have HSS := hide HS2
          clear HS HS2 hm6 b6 HDO
          go_wp2
          go_ret2
          exact ⟨by rw [HSS.out]; rfl, by rw [HSS.out]; exact HM6.out, HF6.out⟩
      · have d9 : ((f1 : Int) != 0) = true := by rw [bne_iff_ne]; omega
        have HS2 := HS.out
        rw [if_pos hf1] at HS2
        have HSS := hide HS2
        have hsame := HS3.out hf1
        subst hsame
        have HM6 := hide hm6
        clear HS HS2 hm6 b6 HDO
        go_wp2
        go_ret2
        exact ⟨by rw [HSS.out]; rfl, by rw [HSS.out]; exact HM6.out, HF6.out⟩
    · have d8 : ((F : Int) == 0) = false := by rw [beq_eq_false_iff_ne]; omega
      have d9 : ((F : Int) != 0) = true := by rw [bne_iff_ne]; omega
      have HS : Hid (m.step = (m, 2, (F : Int))) := by
        unfold Hid Mc.step
        rw [HFF.out, if_pos hF]
      clear hF
      go_wp2
      go_ret2
      exact ⟨by rw [HS.out]; rfl, by rw [HS.out]; exact HM5.out, HMF.out⟩
end Go.Proofs.YteopkgjkbhcicaaDoor
