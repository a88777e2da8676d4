/-
  The document's Check of an instruction.
-/
import Derived.Test.YthcmeboepedelaaDoorIsRef
import Derived.Test.YthcmeboepedelaaDoorIsBl
import Derived.BigQuiet

namespace Go.Proofs.YthcmeboepedelaaDoor
open Go.RowKit FerryCrc
set_option linter.unusedVariables false
set_option linter.unusedSimpArgs false
theorem drewN_below {B : Nat} {a w : World} (h : Below B a w) (nq : Nat) : Below B a (w.drewN nq) := ⟨h.os, h.tape, h.output, h.size, h.block⟩

/-- A field against its range, as the document asks. -/
def wth (u : Bool) (n lo hi : Int) : Bool := if u then decide (lo ≤ n) && decide (n ≤ hi) else n == 0
theorem rwithin_at {u t : Bool} {n lo hi : Int} (h : wth u n lo hi = t) (w : World) : Calls Tryd.prog 25 #[.bool u, .int .i64 n, .int .i64 lo, .int .i64 hi] w fun e w' => e = .returned (.bool t) ∧ w = w' := by
  rw [← h]
  exact rwithin_any u n lo hi w
theorem uses_at {f c : Nat} {t : Bool} (hf : f < 8) (hc : c < 256) (h : usesB f c = t) (w : World) : Calls Tryd.prog 26 #[.int .i64 (f : Int), .int .u8 (c : Int)] w fun e w' => e = .returned (.bool t) ∧ w = w' := by
  rw [← h]
  exact uses_any f c w hf hc
/-- The parts of the document's check. -/
theorem okI_doc (i : Ins) (f : Nat) (hf : form i.op = f) (h0 : f ≠ 0) (h7 : f ≤ 7) :
    okI i = (wth (usesB f 65) i.a 0 15 && (wth (usesB f 66) i.b 0 15 && (wth (usesB f 67) i.c 0 15 && (if usesB f 73 then wth true i.imm (-32768) 32767 else wth (usesB f 85) i.imm 0 65535)))) := by
  unfold okI bA bB bC bI wth
  rw [hf]
  have e (n : Int) : (decide (0 ≤ n) && decide (n ≤ 0)) = (n == 0) := by
    rw [Bool.eq_iff_iff]
    simp only [Bool.and_eq_true, decide_eq_true_eq, beq_iff_eq]
    omega
  rcases (by omega : f = 1 ∨ f = 2 ∨ f = 3 ∨ f = 4 ∨ f = 5 ∨ f = 6 ∨ f = 7) with rfl | rfl | rfl | rfl | rfl | rfl | rfl
  all_goals simp [usesB, usesL, hiA, hiB, hiC, loI, hiI, e]

def codeI (i : Ins) : Nat := if form i.op = 0 then 7 else if okI i then 0 else 4

set_option maxRecDepth 100000 in
set_option maxHeartbeats 4000000 in
theorem rcheck_any (i : Ins) (w : World) : Calls Tryd.prog 17 #[.agg i.cells] w fun e w' => e = .returned (.int .i64 ((codeI i : Nat) : Int)) ∧ Below w.heap.size w w' := by
  obtain ⟨op, a, b, c, imm⟩ := i
  obtain ⟨f, hf⟩ : ∃ f, form op = f := ⟨_, rfl⟩
  have f7 : f ≤ 7 := by rw [← hf]; exact form_le op
  have HF := hide (rform_any op)
  rw [hf] at HF
  unfold Ins.cells
  have D0 : Hid (Below w.heap.size w (w.alloc (.cells #[.int .i64 op, .int .i64 a, .int .i64 b, .int .i64 c, .int .i64 imm] 27))) := (Below.refl _ _).alloc (Nat.le_refl _) _
  have hbl := bl_alloc w #[.int .i64 op, .int .i64 a, .int .i64 b, .int .i64 c, .int .i64 imm] 27
  by_cases f0 : f = 0
  · subst f0
    have HE : Hid (codeI ⟨op, a, b, c, imm⟩ = 7) := by unfold Hid codeI; rw [if_pos hf]
    clear hf
    go_enter Tryd.func17, Tryd.ntmps17
    go_wp2_with fail
    refine Calls.mono (HF.out _) ?_
    rintro e w' ⟨rfl, rfl⟩
    go_wp2
    go_ret
    exact ⟨by rw [HE.out]; rfl, D0.out⟩
  have HE0 := hide (okI_doc ⟨op, a, b, c, imm⟩ f hf f0 f7)
  have HC : Hid (codeI ⟨op, a, b, c, imm⟩ = if okI ⟨op, a, b, c, imm⟩ then 0 else 4) := by unfold Hid codeI; rw [if_neg (by rw [hf]; exact f0)]
  have d0 : ((f : Int) == 0) = false := by simp; omega
  obtain ⟨uA, hA⟩ : ∃ t, usesB f 65 = t := ⟨_, rfl⟩
  obtain ⟨uB, hB⟩ : ∃ t, usesB f 66 = t := ⟨_, rfl⟩
  obtain ⟨uC, hC⟩ : ∃ t, usesB f 67 = t := ⟨_, rfl⟩
  obtain ⟨uI, hI⟩ : ∃ t, usesB f 73 = t := ⟨_, rfl⟩
  obtain ⟨uU, hU⟩ : ∃ t, usesB f 85 = t := ⟨_, rfl⟩
  have UA : Hid (∀ w, Calls Tryd.prog 26 #[.int .i64 (f : Int), .int .u8 65] w fun e w' => e = .returned (.bool uA) ∧ w = w') := fun w => uses_at (by omega) (by decide) hA w
  have UB : Hid (∀ w, Calls Tryd.prog 26 #[.int .i64 (f : Int), .int .u8 66] w fun e w' => e = .returned (.bool uB) ∧ w = w') := fun w => uses_at (by omega) (by decide) hB w
  have UC : Hid (∀ w, Calls Tryd.prog 26 #[.int .i64 (f : Int), .int .u8 67] w fun e w' => e = .returned (.bool uC) ∧ w = w') := fun w => uses_at (by omega) (by decide) hC w
  have UI : Hid (∀ w, Calls Tryd.prog 26 #[.int .i64 (f : Int), .int .u8 73] w fun e w' => e = .returned (.bool uI) ∧ w = w') := fun w => uses_at (by omega) (by decide) hI w
  have UU : Hid (∀ w, Calls Tryd.prog 26 #[.int .i64 (f : Int), .int .u8 85] w fun e w' => e = .returned (.bool uU) ∧ w = w') := fun w => uses_at (by omega) (by decide) hU w
  rw [hA, hB, hC, hI, hU] at HE0
  obtain ⟨tA, gA⟩ : ∃ t, wth uA a 0 15 = t := ⟨_, rfl⟩
  obtain ⟨tB, gB⟩ : ∃ t, wth uB b 0 15 = t := ⟨_, rfl⟩
  obtain ⟨tC, gC⟩ : ∃ t, wth uC c 0 15 = t := ⟨_, rfl⟩
  obtain ⟨tI, gI⟩ : ∃ t, wth true imm (-32768) 32767 = t := ⟨_, rfl⟩
  obtain ⟨tU, gU⟩ : ∃ t, wth uU imm 0 65535 = t := ⟨_, rfl⟩
  have WA := hide (rwithin_at gA)
  have WB := hide (rwithin_at gB)
  have WC := hide (rwithin_at gC)
  have WI := hide (rwithin_at gI)
  have WU := hide (rwithin_at gU)
  have HE : Hid (codeI ⟨op, a, b, c, imm⟩ = if (tA && (tB && (tC && (if uI then tI else tU)))) then 0 else 4) := by
    unfold Hid
    rw [HC.out, HE0.out]
    simp only [gA, gB, gC, gI, gU]
  clear hA hB hC hI hU gA gB gC gI gU HE0 HC hf f7 f0
  obtain ⟨c0, c1, c2, c3, c4⟩ := bl_get hbl
  clear hbl
  go_enter Tryd.func17, Tryd.ntmps17
  go_wp2_with fail
  refine Calls.mono (HF.out _) ?_
  rintro e w' ⟨rfl, rfl⟩
  go_wp2_with fail
  clear HF
  generalize w.alloc (.cells #[.int .i64 op, .int .i64 a, .int .i64 b, .int .i64 c, .int .i64 imm] 27) = W0 at *
  cases tA with
  | false =>
    go_quiet (first | (go_at_call 26; with_reducible exact Calls.quiet_of_same ((UA.out _).mono fun _ _ h => ⟨h.1, h.2.symm⟩)) | (go_at_call 25; with_reducible exact Calls.quiet_of_same ((WA.out _).mono fun _ _ h => ⟨h.1, h.2.symm⟩)))
    go_wp2
    go_ret
    exact ⟨by rw [HE.out]; rfl, drewN_below D0.out _⟩
  | true =>
    cases tB with
    | false =>
      go_quiet (first | (go_at_call 26; with_reducible exact Calls.quiet_of_same ((UA.out _).mono fun _ _ h => ⟨h.1, h.2.symm⟩)) | (go_at_call 26; with_reducible exact Calls.quiet_of_same ((UB.out _).mono fun _ _ h => ⟨h.1, h.2.symm⟩)) | (go_at_call 25; with_reducible exact Calls.quiet_of_same ((WA.out _).mono fun _ _ h => ⟨h.1, h.2.symm⟩)) | (go_at_call 25; with_reducible exact Calls.quiet_of_same ((WB.out _).mono fun _ _ h => ⟨h.1, h.2.symm⟩)))
      go_wp2
      go_ret
      exact ⟨by rw [HE.out]; rfl, drewN_below D0.out _⟩
    | true =>
      cases tC with
      | false =>
        go_quiet (first | (go_at_call 26; with_reducible exact Calls.quiet_of_same ((UA.out _).mono fun _ _ h => ⟨h.1, h.2.symm⟩)) | (go_at_call 26; with_reducible exact Calls.quiet_of_same ((UB.out _).mono fun _ _ h => ⟨h.1, h.2.symm⟩)) | (go_at_call 26; with_reducible exact Calls.quiet_of_same ((UC.out _).mono fun _ _ h => ⟨h.1, h.2.symm⟩)) | (go_at_call 25; with_reducible exact Calls.quiet_of_same ((WA.out _).mono fun _ _ h => ⟨h.1, h.2.symm⟩)) | (go_at_call 25; with_reducible exact Calls.quiet_of_same ((WB.out _).mono fun _ _ h => ⟨h.1, h.2.symm⟩)) | (go_at_call 25; with_reducible exact Calls.quiet_of_same ((WC.out _).mono fun _ _ h => ⟨h.1, h.2.symm⟩)))
        go_wp2
        go_ret
        exact ⟨by rw [HE.out]; rfl, drewN_below D0.out _⟩
      | true =>
        go_quiet (first | (go_at_call 26; with_reducible exact Calls.quiet_of_same ((UA.out _).mono fun _ _ h => ⟨h.1, h.2.symm⟩)) | (go_at_call 26; with_reducible exact Calls.quiet_of_same ((UB.out _).mono fun _ _ h => ⟨h.1, h.2.symm⟩)) | (go_at_call 26; with_reducible exact Calls.quiet_of_same ((UC.out _).mono fun _ _ h => ⟨h.1, h.2.symm⟩)) | (go_at_call 25; with_reducible exact Calls.quiet_of_same ((WA.out _).mono fun _ _ h => ⟨h.1, h.2.symm⟩)) | (go_at_call 25; with_reducible exact Calls.quiet_of_same ((WB.out _).mono fun _ _ h => ⟨h.1, h.2.symm⟩)) | (go_at_call 25; with_reducible exact Calls.quiet_of_same ((WC.out _).mono fun _ _ h => ⟨h.1, h.2.symm⟩)))
        go_wp2_with fail
        have D1 := hide (drewN_below D0.out nq)
        have k4 : (W0.drewN nq).cell? ⟨w.heap.size, 4, none⟩ = some (.int .i64 imm) := c4
        clear c0 c1 c2 c3 c4 D0 UA UB UC WA WB WC
        generalize W0.drewN nq = W1 at *
        cases uI with
        | true =>
          cases tI with
          | false =>
            go_quiet (first | (go_at_call 26; with_reducible exact Calls.quiet_of_same ((UI.out _).mono fun _ _ h => ⟨h.1, h.2.symm⟩)) | (go_at_call 25; with_reducible exact Calls.quiet_of_same ((WI.out _).mono fun _ _ h => ⟨h.1, h.2.symm⟩)))
            go_wp2
            go_ret
            exact ⟨by rw [HE.out]; rfl, drewN_below D1.out _⟩
          | true =>
            go_quiet (first | (go_at_call 26; with_reducible exact Calls.quiet_of_same ((UI.out _).mono fun _ _ h => ⟨h.1, h.2.symm⟩)) | (go_at_call 25; with_reducible exact Calls.quiet_of_same ((WI.out _).mono fun _ _ h => ⟨h.1, h.2.symm⟩)))
            go_wp2
            go_ret
            exact ⟨by rw [HE.out]; rfl, drewN_below D1.out _⟩
        | false =>
          cases tU with
          | false =>
            go_quiet (first | (go_at_call 26; with_reducible exact Calls.quiet_of_same ((UI.out _).mono fun _ _ h => ⟨h.1, h.2.symm⟩)) | (go_at_call 26; with_reducible exact Calls.quiet_of_same ((UU.out _).mono fun _ _ h => ⟨h.1, h.2.symm⟩)) | (go_at_call 25; with_reducible exact Calls.quiet_of_same ((WU.out _).mono fun _ _ h => ⟨h.1, h.2.symm⟩)))
            go_wp2
            go_ret
            exact ⟨by rw [HE.out]; rfl, drewN_below D1.out _⟩
          | true =>
            go_quiet (first | (go_at_call 26; with_reducible exact Calls.quiet_of_same ((UI.out _).mono fun _ _ h => ⟨h.1, h.2.symm⟩)) | (go_at_call 26; with_reducible exact Calls.quiet_of_same ((UU.out _).mono fun _ _ h => ⟨h.1, h.2.symm⟩)) | (go_at_call 25; with_reducible exact Calls.quiet_of_same ((WU.out _).mono fun _ _ h => ⟨h.1, h.2.symm⟩)))
            go_wp2
            go_ret
            exact ⟨by rw [HE.out]; rfl, drewN_below D1.out _⟩
end Go.Proofs.YthcmeboepedelaaDoor
