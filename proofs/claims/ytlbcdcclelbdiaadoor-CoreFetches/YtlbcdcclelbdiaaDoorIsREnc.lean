/-
  The document's Encode of an instruction.
-/
import Derived.Test.YtlbcdcclelbdiaaDoorIsRCheck
namespace Go.Proofs.YtlbcdcclelbdiaaDoor
open Go.RowKit FerryCrc
set_option linter.unusedVariables false
set_option linter.unusedSimpArgs false

/-- The word of an instruction. -/
def encv (i : Ins) : Int := i.op * 16777216 + i.a * 1048576 + i.b * 65536 + i.c * 4096 + (if i.imm < 0 then i.imm + 65536 else i.imm)
theorem ok_range {i : Ins} (h : okI i = true) : (1 ≤ i.op ∧ i.op ≤ 64) ∧ (0 ≤ i.a ∧ i.a ≤ 15) ∧ (0 ≤ i.b ∧ i.b ≤ 15) ∧ (0 ≤ i.c ∧ i.c ≤ 15) ∧ (-32768 ≤ i.imm ∧ i.imm ≤ 65535) ∧ (0 < i.c → 0 ≤ i.imm ∧ i.imm ≤ 0) := by
  unfold okI bA bB bC bI at h
  simp only [Bool.and_eq_true, decide_eq_true_eq, ne_eq] at h
  obtain ⟨h0, ⟨a0, a1⟩, ⟨b0, b1⟩, ⟨c0, c1⟩, i0, i1⟩ := h
  have h64 : 1 ≤ i.op ∧ i.op ≤ 64 := by
    unfold form at h0
    repeat' split at h0
    all_goals omega
  have f7 := form_le i.op
  generalize form i.op = f at *
  rcases (by omega : f = 1 ∨ f = 2 ∨ f = 3 ∨ f = 4 ∨ f = 5 ∨ f = 6 ∨ f = 7) with rfl | rfl | rfl | rfl | rfl | rfl | rfl
  all_goals
    simp [hiA, hiB, hiC, loI, hiI] at *
    omega
theorem encv_range {i : Ins} (h : okI i = true) : 0 ≤ encv i ∧ encv i < 4294967296 := by
  obtain ⟨h0, h1, h2, h3, h4, h5⟩ := ok_range h
  unfold encv
  split <;> omega
theorem codeI_zero {i : Ins} : codeI i = 0 ↔ okI i = true := by
  unfold codeI
  by_cases h : form i.op = 0
  · rw [if_pos h]
    have : okI i = false := by unfold okI; simp [h]
    simp [this]
  · rw [if_neg h]
    split <;> simp_all

set_option maxRecDepth 100000 in
set_option maxHeartbeats 4000000 in
theorem rencode_any (i : Ins) (w : World) : Calls Tryd.prog 20 #[.agg i.cells] w fun e w' => e = .returned (.tuple #[.int .u32 (if okI i then encv i else 0), .int .i64 ((codeI i : Nat) : Int)]) ∧ Below w.heap.size w w' := by
  have H1 := hide (rcheck_any i (w.alloc (.cells i.cells 25)))
  have hbl := bl_alloc w i.cells 25
  have D0 : Hid (Below w.heap.size w (w.alloc (.cells i.cells 25))) := (Below.refl _ _).alloc (Nat.le_refl _) _
  have hs0 : (w.alloc (.cells i.cells 25)).heap.size = w.heap.size + 1 := by simp
  have HS0 := hide hs0
  clear hs0
  have HE : Hid (encv i = i.op * 16777216 + i.a * 1048576 + i.b * 65536 + i.c * 4096 + (if i.imm < 0 then i.imm + 65536 else i.imm)) := rfl
  by_cases hk : okI i = true
  · have hc0 := codeI_zero.2 hk
    rw [hc0] at H1 ⊢
    rw [if_pos hk]
    obtain ⟨h0, h1, h2, h3, h4, _⟩ := ok_range hk
    obtain ⟨hv0, hv1⟩ := encv_range hk
    obtain ⟨op, a, b, c, imm⟩ := i
    unfold Ins.cells at *
    simp only at *
    obtain ⟨v, hv⟩ : ∃ v, encv ⟨op, a, b, c, imm⟩ = v := ⟨_, rfl⟩
    rw [hv] at HE hv0 hv1 ⊢
    clear hv hk hc0
    obtain ⟨c0, c1, c2, c3, c4⟩ := bl_get hbl
    have HBL := hide hbl
    clear hbl
    go_enter Tryd.func20, Tryd.ntmps20
    go_wp2_with fail
    refine Calls.mono H1.out ?_
    rintro e w1 ⟨rfl, hb1⟩
    have hbl1 := HBL.out.below (by rw [HS0.out]; omega) hb1
    obtain ⟨p0, p1, p2, p3, p4⟩ := bl_get hbl1
    have D1 := hide (D0.out.trans (hb1.mono (by rw [HS0.out]; omega)))
    clear hbl1 hb1 HBL D0 HS0 H1 c0 c1 c2 c3 c4
    by_cases hi : imm < 0
    · have d1 : decide (imm < 0) = true := decide_eq_true hi
      have HV : Hid (v = op * 16777216 + a * 1048576 + b * 65536 + c * 4096 + 65536 + imm) := by unfold Hid; rw [HE.out, if_pos hi]; omega
      go_wp2
      go_ret2
      exact ⟨by rw [HV.out]; rfl, D1.out⟩
    · have d1 : decide (imm < 0) = false := decide_eq_false hi
      have HV : Hid (v = op * 16777216 + a * 1048576 + b * 65536 + c * 4096 + imm) := by unfold Hid; rw [HE.out, if_neg hi]
      go_wp2
      go_ret2
      exact ⟨by rw [HV.out]; rfl, D1.out⟩
  · have hc0 : ¬ codeI i = 0 := fun h => hk (codeI_zero.1 h)
    have d0 : (((codeI i : Nat) : Int) != 0) = true := by simp; exact hc0
    rw [if_neg hk]
    generalize codeI i = x at *
    obtain ⟨op, a, b, c, imm⟩ := i
    unfold Ins.cells at *
    simp only at *
    obtain ⟨c0, c1, c2, c3, c4⟩ := bl_get hbl
    clear hbl hk
    go_enter Tryd.func20, Tryd.ntmps20
    go_wp2_with fail
    refine Calls.mono H1.out ?_
    rintro e w1 ⟨rfl, hb1⟩
    have D1 := hide (D0.out.trans (hb1.mono (by rw [HS0.out]; omega)))
    clear hb1 H1 D0 HS0 c0 c1 c2 c3 c4
    go_wp2
    go_ret2
    exact ⟨rfl, D1.out⟩
end Go.Proofs.YtlbcdcclelbdiaaDoor
