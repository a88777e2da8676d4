/-
  The program's Check of an instruction.
-/
import Derived.Test.YthcmeboepedelaaDoorIsProg
namespace Go.Proofs.YthcmeboepedelaaDoor
open Go.RowKit FerryCrc
set_option linter.unusedVariables false
set_option linter.unusedSimpArgs false

/-- What the package-level variables hold that the instructions read. -/
structure Isv (w : World) : Prop where
  kind : ∃ A, w.cell? ⟨1, 0, none⟩ = some (.iface 164 (.pointer (some A)))
  range : ∃ A, w.cell? ⟨3, 0, none⟩ = some (.iface 164 (.pointer (some A)))
  row : ∀ f : Nat, f < 8 → w.cell? ⟨2, f * 5, none⟩ = some (.int .i64 (hiA f)) ∧ w.cell? ⟨2, f * 5 + 1, none⟩ = some (.int .i64 (hiB f)) ∧ w.cell? ⟨2, f * 5 + 2, none⟩ = some (.int .i64 (hiC f)) ∧ w.cell? ⟨2, f * 5 + 3, none⟩ = some (.int .i64 (loI f)) ∧ w.cell? ⟨2, f * 5 + 4, none⟩ = some (.int .i64 (hiI f))

theorem within_at {n lo hi : Int} {t : Bool} (h : (decide (lo ≤ n) && decide (n ≤ hi)) = t) (w : World) : Calls Tryd.prog 24 #[.int .i64 n, .int .i64 lo, .int .i64 hi] w fun e w' => e = .returned (.bool t) ∧ w = w' := by
  rw [← h]
  exact within_any n lo hi w

set_option maxRecDepth 100000 in
set_option maxHeartbeats 4000000 in
theorem check_any (i : Ins) (w : World) (hv : Isv w) : Calls Tryd.prog 16 #[.agg i.cells] w fun e w' => (if okI i then e = .returned .nilIface else ∃ A, e = .returned (.iface 164 (.pointer (some A)))) ∧ Below w.heap.size w w' := by
  obtain ⟨AK, hk⟩ := hv.kind
  obtain ⟨AR, hr⟩ := hv.range
  obtain ⟨op, a, b, c, imm⟩ := i
  obtain ⟨f, hf⟩ : ∃ f, form op = f := ⟨_, rfl⟩
  have f7 : f ≤ 7 := by rw [← hf]; exact form_le op
  obtain ⟨r0, r1, r2, r3, r4⟩ := hv.row f (by omega)
  have HF := hide (form_any op)
  rw [hf] at HF
  have HE : Hid (okI ⟨op, a, b, c, imm⟩ = (decide (f ≠ 0) && ((decide (0 ≤ a) && decide (a ≤ hiA f)) && ((decide (0 ≤ b) && decide (b ≤ hiB f)) && ((decide (0 ≤ c) && decide (c ≤ hiC f)) && (decide (loI f ≤ imm) && decide (imm ≤ hiI f))))))) := by
    unfold Hid okI bA bB bC bI
    rw [hf]
  obtain ⟨tA, hA⟩ : ∃ t, (decide (0 ≤ a) && decide (a ≤ hiA f)) = t := ⟨_, rfl⟩
  obtain ⟨tB, hB⟩ : ∃ t, (decide (0 ≤ b) && decide (b ≤ hiB f)) = t := ⟨_, rfl⟩
  obtain ⟨tC, hC⟩ : ∃ t, (decide (0 ≤ c) && decide (c ≤ hiC f)) = t := ⟨_, rfl⟩
  obtain ⟨tI, hI⟩ : ∃ t, (decide (loI f ≤ imm) && decide (imm ≤ hiI f)) = t := ⟨_, rfl⟩
  rw [hA, hB, hC, hI] at HE
  have HA := hide (within_at hA)
  have HB := hide (within_at hB)
  have HC := hide (within_at hC)
  have HI := hide (within_at hI)
  rw [HE.out]
  clear HE hA hB hC hI hf hv
  generalize hiA f = x0 at *
  generalize hiB f = x1 at *
  generalize hiC f = x2 at *
  generalize loI f = x3 at *
  generalize hiI f = x4 at *
  unfold Ins.cells
  have hB0 : Below w.heap.size w (w.alloc (.cells #[.int .i64 op, .int .i64 a, .int .i64 b, .int .i64 c, .int .i64 imm] 27)) := (Below.refl _ _).alloc (Nat.le_refl _) _
  have k0 := (hB0.cell (p := ⟨1, 0, none⟩) (block_lt_of_cell hk)).trans hk
  have k1 := (hB0.cell (p := ⟨3, 0, none⟩) (block_lt_of_cell hr)).trans hr
  have s0 := (hB0.cell (p := ⟨2, f * 5, none⟩) (block_lt_of_cell r0)).trans r0
  have s1 := (hB0.cell (p := ⟨2, f * 5 + 1, none⟩) (block_lt_of_cell r1)).trans r1
  have s2 := (hB0.cell (p := ⟨2, f * 5 + 2, none⟩) (block_lt_of_cell r2)).trans r2
  have s3 := (hB0.cell (p := ⟨2, f * 5 + 3, none⟩) (block_lt_of_cell r3)).trans r3
  have s4 := (hB0.cell (p := ⟨2, f * 5 + 4, none⟩) (block_lt_of_cell r4)).trans r4
  have c0 : (w.alloc (.cells #[.int .i64 op, .int .i64 a, .int .i64 b, .int .i64 c, .int .i64 imm] 27)).cell? ⟨w.heap.size, 0, none⟩ = some (.int .i64 op) := by rw [World.cell?_alloc_at _ _ _ _ rfl]; rfl
  have c1 : (w.alloc (.cells #[.int .i64 op, .int .i64 a, .int .i64 b, .int .i64 c, .int .i64 imm] 27)).cell? ⟨w.heap.size, 1, none⟩ = some (.int .i64 a) := by rw [World.cell?_alloc_at _ _ _ _ rfl]; rfl
  have c2 : (w.alloc (.cells #[.int .i64 op, .int .i64 a, .int .i64 b, .int .i64 c, .int .i64 imm] 27)).cell? ⟨w.heap.size, 2, none⟩ = some (.int .i64 b) := by rw [World.cell?_alloc_at _ _ _ _ rfl]; rfl
  have c3 : (w.alloc (.cells #[.int .i64 op, .int .i64 a, .int .i64 b, .int .i64 c, .int .i64 imm] 27)).cell? ⟨w.heap.size, 3, none⟩ = some (.int .i64 c) := by rw [World.cell?_alloc_at _ _ _ _ rfl]; rfl
  have c4 : (w.alloc (.cells #[.int .i64 op, .int .i64 a, .int .i64 b, .int .i64 c, .int .i64 imm] 27)).cell? ⟨w.heap.size, 4, none⟩ = some (.int .i64 imm) := by rw [World.cell?_alloc_at _ _ _ _ rfl]; rfl
  have D0 := hide hB0
  clear hk hr r0 r1 r2 r3 r4 hB0
  by_cases f0 : f = 0
  · subst f0
    go_enter Tryd.func16, Tryd.ntmps16
    go_wp2_with (first | (go_at_call 9; refine (HF.out _).mono ?_; rintro e w' ⟨rfl, rfl⟩))
    go_ret
    exact ⟨⟨_, rfl⟩, D0.out⟩
  have d0 : ((f : Int) == 0) = false := by simp; omega
  have f8 : (f : Int) < 8 := by omega
  have d1 : decide (f ≠ 0) = true := by simp [f0]
  rw [d1]
  go_enter Tryd.func16, Tryd.ntmps16
  go_wp2_with (first | (go_at_call 9; refine (HF.out _).mono ?_; rintro e w' ⟨rfl, rfl⟩))
  obtain ⟨W0, hW0⟩ : ∃ W0, w.alloc (.cells #[.int .i64 op, .int .i64 a, .int .i64 b, .int .i64 c, .int .i64 imm] 27) = W0 := ⟨_, rfl⟩
  have hz : W0.heap.size = w.heap.size + 1 := by rw [← hW0]; simp
  have hs0 : w.heap.size < W0.heap.size := by omega
  rw [hW0] at D0 k1 c1 c2 c3 c4 ⊢
  have hB1 : Below W0.heap.size W0 (W0.alloc (.cells #[.int .i64 x0, .int .i64 x1, .int .i64 x2, .int .i64 x3, .int .i64 x4] 60)) := (Below.refl _ _).alloc (Nat.le_refl _) _
  have e1 := (hB1.cell (p := ⟨3, 0, none⟩) (block_lt_of_cell k1)).trans k1
  have b1 := (hB1.cell (p := ⟨w.heap.size, 1, none⟩) (block_lt_of_cell c1)).trans c1
  have b2 := (hB1.cell (p := ⟨w.heap.size, 2, none⟩) (block_lt_of_cell c2)).trans c2
  have b3 := (hB1.cell (p := ⟨w.heap.size, 3, none⟩) (block_lt_of_cell c3)).trans c3
  have b4 := (hB1.cell (p := ⟨w.heap.size, 4, none⟩) (block_lt_of_cell c4)).trans c4
  have m0 : (W0.alloc (.cells #[.int .i64 x0, .int .i64 x1, .int .i64 x2, .int .i64 x3, .int .i64 x4] 60)).cell? ⟨W0.heap.size, 0, none⟩ = some (.int .i64 x0) := by rw [World.cell?_alloc_at _ _ _ _ rfl]; rfl
  have m1 : (W0.alloc (.cells #[.int .i64 x0, .int .i64 x1, .int .i64 x2, .int .i64 x3, .int .i64 x4] 60)).cell? ⟨W0.heap.size, 1, none⟩ = some (.int .i64 x1) := by rw [World.cell?_alloc_at _ _ _ _ rfl]; rfl
  have m2 : (W0.alloc (.cells #[.int .i64 x0, .int .i64 x1, .int .i64 x2, .int .i64 x3, .int .i64 x4] 60)).cell? ⟨W0.heap.size, 2, none⟩ = some (.int .i64 x2) := by rw [World.cell?_alloc_at _ _ _ _ rfl]; rfl
  have m3 : (W0.alloc (.cells #[.int .i64 x0, .int .i64 x1, .int .i64 x2, .int .i64 x3, .int .i64 x4] 60)).cell? ⟨W0.heap.size, 3, none⟩ = some (.int .i64 x3) := by rw [World.cell?_alloc_at _ _ _ _ rfl]; rfl
  have m4 : (W0.alloc (.cells #[.int .i64 x0, .int .i64 x1, .int .i64 x2, .int .i64 x3, .int .i64 x4] 60)).cell? ⟨W0.heap.size, 4, none⟩ = some (.int .i64 x4) := by rw [World.cell?_alloc_at _ _ _ _ rfl]; rfl
  have D1 := hide (D0.out.trans (hB1.mono (Nat.le_of_lt hs0)))
  clear k0 k1 s0 s1 s2 s3 s4 c0 c1 c2 c3 c4 hB1 D0 hW0 HF
  rw [hz] at m0 m1 m2 m3 m4
  generalize W0.alloc (.cells #[.int .i64 x0, .int .i64 x1, .int .i64 x2, .int .i64 x3, .int .i64 x4] 60) = W1 at *
  generalize w.heap.size + 1 = g1 at *
  clear hz hs0 d0 d1 f8 f0 f7
  cases tA with
  | false =>
    refine Calls.mono (HA.out _) ?_
    rintro e w' ⟨rfl, rfl⟩
    go_wp2
    go_ret
    exact ⟨⟨_, rfl⟩, D1.out⟩
  | true =>
    cases tB with
    | false =>
      refine Calls.mono (HA.out _) ?_
      rintro e w' ⟨rfl, rfl⟩
      go_wp2_with fail
      refine Calls.mono (HB.out _) ?_
      rintro e w' ⟨rfl, rfl⟩
      go_wp2
      go_ret
      exact ⟨⟨_, rfl⟩, D1.out⟩
    | true =>
      cases tC with
      | false =>
        refine Calls.mono (HA.out _) ?_
        rintro e w' ⟨rfl, rfl⟩
        go_wp2_with fail
        refine Calls.mono (HB.out _) ?_
        rintro e w' ⟨rfl, rfl⟩
        go_wp2_with fail
        refine Calls.mono (HC.out _) ?_
        rintro e w' ⟨rfl, rfl⟩
        go_wp2
        go_ret
        exact ⟨⟨_, rfl⟩, D1.out⟩
      | true =>
        cases tI with
        | false =>
          refine Calls.mono (HA.out _) ?_
          rintro e w' ⟨rfl, rfl⟩
          go_wp2_with fail
          refine Calls.mono (HB.out _) ?_
          rintro e w' ⟨rfl, rfl⟩
          go_wp2_with fail
          refine Calls.mono (HC.out _) ?_
          rintro e w' ⟨rfl, rfl⟩
          go_wp2_with fail
          refine Calls.mono (HI.out _) ?_
          rintro e w' ⟨rfl, rfl⟩
          go_wp2
          go_ret
          exact ⟨⟨_, rfl⟩, D1.out⟩
        | true =>
          refine Calls.mono (HA.out _) ?_
          rintro e w' ⟨rfl, rfl⟩
          go_wp2_with fail
          refine Calls.mono (HB.out _) ?_
          rintro e w' ⟨rfl, rfl⟩
          go_wp2_with fail
          refine Calls.mono (HC.out _) ?_
          rintro e w' ⟨rfl, rfl⟩
          go_wp2_with fail
          refine Calls.mono (HI.out _) ?_
          rintro e w' ⟨rfl, rfl⟩
          go_wp2
          go_ret
          exact ⟨rfl, D1.out⟩
end Go.Proofs.YthcmeboepedelaaDoor
