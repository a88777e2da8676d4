/-
  The program's Decode, and the core's Fetch.
-/
import Derived.Test.YthcmeboepedelaaDoorIsBl
namespace Go.Proofs.YthcmeboepedelaaDoor
open Go.RowKit FerryCrc
set_option linter.unusedVariables false
set_option linter.unusedSimpArgs false

theorem Isv.below {w w' : World} (h : Isv w) (hb : Below w.heap.size w w') : Isv w' := by
  refine ⟨?_, ?_, fun f hf => ?_⟩
  · obtain ⟨A, hk⟩ := h.kind
    exact ⟨A, (hb.cell (p := ⟨1, 0, none⟩) (block_lt_of_cell hk)).trans hk⟩
  · obtain ⟨A, hk⟩ := h.range
    exact ⟨A, (hb.cell (p := ⟨3, 0, none⟩) (block_lt_of_cell hk)).trans hk⟩
  · obtain ⟨r0, r1, r2, r3, r4⟩ := h.row f hf
    exact ⟨(hb.cell (p := ⟨2, f * 5, none⟩) (block_lt_of_cell r0)).trans r0, (hb.cell (p := ⟨2, f * 5 + 1, none⟩) (block_lt_of_cell r1)).trans r1, (hb.cell (p := ⟨2, f * 5 + 2, none⟩) (block_lt_of_cell r2)).trans r2, (hb.cell (p := ⟨2, f * 5 + 3, none⟩) (block_lt_of_cell r3)).trans r3, (hb.cell (p := ⟨2, f * 5 + 4, none⟩) (block_lt_of_cell r4)).trans r4⟩

theorem and_low {x : Nat} (k : Nat) (h : x < 4294967296) (hk : k ≤ 32 := by decide) : bits .and .u32 (x : Int) ((2 ^ k - 1 : Nat) : Int) = ((x % 2 ^ k : Nat) : Int) := by
  have hp : 2 ^ k ≤ 2 ^ 32 := Nat.pow_le_pow_right (by decide) hk
  have := u32_and_nat x (2 ^ k - 1) h (by omega)
  rw [Nat.and_two_pow_sub_one_eq_mod] at this
  exact this

set_option maxRecDepth 100000 in
set_option maxHeartbeats 4000000 in
theorem decode_any (n : Nat) (w : World) (hn : n < 4294967296) (hv : Isv w) : Calls Tryd.prog 14 #[.int .u32 (n : Int)] w fun e w' => (∃ v, e = .returned (.tuple #[.agg (dec n).cells, v]) ∧ (if okI (cand n) then v = .nilIface else ∃ A, v = .iface 164 (.pointer (some A)))) ∧ Below w.heap.size w w' := by
  have HV := hide hv
  clear hv
  obtain ⟨o, ho⟩ : ∃ o, n / 16777216 = o := ⟨_, rfl⟩
  obtain ⟨a, ha⟩ : ∃ a, n / 1048576 % 16 = a := ⟨_, rfl⟩
  obtain ⟨b, hb⟩ : ∃ b, n / 65536 % 16 = b := ⟨_, rfl⟩
  obtain ⟨c, hc⟩ : ∃ c, n / 4096 % 16 = c := ⟨_, rfl⟩
  obtain ⟨l, hl⟩ : ∃ l, n % 4096 = l := ⟨_, rfl⟩
  obtain ⟨m, hm⟩ : ∃ m, n % 65536 = m := ⟨_, rfl⟩
  have e0 : (n : Int) / 16777216 = (o : Int) := by omega
  have e1 : bits .and .u32 ((n : Int) / 1048576) 15 = (a : Int) := by rw [show (n : Int) / 1048576 = ((n / 1048576 : Nat) : Int) by omega, ← ha]; exact and_low 4 (by omega)
  have e2 : bits .and .u32 ((n : Int) / 65536) 15 = (b : Int) := by rw [show (n : Int) / 65536 = ((n / 65536 : Nat) : Int) by omega, ← hb]; exact and_low 4 (by omega)
  have e3 : bits .and .u32 ((n : Int) / 4096) 15 = (c : Int) := by rw [show (n : Int) / 4096 = ((n / 4096 : Nat) : Int) by omega, ← hc]; exact and_low 4 (by omega)
  have e4 : bits .and .u32 (n : Int) 4095 = (l : Int) := by rw [← hl]; exact and_low 12 (by omega)
  have a1 : a < 16 := by omega
  have b1 : b < 16 := by omega
  have c1 : c < 16 := by omega
  have l1 : l < 4096 := by omega
  have o1 : o < 256 := by omega
  obtain ⟨f, hf⟩ : ∃ f, form (o : Int) = f := ⟨_, rfl⟩
  have f7 : f ≤ 7 := by rw [← hf]; exact form_le _
  have HF := hide (form_any (o : Int))
  rw [hf] at HF
  have HE : Hid (cand n = ⟨(o : Int), (a : Int), (b : Int), if f = 1 then (c : Int) else 0, if f = 1 then (l : Int) else if f = 2 ∨ f = 5 ∨ f = 6 then s16 m else (m : Int)⟩) := by
    unfold Hid cand
    simp only [ho, ha, hb, hc, hl, hm, hf]
  have D0 : Hid (∀ W, Below w.heap.size w W → Isv W) := fun W h => HV.out.below h
  clear ho ha hb hc hl hf HV
  obtain ⟨s, hs⟩ : ∃ s, s16 m = s := ⟨_, rfl⟩
  have e5 : IntKind.u16.wrap (n : Int) = (m : Int) := by
    rw [← hm]
    unfold IntKind.wrap
    simp [IntKind.bits, IntKind.signed]
  have e6 : IntKind.i16.wrap (n : Int) = s := by
    rw [← hs, ← hm]
    unfold IntKind.wrap s16
    simp [IntKind.bits, IntKind.signed]
    omega
  have m1 : m < 65536 := by omega
  have s1 : -32768 ≤ s := by rw [← hs]; unfold s16; split <;> omega
  have s2 : s ≤ 32767 := by rw [← hs]; unfold s16; split <;> omega
  rw [hs] at HE
  clear hm hs
  go_enter Tryd.func14, Tryd.ntmps14
  go_wp2_with fail
  refine Calls.mono (HF.out _) ?_
  rintro e w' ⟨rfl, rfl⟩
  rcases (by omega : f = 0 ∨ f = 1 ∨ f = 2 ∨ f = 3 ∨ f = 4 ∨ f = 5 ∨ f = 6 ∨ f = 7) with rfl | rfl | rfl | rfl | rfl | rfl | rfl | rfl
  · have HC : Hid ((cand n).cells = #[.int .i64 (o : Int), .int .i64 (a : Int), .int .i64 (b : Int), .int .i64 0, .int .i64 (m : Int)]) := by unfold Hid; rw [HE.out]; rfl
    clear HE
    go_wp2_with fail
    refine Calls.mono (check_at (cand n) _ HC.out.symm _ (D0.out _ (((Below.refl _ _).alloc (Nat.le_refl _) _).alloc (by simp) _))) ?_
    rintro e w2 ⟨he, hb2⟩
    obtain ⟨hz, hq, hbw⟩ := dec_world _ _ _ _ _ _ _ _ _ hb2
    obtain ⟨q0, q1, q2, q3, q4⟩ := bl_get hq
    obtain ⟨z0, z1, z2, z3, z4⟩ := bl_get hz
    obtain ⟨y0, y1, y2, y3, y4⟩ := bl_free hz
    have HZ := hide hz
    have HBW := hide hbw
    clear hz hq hbw hb2
    by_cases hk : okI (cand n) = true
    · have HR : Hid ((dec n).cells = #[.int .i64 (o : Int), .int .i64 (a : Int), .int .i64 (b : Int), .int .i64 0, .int .i64 (m : Int)]) := by unfold Hid dec; rw [if_pos hk]; exact HC.out
      rw [if_pos hk] at he
      subst he
      go_wp2
      obtain ⟨⟨p0, p1, p2, p3, p4⟩, hB9⟩ := fin5 HZ.out HBW.out (Nat.le_refl _) (.int .i64 (o : Int)) (.int .i64 (a : Int)) (.int .i64 (b : Int)) (.int .i64 0) (.int .i64 (m : Int))
      unfold set5 at p0 p1 p2 p3 p4 hB9
      generalize ((((w2.setCell ⟨w.heap.size, 0, none⟩ (.int .i64 (o : Int))).setCell ⟨w.heap.size, 1, none⟩ (.int .i64 (a : Int))).setCell ⟨w.heap.size, 2, none⟩ (.int .i64 (b : Int))).setCell ⟨w.heap.size, 3, none⟩ (.int .i64 0)).setCell ⟨w.heap.size, 4, none⟩ (.int .i64 (m : Int)) = W9 at *
      (try simp only [Exit.inBlock, Exit.then])
      refine bodyPost_ret (v := .tuple #[.agg #[.int .i64 (o : Int), .int .i64 (a : Int), .int .i64 (b : Int), .int .i64 0, .int .i64 (m : Int)], .nilIface]) (by simp [results, Tryd.results14, go_sem, p0, p1, p2, p3, p4]) rfl ?_
      exact ⟨by rw [HR.out], hB9⟩
    · have HR : Hid ((dec n).cells = #[.int .i64 0, .int .i64 0, .int .i64 0, .int .i64 0, .int .i64 0]) := by unfold Hid dec; rw [if_neg hk]; rfl
      rw [if_neg hk] at he
      obtain ⟨AE, rfl⟩ := he
      go_wp2
      obtain ⟨⟨p0, p1, p2, p3, p4⟩, hB9⟩ := fin5 HZ.out HBW.out (Nat.le_refl _) (.int .i64 0) (.int .i64 0) (.int .i64 0) (.int .i64 0) (.int .i64 0)
      unfold set5 at p0 p1 p2 p3 p4 hB9
      generalize ((((w2.setCell ⟨w.heap.size, 0, none⟩ (.int .i64 0)).setCell ⟨w.heap.size, 1, none⟩ (.int .i64 0)).setCell ⟨w.heap.size, 2, none⟩ (.int .i64 0)).setCell ⟨w.heap.size, 3, none⟩ (.int .i64 0)).setCell ⟨w.heap.size, 4, none⟩ (.int .i64 0) = W9 at *
      (try simp only [Exit.inBlock, Exit.then])
      refine bodyPost_ret (v := .tuple #[.agg #[.int .i64 0, .int .i64 0, .int .i64 0, .int .i64 0, .int .i64 0], .iface 164 (.pointer (some AE))]) (by simp [results, Tryd.results14, go_sem, p0, p1, p2, p3, p4]) rfl ?_
      exact ⟨⟨_, by rw [HR.out], ⟨_, rfl⟩⟩, hB9⟩
  · have HC : Hid ((cand n).cells = #[.int .i64 (o : Int), .int .i64 (a : Int), .int .i64 (b : Int), .int .i64 (c : Int), .int .i64 (l : Int)]) := by unfold Hid; rw [HE.out]; rfl
    clear HE
    go_wp2_with fail
    refine Calls.mono (check_at (cand n) _ HC.out.symm _ (D0.out _ (((Below.refl _ _).alloc (Nat.le_refl _) _).alloc (by simp) _))) ?_
    rintro e w2 ⟨he, hb2⟩
    obtain ⟨hz, hq, hbw⟩ := dec_world _ _ _ _ _ _ _ _ _ hb2
    obtain ⟨q0, q1, q2, q3, q4⟩ := bl_get hq
    obtain ⟨z0, z1, z2, z3, z4⟩ := bl_get hz
    obtain ⟨y0, y1, y2, y3, y4⟩ := bl_free hz
    have HZ := hide hz
    have HBW := hide hbw
    clear hz hq hbw hb2
    by_cases hk : okI (cand n) = true
    · have HR : Hid ((dec n).cells = #[.int .i64 (o : Int), .int .i64 (a : Int), .int .i64 (b : Int), .int .i64 (c : Int), .int .i64 (l : Int)]) := by unfold Hid dec; rw [if_pos hk]; exact HC.out
      rw [if_pos hk] at he
      subst he
      go_wp2
      obtain ⟨⟨p0, p1, p2, p3, p4⟩, hB9⟩ := fin5 HZ.out HBW.out (Nat.le_refl _) (.int .i64 (o : Int)) (.int .i64 (a : Int)) (.int .i64 (b : Int)) (.int .i64 (c : Int)) (.int .i64 (l : Int))
      unfold set5 at p0 p1 p2 p3 p4 hB9
      generalize ((((w2.setCell ⟨w.heap.size, 0, none⟩ (.int .i64 (o : Int))).setCell ⟨w.heap.size, 1, none⟩ (.int .i64 (a : Int))).setCell ⟨w.heap.size, 2, none⟩ (.int .i64 (b : Int))).setCell ⟨w.heap.size, 3, none⟩ (.int .i64 (c : Int))).setCell ⟨w.heap.size, 4, none⟩ (.int .i64 (l : Int)) = W9 at *
      (try simp only [Exit.inBlock, Exit.then])
      refine bodyPost_ret (v := .tuple #[.agg #[.int .i64 (o : Int), .int .i64 (a : Int), .int .i64 (b : Int), .int .i64 (c : Int), .int .i64 (l : Int)], .nilIface]) (by simp [results, Tryd.results14, go_sem, p0, p1, p2, p3, p4]) rfl ?_
      exact ⟨by rw [HR.out], hB9⟩
    · have HR : Hid ((dec n).cells = #[.int .i64 0, .int .i64 0, .int .i64 0, .int .i64 0, .int .i64 0]) := by unfold Hid dec; rw [if_neg hk]; rfl
      rw [if_neg hk] at he
      obtain ⟨AE, rfl⟩ := he
      go_wp2
      obtain ⟨⟨p0, p1, p2, p3, p4⟩, hB9⟩ := fin5 HZ.out HBW.out (Nat.le_refl _) (.int .i64 0) (.int .i64 0) (.int .i64 0) (.int .i64 0) (.int .i64 0)
      unfold set5 at p0 p1 p2 p3 p4 hB9
      generalize ((((w2.setCell ⟨w.heap.size, 0, none⟩ (.int .i64 0)).setCell ⟨w.heap.size, 1, none⟩ (.int .i64 0)).setCell ⟨w.heap.size, 2, none⟩ (.int .i64 0)).setCell ⟨w.heap.size, 3, none⟩ (.int .i64 0)).setCell ⟨w.heap.size, 4, none⟩ (.int .i64 0) = W9 at *
      (try simp only [Exit.inBlock, Exit.then])
      refine bodyPost_ret (v := .tuple #[.agg #[.int .i64 0, .int .i64 0, .int .i64 0, .int .i64 0, .int .i64 0], .iface 164 (.pointer (some AE))]) (by simp [results, Tryd.results14, go_sem, p0, p1, p2, p3, p4]) rfl ?_
      exact ⟨⟨_, by rw [HR.out], ⟨_, rfl⟩⟩, hB9⟩
  · have HC : Hid ((cand n).cells = #[.int .i64 (o : Int), .int .i64 (a : Int), .int .i64 (b : Int), .int .i64 0, .int .i64 s]) := by unfold Hid; rw [HE.out]; rfl
    clear HE
    go_wp2_with fail
    refine Calls.mono (check_at (cand n) _ HC.out.symm _ (D0.out _ (((Below.refl _ _).alloc (Nat.le_refl _) _).alloc (by simp) _))) ?_
    rintro e w2 ⟨he, hb2⟩
    obtain ⟨hz, hq, hbw⟩ := dec_world _ _ _ _ _ _ _ _ _ hb2
    obtain ⟨q0, q1, q2, q3, q4⟩ := bl_get hq
    obtain ⟨z0, z1, z2, z3, z4⟩ := bl_get hz
    obtain ⟨y0, y1, y2, y3, y4⟩ := bl_free hz
    have HZ := hide hz
    have HBW := hide hbw
    clear hz hq hbw hb2
    by_cases hk : okI (cand n) = true
    · have HR : Hid ((dec n).cells = #[.int .i64 (o : Int), .int .i64 (a : Int), .int .i64 (b : Int), .int .i64 0, .int .i64 s]) := by unfold Hid dec; rw [if_pos hk]; exact HC.out
      rw [if_pos hk] at he
      subst he
      go_wp2
      obtain ⟨⟨p0, p1, p2, p3, p4⟩, hB9⟩ := fin5 HZ.out HBW.out (Nat.le_refl _) (.int .i64 (o : Int)) (.int .i64 (a : Int)) (.int .i64 (b : Int)) (.int .i64 0) (.int .i64 s)
      unfold set5 at p0 p1 p2 p3 p4 hB9
      generalize ((((w2.setCell ⟨w.heap.size, 0, none⟩ (.int .i64 (o : Int))).setCell ⟨w.heap.size, 1, none⟩ (.int .i64 (a : Int))).setCell ⟨w.heap.size, 2, none⟩ (.int .i64 (b : Int))).setCell ⟨w.heap.size, 3, none⟩ (.int .i64 0)).setCell ⟨w.heap.size, 4, none⟩ (.int .i64 s) = W9 at *
      (try simp only [Exit.inBlock, Exit.then])
      refine bodyPost_ret (v := .tuple #[.agg #[.int .i64 (o : Int), .int .i64 (a : Int), .int .i64 (b : Int), .int .i64 0, .int .i64 s], .nilIface]) (by simp [results, Tryd.results14, go_sem, p0, p1, p2, p3, p4]) rfl ?_
      exact ⟨by rw [HR.out], hB9⟩
    · have HR : Hid ((dec n).cells = #[.int .i64 0, .int .i64 0, .int .i64 0, .int .i64 0, .int .i64 0]) := by unfold Hid dec; rw [if_neg hk]; rfl
      rw [if_neg hk] at he
      obtain ⟨AE, rfl⟩ := he
      go_wp2
      obtain ⟨⟨p0, p1, p2, p3, p4⟩, hB9⟩ := fin5 HZ.out HBW.out (Nat.le_refl _) (.int .i64 0) (.int .i64 0) (.int .i64 0) (.int .i64 0) (.int .i64 0)
      unfold set5 at p0 p1 p2 p3 p4 hB9
      generalize ((((w2.setCell ⟨w.heap.size, 0, none⟩ (.int .i64 0)).setCell ⟨w.heap.size, 1, none⟩ (.int .i64 0)).setCell ⟨w.heap.size, 2, none⟩ (.int .i64 0)).setCell ⟨w.heap.size, 3, none⟩ (.int .i64 0)).setCell ⟨w.heap.size, 4, none⟩ (.int .i64 0) = W9 at *
      (try simp only [Exit.inBlock, Exit.then])
      refine bodyPost_ret (v := .tuple #[.agg #[.int .i64 0, .int .i64 0, .int .i64 0, .int .i64 0, .int .i64 0], .iface 164 (.pointer (some AE))]) (by simp [results, Tryd.results14, go_sem, p0, p1, p2, p3, p4]) rfl ?_
      exact ⟨⟨_, by rw [HR.out], ⟨_, rfl⟩⟩, hB9⟩
  · have HC : Hid ((cand n).cells = #[.int .i64 (o : Int), .int .i64 (a : Int), .int .i64 (b : Int), .int .i64 0, .int .i64 (m : Int)]) := by unfold Hid; rw [HE.out]; rfl
    clear HE
    go_wp2_with fail
    refine Calls.mono (check_at (cand n) _ HC.out.symm _ (D0.out _ (((Below.refl _ _).alloc (Nat.le_refl _) _).alloc (by simp) _))) ?_
    rintro e w2 ⟨he, hb2⟩
    obtain ⟨hz, hq, hbw⟩ := dec_world _ _ _ _ _ _ _ _ _ hb2
    obtain ⟨q0, q1, q2, q3, q4⟩ := bl_get hq
    obtain ⟨z0, z1, z2, z3, z4⟩ := bl_get hz
    obtain ⟨y0, y1, y2, y3, y4⟩ := bl_free hz
    have HZ := hide hz
    have HBW := hide hbw
    clear hz hq hbw hb2
    by_cases hk : okI (cand n) = true
    · have HR : Hid ((dec n).cells = #[.int .i64 (o : Int), .int .i64 (a : Int), .int .i64 (b : Int), .int .i64 0, .int .i64 (m : Int)]) := by unfold Hid dec; rw [if_pos hk]; exact HC.out
      rw [if_pos hk] at he
      subst he
      go_wp2
      obtain ⟨⟨p0, p1, p2, p3, p4⟩, hB9⟩ := fin5 HZ.out HBW.out (Nat.le_refl _) (.int .i64 (o : Int)) (.int .i64 (a : Int)) (.int .i64 (b : Int)) (.int .i64 0) (.int .i64 (m : Int))
      unfold set5 at p0 p1 p2 p3 p4 hB9
      generalize ((((w2.setCell ⟨w.heap.size, 0, none⟩ (.int .i64 (o : Int))).setCell ⟨w.heap.size, 1, none⟩ (.int .i64 (a : Int))).setCell ⟨w.heap.size, 2, none⟩ (.int .i64 (b : Int))).setCell ⟨w.heap.size, 3, none⟩ (.int .i64 0)).setCell ⟨w.heap.size, 4, none⟩ (.int .i64 (m : Int)) = W9 at *
      (try simp only [Exit.inBlock, Exit.then])
      refine bodyPost_ret (v := .tuple #[.agg #[.int .i64 (o : Int), .int .i64 (a : Int), .int .i64 (b : Int), .int .i64 0, .int .i64 (m : Int)], .nilIface]) (by simp [results, Tryd.results14, go_sem, p0, p1, p2, p3, p4]) rfl ?_
      exact ⟨by rw [HR.out], hB9⟩
    · have HR : Hid ((dec n).cells = #[.int .i64 0, .int .i64 0, .int .i64 0, .int .i64 0, .int .i64 0]) := by unfold Hid dec; rw [if_neg hk]; rfl
      rw [if_neg hk] at he
      obtain ⟨AE, rfl⟩ := he
      go_wp2
      obtain ⟨⟨p0, p1, p2, p3, p4⟩, hB9⟩ := fin5 HZ.out HBW.out (Nat.le_refl _) (.int .i64 0) (.int .i64 0) (.int .i64 0) (.int .i64 0) (.int .i64 0)
      unfold set5 at p0 p1 p2 p3 p4 hB9
      generalize ((((w2.setCell ⟨w.heap.size, 0, none⟩ (.int .i64 0)).setCell ⟨w.heap.size, 1, none⟩ (.int .i64 0)).setCell ⟨w.heap.size, 2, none⟩ (.int .i64 0)).setCell ⟨w.heap.size, 3, none⟩ (.int .i64 0)).setCell ⟨w.heap.size, 4, none⟩ (.int .i64 0) = W9 at *
      (try simp only [Exit.inBlock, Exit.then])
      refine bodyPost_ret (v := .tuple #[.agg #[.int .i64 0, .int .i64 0, .int .i64 0, .int .i64 0, .int .i64 0], .iface 164 (.pointer (some AE))]) (by simp [results, Tryd.results14, go_sem, p0, p1, p2, p3, p4]) rfl ?_
      exact ⟨⟨_, by rw [HR.out], ⟨_, rfl⟩⟩, hB9⟩
  · have HC : Hid ((cand n).cells = #[.int .i64 (o : Int), .int .i64 (a : Int), .int .i64 (b : Int), .int .i64 0, .int .i64 (m : Int)]) := by unfold Hid; rw [HE.out]; rfl
    clear HE
    go_wp2_with fail
    refine Calls.mono (check_at (cand n) _ HC.out.symm _ (D0.out _ (((Below.refl _ _).alloc (Nat.le_refl _) _).alloc (by simp) _))) ?_
    rintro e w2 ⟨he, hb2⟩
    obtain ⟨hz, hq, hbw⟩ := dec_world _ _ _ _ _ _ _ _ _ hb2
    obtain ⟨q0, q1, q2, q3, q4⟩ := bl_get hq
    obtain ⟨z0, z1, z2, z3, z4⟩ := bl_get hz
    obtain ⟨y0, y1, y2, y3, y4⟩ := bl_free hz
    have HZ := hide hz
    have HBW := hide hbw
    clear hz hq hbw hb2
    by_cases hk : okI (cand n) = true
    · have HR : Hid ((dec n).cells = #[.int .i64 (o : Int), .int .i64 (a : Int), .int .i64 (b : Int), .int .i64 0, .int .i64 (m : Int)]) := by unfold Hid dec; rw [if_pos hk]; exact HC.out
      rw [if_pos hk] at he
      subst he
      go_wp2
      obtain ⟨⟨p0, p1, p2, p3, p4⟩, hB9⟩ := fin5 HZ.out HBW.out (Nat.le_refl _) (.int .i64 (o : Int)) (.int .i64 (a : Int)) (.int .i64 (b : Int)) (.int .i64 0) (.int .i64 (m : Int))
      unfold set5 at p0 p1 p2 p3 p4 hB9
      generalize ((((w2.setCell ⟨w.heap.size, 0, none⟩ (.int .i64 (o : Int))).setCell ⟨w.heap.size, 1, none⟩ (.int .i64 (a : Int))).setCell ⟨w.heap.size, 2, none⟩ (.int .i64 (b : Int))).setCell ⟨w.heap.size, 3, none⟩ (.int .i64 0)).setCell ⟨w.heap.size, 4, none⟩ (.int .i64 (m : Int)) = W9 at *
      (try simp only [Exit.inBlock, Exit.then])
      refine bodyPost_ret (v := .tuple #[.agg #[.int .i64 (o : Int), .int .i64 (a : Int), .int .i64 (b : Int), .int .i64 0, .int .i64 (m : Int)], .nilIface]) (by simp [results, Tryd.results14, go_sem, p0, p1, p2, p3, p4]) rfl ?_
      exact ⟨by rw [HR.out], hB9⟩
    · have HR : Hid ((dec n).cells = #[.int .i64 0, .int .i64 0, .int .i64 0, .int .i64 0, .int .i64 0]) := by unfold Hid dec; rw [if_neg hk]; rfl
      rw [if_neg hk] at he
      obtain ⟨AE, rfl⟩ := he
      go_wp2
      obtain ⟨⟨p0, p1, p2, p3, p4⟩, hB9⟩ := fin5 HZ.out HBW.out (Nat.le_refl _) (.int .i64 0) (.int .i64 0) (.int .i64 0) (.int .i64 0) (.int .i64 0)
      unfold set5 at p0 p1 p2 p3 p4 hB9
      generalize ((((w2.setCell ⟨w.heap.size, 0, none⟩ (.int .i64 0)).setCell ⟨w.heap.size, 1, none⟩ (.int .i64 0)).setCell ⟨w.heap.size, 2, none⟩ (.int .i64 0)).setCell ⟨w.heap.size, 3, none⟩ (.int .i64 0)).setCell ⟨w.heap.size, 4, none⟩ (.int .i64 0) = W9 at *
      (try simp only [Exit.inBlock, Exit.then])
      refine bodyPost_ret (v := .tuple #[.agg #[.int .i64 0, .int .i64 0, .int .i64 0, .int .i64 0, .int .i64 0], .iface 164 (.pointer (some AE))]) (by simp [results, Tryd.results14, go_sem, p0, p1, p2, p3, p4]) rfl ?_
      exact ⟨⟨_, by rw [HR.out], ⟨_, rfl⟩⟩, hB9⟩
  · have HC : Hid ((cand n).cells = #[.int .i64 (o : Int), .int .i64 (a : Int), .int .i64 (b : Int), .int .i64 0, .int .i64 s]) := by unfold Hid; rw [HE.out]; rfl
    clear HE
    go_wp2_with fail
    refine Calls.mono (check_at (cand n) _ HC.out.symm _ (D0.out _ (((Below.refl _ _).alloc (Nat.le_refl _) _).alloc (by simp) _))) ?_
    rintro e w2 ⟨he, hb2⟩
    obtain ⟨hz, hq, hbw⟩ := dec_world _ _ _ _ _ _ _ _ _ hb2
    obtain ⟨q0, q1, q2, q3, q4⟩ := bl_get hq
    obtain ⟨z0, z1, z2, z3, z4⟩ := bl_get hz
    obtain ⟨y0, y1, y2, y3, y4⟩ := bl_free hz
    have HZ := hide hz
    have HBW := hide hbw
    clear hz hq hbw hb2
    by_cases hk : okI (cand n) = true
    · have HR : Hid ((dec n).cells = #[.int .i64 (o : Int), .int .i64 (a : Int), .int .i64 (b : Int), .int .i64 0, .int .i64 s]) := by unfold Hid dec; rw [if_pos hk]; exact HC.out
      rw [if_pos hk] at he
      subst he
      go_wp2
      obtain ⟨⟨p0, p1, p2, p3, p4⟩, hB9⟩ := fin5 HZ.out HBW.out (Nat.le_refl _) (.int .i64 (o : Int)) (.int .i64 (a : Int)) (.int .i64 (b : Int)) (.int .i64 0) (.int .i64 s)
      unfold set5 at p0 p1 p2 p3 p4 hB9
      generalize ((((w2.setCell ⟨w.heap.size, 0, none⟩ (.int .i64 (o : Int))).setCell ⟨w.heap.size, 1, none⟩ (.int .i64 (a : Int))).setCell ⟨w.heap.size, 2, none⟩ (.int .i64 (b : Int))).setCell ⟨w.heap.size, 3, none⟩ (.int .i64 0)).setCell ⟨w.heap.size, 4, none⟩ (.int .i64 s) = W9 at *
      (try simp only [Exit.inBlock, Exit.then])
      refine bodyPost_ret (v := .tuple #[.agg #[.int .i64 (o : Int), .int .i64 (a : Int), .int .i64 (b : Int), .int .i64 0, .int .i64 s], .nilIface]) (by simp [results, Tryd.results14, go_sem, p0, p1, p2, p3, p4]) rfl ?_
      exact ⟨by rw [HR.out], hB9⟩
    · have HR : Hid ((dec n).cells = #[.int .i64 0, .int .i64 0, .int .i64 0, .int .i64 0, .int .i64 0]) := by unfold Hid dec; rw [if_neg hk]; rfl
      rw [if_neg hk] at he
      obtain ⟨AE, rfl⟩ := he
      go_wp2
      obtain ⟨⟨p0, p1, p2, p3, p4⟩, hB9⟩ := fin5 HZ.out HBW.out (Nat.le_refl _) (.int .i64 0) (.int .i64 0) (.int .i64 0) (.int .i64 0) (.int .i64 0)
      unfold set5 at p0 p1 p2 p3 p4 hB9
      generalize ((((w2.setCell ⟨w.heap.size, 0, none⟩ (.int .i64 0)).setCell ⟨w.heap.size, 1, none⟩ (.int .i64 0)).setCell ⟨w.heap.size, 2, none⟩ (.int .i64 0)).setCell ⟨w.heap.size, 3, none⟩ (.int .i64 0)).setCell ⟨w.heap.size, 4, none⟩ (.int .i64 0) = W9 at *
      (try simp only [Exit.inBlock, Exit.then])
      refine bodyPost_ret (v := .tuple #[.agg #[.int .i64 0, .int .i64 0, .int .i64 0, .int .i64 0, .int .i64 0], .iface 164 (.pointer (some AE))]) (by simp [results, Tryd.results14, go_sem, p0, p1, p2, p3, p4]) rfl ?_
      exact ⟨⟨_, by rw [HR.out], ⟨_, rfl⟩⟩, hB9⟩
  · have HC : Hid ((cand n).cells = #[.int .i64 (o : Int), .int .i64 (a : Int), .int .i64 (b : Int), .int .i64 0, .int .i64 s]) := by unfold Hid; rw [HE.out]; rfl
    clear HE
    go_wp2_with fail
    refine Calls.mono (check_at (cand n) _ HC.out.symm _ (D0.out _ (((Below.refl _ _).alloc (Nat.le_refl _) _).alloc (by simp) _))) ?_
    rintro e w2 ⟨he, hb2⟩
    obtain ⟨hz, hq, hbw⟩ := dec_world _ _ _ _ _ _ _ _ _ hb2
    obtain ⟨q0, q1, q2, q3, q4⟩ := bl_get hq
    obtain ⟨z0, z1, z2, z3, z4⟩ := bl_get hz
    obtain ⟨y0, y1, y2, y3, y4⟩ := bl_free hz
    have HZ := hide hz
    have HBW := hide hbw
    clear hz hq hbw hb2
    by_cases hk : okI (cand n) = true
    · have HR : Hid ((dec n).cells = #[.int .i64 (o : Int), .int .i64 (a : Int), .int .i64 (b : Int), .int .i64 0, .int .i64 s]) := by unfold Hid dec; rw [if_pos hk]; exact HC.out
      rw [if_pos hk] at he
      subst he
      go_wp2
      obtain ⟨⟨p0, p1, p2, p3, p4⟩, hB9⟩ := fin5 HZ.out HBW.out (Nat.le_refl _) (.int .i64 (o : Int)) (.int .i64 (a : Int)) (.int .i64 (b : Int)) (.int .i64 0) (.int .i64 s)
      unfold set5 at p0 p1 p2 p3 p4 hB9
      generalize ((((w2.setCell ⟨w.heap.size, 0, none⟩ (.int .i64 (o : Int))).setCell ⟨w.heap.size, 1, none⟩ (.int .i64 (a : Int))).setCell ⟨w.heap.size, 2, none⟩ (.int .i64 (b : Int))).setCell ⟨w.heap.size, 3, none⟩ (.int .i64 0)).setCell ⟨w.heap.size, 4, none⟩ (.int .i64 s) = W9 at *
      (try simp only [Exit.inBlock, Exit.then])
      refine bodyPost_ret (v := .tuple #[.agg #[.int .i64 (o : Int), .int .i64 (a : Int), .int .i64 (b : Int), .int .i64 0, .int .i64 s], .nilIface]) (by simp [results, Tryd.results14, go_sem, p0, p1, p2, p3, p4]) rfl ?_
      exact ⟨by rw [HR.out], hB9⟩
    · have HR : Hid ((dec n).cells = #[.int .i64 0, .int .i64 0, .int .i64 0, .int .i64 0, .int .i64 0]) := by unfold Hid dec; rw [if_neg hk]; rfl
      rw [if_neg hk] at he
      obtain ⟨AE, rfl⟩ := he
      go_wp2
      obtain ⟨⟨p0, p1, p2, p3, p4⟩, hB9⟩ := fin5 HZ.out HBW.out (Nat.le_refl _) (.int .i64 0) (.int .i64 0) (.int .i64 0) (.int .i64 0) (.int .i64 0)
      unfold set5 at p0 p1 p2 p3 p4 hB9
      generalize ((((w2.setCell ⟨w.heap.size, 0, none⟩ (.int .i64 0)).setCell ⟨w.heap.size, 1, none⟩ (.int .i64 0)).setCell ⟨w.heap.size, 2, none⟩ (.int .i64 0)).setCell ⟨w.heap.size, 3, none⟩ (.int .i64 0)).setCell ⟨w.heap.size, 4, none⟩ (.int .i64 0) = W9 at *
      (try simp only [Exit.inBlock, Exit.then])
      refine bodyPost_ret (v := .tuple #[.agg #[.int .i64 0, .int .i64 0, .int .i64 0, .int .i64 0, .int .i64 0], .iface 164 (.pointer (some AE))]) (by simp [results, Tryd.results14, go_sem, p0, p1, p2, p3, p4]) rfl ?_
      exact ⟨⟨_, by rw [HR.out], ⟨_, rfl⟩⟩, hB9⟩
  · have HC : Hid ((cand n).cells = #[.int .i64 (o : Int), .int .i64 (a : Int), .int .i64 (b : Int), .int .i64 0, .int .i64 (m : Int)]) := by unfold Hid; rw [HE.out]; rfl
    clear HE
    go_wp2_with fail
    refine Calls.mono (check_at (cand n) _ HC.out.symm _ (D0.out _ (((Below.refl _ _).alloc (Nat.le_refl _) _).alloc (by simp) _))) ?_
    rintro e w2 ⟨he, hb2⟩
    obtain ⟨hz, hq, hbw⟩ := dec_world _ _ _ _ _ _ _ _ _ hb2
    obtain ⟨q0, q1, q2, q3, q4⟩ := bl_get hq
    obtain ⟨z0, z1, z2, z3, z4⟩ := bl_get hz
    obtain ⟨y0, y1, y2, y3, y4⟩ := bl_free hz
    have HZ := hide hz
    have HBW := hide hbw
    clear hz hq hbw hb2
    by_cases hk : okI (cand n) = true
    · have HR : Hid ((dec n).cells = #[.int .i64 (o : Int), .int .i64 (a : Int), .int .i64 (b : Int), .int .i64 0, .int .i64 (m : Int)]) := by unfold Hid dec; rw [if_pos hk]; exact HC.out
      rw [if_pos hk] at he
      subst he
      go_wp2
      obtain ⟨⟨p0, p1, p2, p3, p4⟩, hB9⟩ := fin5 HZ.out HBW.out (Nat.le_refl _) (.int .i64 (o : Int)) (.int .i64 (a : Int)) (.int .i64 (b : Int)) (.int .i64 0) (.int .i64 (m : Int))
      unfold set5 at p0 p1 p2 p3 p4 hB9
      generalize ((((w2.setCell ⟨w.heap.size, 0, none⟩ (.int .i64 (o : Int))).setCell ⟨w.heap.size, 1, none⟩ (.int .i64 (a : Int))).setCell ⟨w.heap.size, 2, none⟩ (.int .i64 (b : Int))).setCell ⟨w.heap.size, 3, none⟩ (.int .i64 0)).setCell ⟨w.heap.size, 4, none⟩ (.int .i64 (m : Int)) = W9 at *
      (try simp only [Exit.inBlock, Exit.then])
      refine bodyPost_ret (v := .tuple #[.agg #[.int .i64 (o : Int), .int .i64 (a : Int), .int .i64 (b : Int), .int .i64 0, .int .i64 (m : Int)], .nilIface]) (by simp [results, Tryd.results14, go_sem, p0, p1, p2, p3, p4]) rfl ?_
      exact ⟨by rw [HR.out], hB9⟩
    · have HR : Hid ((dec n).cells = #[.int .i64 0, .int .i64 0, .int .i64 0, .int .i64 0, .int .i64 0]) := by unfold Hid dec; rw [if_neg hk]; rfl
      rw [if_neg hk] at he
      obtain ⟨AE, rfl⟩ := he
      go_wp2
      obtain ⟨⟨p0, p1, p2, p3, p4⟩, hB9⟩ := fin5 HZ.out HBW.out (Nat.le_refl _) (.int .i64 0) (.int .i64 0) (.int .i64 0) (.int .i64 0) (.int .i64 0)
      unfold set5 at p0 p1 p2 p3 p4 hB9
      generalize ((((w2.setCell ⟨w.heap.size, 0, none⟩ (.int .i64 0)).setCell ⟨w.heap.size, 1, none⟩ (.int .i64 0)).setCell ⟨w.heap.size, 2, none⟩ (.int .i64 0)).setCell ⟨w.heap.size, 3, none⟩ (.int .i64 0)).setCell ⟨w.heap.size, 4, none⟩ (.int .i64 0) = W9 at *
      (try simp only [Exit.inBlock, Exit.then])
      refine bodyPost_ret (v := .tuple #[.agg #[.int .i64 0, .int .i64 0, .int .i64 0, .int .i64 0, .int .i64 0], .iface 164 (.pointer (some AE))]) (by simp [results, Tryd.results14, go_sem, p0, p1, p2, p3, p4]) rfl ?_
      exact ⟨⟨_, by rw [HR.out], ⟨_, rfl⟩⟩, hB9⟩
end Go.Proofs.YthcmeboepedelaaDoor
