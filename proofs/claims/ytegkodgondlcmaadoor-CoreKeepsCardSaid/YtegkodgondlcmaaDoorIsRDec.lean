/-
  The document's Decode of a word.
-/
import Derived.Test.YtegkodgondlcmaaDoorIsREnc
import Derived.Test.YtegkodgondlcmaaDoorIsDecode
namespace Go.Proofs.YtegkodgondlcmaaDoor
open Go.RowKit FerryCrc
set_option linter.unusedVariables false
set_option linter.unusedSimpArgs false

theorem rencode_at (i : Ins) (x : Array Value) (hx : x = i.cells) (v : Int) (k : Nat) (hv : (if okI i then encv i else 0) = v) (hk : codeI i = k) (w : World) : Calls Tryd.prog 72 #[.agg x] w fun e w' => e = .returned (.tuple #[.int .u32 v, .int .i64 ((k : Nat) : Int)]) ∧ Below w.heap.size w w' := by
  subst hx hv hk
  exact rencode_any i w

/-- What the document holds against the word. -/
def rc (n f : Nat) : Ins := ⟨((n / 16777216 : Nat) : Int), ((n / 1048576 % 16 : Nat) : Int), ((n / 65536 % 16 : Nat) : Int), if f = 1 then ((n / 4096 % 16 : Nat) : Int) else 0,
    if f = 1 then 0 else if f = 2 ∨ f = 5 ∨ f = 6 then s16 (n % 65536) else ((n % 65536 : Nat) : Int)⟩
theorem rc_cand {n f : Nat} (hf : form ((n / 16777216 : Nat) : Int) = f) (h1 : f ≠ 1) : rc n f = cand n := by
  unfold rc cand
  simp only [hf, if_neg h1]
theorem rc_enc {n f : Nat} (h1 : f ≠ 1) : encv (rc n f) = (n : Int) := by
  unfold rc encv s16
  simp only [if_neg h1]
  split <;> (try split) <;> (try split) <;> omega
theorem rc_one {n : Nat} (hn : n < 4294967296) (hf : form ((n / 16777216 : Nat) : Int) = 1) : okI (rc n 1) = true ∧ encv (rc n 1) = (n : Int) - ((n % 4096 : Nat) : Int) ∧ okI (cand n) = decide (n % 4096 = 0) ∧ (n % 4096 = 0 → cand n = rc n 1) := by
  refine ⟨?_, ?_, ?_, ?_⟩
  · unfold okI bA bB bC bI rc
    simp only [hf, if_pos]
    simp [hiA, hiB, hiC, loI, hiI]
    omega
  · unfold encv rc
    simp only [if_pos]
    split <;> omega
  · unfold okI bA bB bC bI cand
    simp only [hf, if_pos]
    rw [Bool.eq_iff_iff]
    simp only [hiA, hiB, hiC, loI, hiI, List.getD_eq_getElem?_getD, Bool.and_eq_true, decide_eq_true_eq]
    simp
    omega
  · intro h
    unfold rc cand
    simp only [hf, if_pos, h]
    rfl

set_option maxRecDepth 100000 in
set_option maxHeartbeats 8000000 in
theorem rdecode_any (n : Nat) (w : World) (hn : n < 4294967296) : Calls Tryd.prog 51 #[.int .u32 (n : Int)] w fun e w' => (∃ k : Nat, e = .returned (.tuple #[.agg (dec n).cells, .int .i64 (k : Int)]) ∧ (k = 0 ↔ okI (cand n) = true)) ∧ Below w.heap.size w w' := by
  obtain ⟨f, hf⟩ : ∃ f, form ((n / 16777216 : Nat) : Int) = f := ⟨_, rfl⟩
  have f7 : f ≤ 7 := by rw [← hf]; exact form_le _
  have HF := hide (rform_any ((n / 16777216 : Nat) : Int))
  rw [hf] at HF
  have HRC : Hid (f ≠ 1 → rc n f = cand n) := rc_cand hf
  have HRE : Hid (f ≠ 1 → encv (rc n f) = (n : Int)) := rc_enc
  have HR1 : Hid (f = 1 → okI (rc n 1) = true ∧ encv (rc n 1) = (n : Int) - ((n % 4096 : Nat) : Int) ∧ okI (cand n) = decide (n % 4096 = 0) ∧ (n % 4096 = 0 → cand n = rc n 1)) := fun h => rc_one hn (by rw [hf, h])
  have HF0 : Hid (f = 0 → okI (cand n) = false) := fun h => by
    unfold okI
    rw [show (cand n).op = ((n / 16777216 : Nat) : Int) from rfl, hf, h]
    rfl
  have HU := hide (fun w => uses_any f 73 w (by omega) (by decide))
  obtain ⟨o, ho⟩ : ∃ o, n / 16777216 = o := ⟨_, rfl⟩
  obtain ⟨a, ha⟩ : ∃ a, n / 1048576 % 16 = a := ⟨_, rfl⟩
  obtain ⟨b, hb⟩ : ∃ b, n / 65536 % 16 = b := ⟨_, rfl⟩
  obtain ⟨c, hc⟩ : ∃ c, n / 4096 % 16 = c := ⟨_, rfl⟩
  obtain ⟨m, hm⟩ : ∃ m, n % 65536 = m := ⟨_, rfl⟩
  have e0 : (n : Int) / 16777216 = (o : Int) := by omega
  have e1 : (n : Int) / 1048576 % 16 = (a : Int) := by omega
  have e2 : (n : Int) / 65536 % 16 = (b : Int) := by omega
  have e3 : (m : Int) / 4096 = (c : Int) := by omega
  have e4 : (n : Int) % 65536 = (m : Int) := by omega
  have a1 : a < 16 := by omega
  have b1 : b < 16 := by omega
  have c1 : c < 16 := by omega
  have m1 : m < 65536 := by omega
  have o1 : o < 256 := by omega
  rw [ho] at HF
  have HCC : Hid ((rc n f).cells = #[.int .i64 (o : Int), .int .i64 (a : Int), .int .i64 (b : Int), .int .i64 (if f = 1 then (c : Int) else 0), .int .i64 (if f = 1 then 0 else if f = 2 ∨ f = 5 ∨ f = 6 then s16 m else (m : Int))]) := by
    unfold Hid rc Ins.cells
    simp only [ho, ha, hb, hc, hm]
  clear hf ho ha hb hc hm
  go_enter Tryd.func51, Tryd.ntmps51
  go_wp2_with fail
  refine Calls.mono (HF.out _) ?_
  rintro e w' ⟨rfl, rfl⟩
  rcases (by omega : f = 0 ∨ f = 1 ∨ f = 2 ∨ f = 3 ∨ f = 4 ∨ f = 5 ∨ f = 6 ∨ f = 7) with rfl | rfl | rfl | rfl | rfl | rfl | rfl | rfl
  · have hk := HF0.out rfl
    have HR : Hid ((dec n).cells = #[.int .i64 0, .int .i64 0, .int .i64 0, .int .i64 0, .int .i64 0]) := by unfold Hid dec; rw [if_neg (by rw [hk]; decide)]; rfl
    have HK := hide hk
    clear hk
    go_wp2
    obtain ⟨hz, _, hbw⟩ := dec_world w _ _ _ _ _ _ 48 #[.int .i64 0, .int .i64 0, .int .i64 0, .int .i64 0, .int .i64 0] (Below.refl _ ((w.alloc (.cells #[.int .i64 0, .int .i64 0, .int .i64 0, .int .i64 0, .int .i64 0] 48)).alloc (.cells #[.int .i64 (o : Int), .int .i64 (a : Int), .int .i64 (b : Int), .int .i64 0, .int .i64 0] 48)))
    obtain ⟨p0, p1, p2, p3, p4⟩ := bl_get hz
    generalize (w.alloc (.cells #[.int .i64 0, .int .i64 0, .int .i64 0, .int .i64 0, .int .i64 0] 48)).alloc (.cells #[.int .i64 (o : Int), .int .i64 (a : Int), .int .i64 (b : Int), .int .i64 0, .int .i64 0] 48) = W9 at *
    (try simp only [Exit.inBlock, Exit.then])
    refine bodyPost_ret (v := .tuple #[.agg #[.int .i64 0, .int .i64 0, .int .i64 0, .int .i64 0, .int .i64 0], .int .i64 7]) (by simp [results, Tryd.results51, go_sem, p0, p1, p2, p3, p4]) rfl ?_
    exact ⟨⟨7, by rw [HR.out]; rfl, by simp [HK.out]⟩, hbw⟩
  · obtain ⟨h1, h2, h3, h4⟩ := HR1.out rfl
    have HX : Hid ((rc n 1).cells = #[.int .i64 (o : Int), .int .i64 (a : Int), .int .i64 (b : Int), .int .i64 (c : Int), .int .i64 0]) := HCC.out
    have HK : Hid (codeI (rc n 1) = 0) := codeI_zero.2 h1
    by_cases hl : n % 4096 = 0
    · have HOK : Hid (okI (cand n) = true) := by unfold Hid; rw [h3]; exact decide_eq_true hl
      have HR : Hid ((dec n).cells = #[.int .i64 (o : Int), .int .i64 (a : Int), .int .i64 (b : Int), .int .i64 (c : Int), .int .i64 0]) := by unfold Hid dec; rw [if_pos HOK.out, h4 hl]; exact HX.out
      have HV : Hid ((if okI (rc n 1) then encv (rc n 1) else 0) = (n : Int)) := by unfold Hid; rw [if_pos h1, h2, hl]; simp
      clear h1 h2 h3 h4 hl HCC
      go_wp2_with fail
      refine Calls.mono (rencode_at (rc n 1) _ HX.out.symm (n : Int) 0 HV.out HK.out _) ?_
      rintro e w2 ⟨rfl, hb2⟩
      obtain ⟨hz, hq, hbw⟩ := dec_world _ _ _ _ _ _ _ _ _ hb2
      obtain ⟨q0, q1, q2, q3, q4⟩ := bl_get hq
      obtain ⟨z0, z1, z2, z3, z4⟩ := bl_get hz
      obtain ⟨y0, y1, y2, y3, y4⟩ := bl_free hz
      have HZ := hide hz
      have HBW := hide hbw
      clear hz hq hbw hb2
      go_wp2
      obtain ⟨⟨p0, p1, p2, p3, p4⟩, hB9⟩ := fin5 HZ.out HBW.out (Nat.le_refl _) (.int .i64 (o : Int)) (.int .i64 (a : Int)) (.int .i64 (b : Int)) (.int .i64 (c : Int)) (.int .i64 0)
      unfold set5 at p0 p1 p2 p3 p4 hB9
      generalize ((((w2.setCell ⟨w.heap.size, 0, none⟩ (.int .i64 (o : Int))).setCell ⟨w.heap.size, 1, none⟩ (.int .i64 (a : Int))).setCell ⟨w.heap.size, 2, none⟩ (.int .i64 (b : Int))).setCell ⟨w.heap.size, 3, none⟩ (.int .i64 (c : Int))).setCell ⟨w.heap.size, 4, none⟩ (.int .i64 0) = W9 at *
      (try simp only [Exit.inBlock, Exit.then])
      refine bodyPost_ret (v := .tuple #[.agg #[.int .i64 (o : Int), .int .i64 (a : Int), .int .i64 (b : Int), .int .i64 (c : Int), .int .i64 0], .int .i64 0]) (by simp [results, Tryd.results51, go_sem, p0, p1, p2, p3, p4]) rfl ?_
      exact ⟨⟨0, by rw [HR.out]; rfl, by simp [HOK.out]⟩, hB9⟩
    · have HOK : Hid (okI (cand n) = false) := by unfold Hid; rw [h3]; exact decide_eq_false hl
      have HR : Hid ((dec n).cells = #[.int .i64 0, .int .i64 0, .int .i64 0, .int .i64 0, .int .i64 0]) := by unfold Hid dec; rw [if_neg (by rw [HOK.out]; decide)]; rfl
      obtain ⟨v, hv⟩ : ∃ v, encv (rc n 1) = v := ⟨_, rfl⟩
      have HV : Hid ((if okI (rc n 1) then encv (rc n 1) else 0) = v) := by unfold Hid; rw [if_pos h1, hv]
      have d9 : (v != (n : Int)) = true := by rw [bne_iff_ne, ← hv, h2]; omega
      clear h1 h2 h3 h4 hl hv HCC
      go_wp2_with fail
      refine Calls.mono (rencode_at (rc n 1) _ HX.out.symm v 0 HV.out HK.out _) ?_
      rintro e w2 ⟨rfl, hb2⟩
      obtain ⟨hz, hq, hbw⟩ := dec_world _ _ _ _ _ _ _ _ _ hb2
      obtain ⟨q0, q1, q2, q3, q4⟩ := bl_get hq
      obtain ⟨z0, z1, z2, z3, z4⟩ := bl_get hz
      obtain ⟨y0, y1, y2, y3, y4⟩ := bl_free hz
      have HZ := hide hz
      have HBW := hide hbw
      clear hz hq hbw hb2
      go_wp2
      obtain ⟨⟨p0, p1, p2, p3, p4⟩, hB9⟩ := fin5 HZ.out HBW.out (Nat.le_refl _) (.int .i64 0) (.int .i64 0) (.int .i64 0) (.int .i64 0) (.int .i64 0)
      unfold set5 at p0 p1 p2 p3 p4 hB9
      generalize ((((w2.setCell ⟨w.heap.size, 0, none⟩ (.int .i64 0)).setCell ⟨w.heap.size, 1, none⟩ (.int .i64 0)).setCell ⟨w.heap.size, 2, none⟩ (.int .i64 0)).setCell ⟨w.heap.size, 3, none⟩ (.int .i64 0)).setCell ⟨w.heap.size, 4, none⟩ (.int .i64 0) = W9 at *
      (try simp only [Exit.inBlock, Exit.then])
      refine bodyPost_ret (v := .tuple #[.agg #[.int .i64 0, .int .i64 0, .int .i64 0, .int .i64 0, .int .i64 0], .int .i64 4]) (by simp [results, Tryd.results51, go_sem, p0, p1, p2, p3, p4]) rfl ?_
      exact ⟨⟨4, by rw [HR.out]; rfl, by simp [HOK.out]⟩, hB9⟩
  · by_cases hm : m < 32768
    · have d7 : decide ((32768 : Int) ≤ (m : Int)) = false := decide_eq_false (by omega)
      have HS : Hid (s16 m = (m : Int)) := by unfold Hid s16; rw [if_pos hm]
      clear hm
      have HU2 : Hid (∀ w, Calls Tryd.prog 71 #[.int .i64 ((2 : Nat) : Int), .int .u8 73] w fun e w' => e = .returned (.bool true) ∧ w = w') := fun w => uses_at (by decide) (by decide) rfl w
      have HX : Hid ((rc n 2).cells = #[.int .i64 (o : Int), .int .i64 (a : Int), .int .i64 (b : Int), .int .i64 0, .int .i64 (m : Int)]) := by unfold Hid; rw [HCC.out]; rw [HS.out]; rfl
      clear HU
      by_cases hk : okI (cand n) = true
      · have HOK := hide hk
        have HR : Hid ((dec n).cells = #[.int .i64 (o : Int), .int .i64 (a : Int), .int .i64 (b : Int), .int .i64 0, .int .i64 (m : Int)]) := by unfold Hid dec; rw [if_pos hk, ← HRC.out (by decide)]; exact HX.out
        have HV : Hid ((if okI (rc n 2) then encv (rc n 2) else 0) = (n : Int)) := by unfold Hid; rw [HRC.out (by decide), if_pos hk, ← HRC.out (by decide)]; exact HRE.out (by decide)
        have HK : Hid (codeI (rc n 2) = 0) := by unfold Hid; rw [HRC.out (by decide)]; exact codeI_zero.2 hk
        clear hk HCC
        go_wp2_with fail
        refine Calls.mono (HU2.out _) ?_
        rintro e w' ⟨rfl, rfl⟩
        go_wp2_with fail
        refine Calls.mono (rencode_at (rc n 2) _ HX.out.symm (n : Int) 0 HV.out HK.out _) ?_
        rintro e w2 ⟨rfl, hb2⟩
        obtain ⟨hz, hq, hbw⟩ := dec_world _ _ _ _ _ _ _ _ _ hb2
        obtain ⟨q0, q1, q2, q3, q4⟩ := bl_get hq
        obtain ⟨z0, z1, z2, z3, z4⟩ := bl_get hz
        obtain ⟨y0, y1, y2, y3, y4⟩ := bl_free hz
        have HZ := hide hz
        have HBW := hide hbw
        clear hz hq hbw hb2
        go_wp2
        obtain ⟨⟨p0, p1, p2, p3, p4⟩, hB9⟩ := fin5 HZ.out HBW.out (Nat.le_refl _) (.int .i64 (o : Int)) (.int .i64 (a : Int)) (.int .i64 (b : Int)) (.int .i64 0) (.int .i64 (m : Int))
        unfold set5 at p0 p1 p2 p3 p4 hB9
        generalize ((((w2.setCell ⟨w.heap.size, 0, none⟩ (.int .i64 (o : Int))).setCell ⟨w.heap.size, 1, none⟩ (.int .i64 (a : Int))).setCell ⟨w.heap.size, 2, none⟩ (.int .i64 (b : Int))).setCell ⟨w.heap.size, 3, none⟩ (.int .i64 0)).setCell ⟨w.heap.size, 4, none⟩ (.int .i64 (m : Int)) = W9 at *
        (try simp only [Exit.inBlock, Exit.then])
        refine bodyPost_ret (v := .tuple #[.agg #[.int .i64 (o : Int), .int .i64 (a : Int), .int .i64 (b : Int), .int .i64 0, .int .i64 (m : Int)], .int .i64 0]) (by simp [results, Tryd.results51, go_sem, p0, p1, p2, p3, p4]) rfl ?_
        exact ⟨⟨0, by rw [HR.out]; rfl, by simp [HOK.out]⟩, hB9⟩
      · have hk2 : okI (cand n) = false := by simpa using hk
        have HOK := hide hk2
        have HR : Hid ((dec n).cells = #[.int .i64 0, .int .i64 0, .int .i64 0, .int .i64 0, .int .i64 0]) := by unfold Hid dec; rw [if_neg hk]; rfl
        have HV : Hid ((if okI (rc n 2) then encv (rc n 2) else 0) = 0) := by unfold Hid; rw [HRC.out (by decide), if_neg hk]
        obtain ⟨k, hkk⟩ : ∃ k, codeI (rc n 2) = k := ⟨_, rfl⟩
        have HK := hide hkk
        have d8 : ((k : Int) != 0) = true := by
          have : ¬ k = 0 := fun h => hk (by rw [← HRC.out (by decide)]; exact codeI_zero.1 (by rw [hkk, h]))
          rw [bne_iff_ne]
          omega
        clear hk hk2 hkk HCC
        go_wp2_with fail
        refine Calls.mono (HU2.out _) ?_
        rintro e w' ⟨rfl, rfl⟩
        go_wp2_with fail
        refine Calls.mono (rencode_at (rc n 2) _ HX.out.symm 0 k HV.out HK.out _) ?_
        rintro e w2 ⟨rfl, hb2⟩
        obtain ⟨hz, hq, hbw⟩ := dec_world _ _ _ _ _ _ _ _ _ hb2
        obtain ⟨q0, q1, q2, q3, q4⟩ := bl_get hq
        obtain ⟨z0, z1, z2, z3, z4⟩ := bl_get hz
        obtain ⟨y0, y1, y2, y3, y4⟩ := bl_free hz
        have HZ := hide hz
        have HBW := hide hbw
        clear hz hq hbw hb2
        go_wp2
        obtain ⟨⟨p0, p1, p2, p3, p4⟩, hB9⟩ := fin5 HZ.out HBW.out (Nat.le_refl _) (.int .i64 0) (.int .i64 0) (.int .i64 0) (.int .i64 0) (.int .i64 0)
        unfold set5 at p0 p1 p2 p3 p4 hB9
        generalize ((((w2.setCell ⟨w.heap.size, 0, none⟩ (.int .i64 0)).setCell ⟨w.heap.size, 1, none⟩ (.int .i64 0)).setCell ⟨w.heap.size, 2, none⟩ (.int .i64 0)).setCell ⟨w.heap.size, 3, none⟩ (.int .i64 0)).setCell ⟨w.heap.size, 4, none⟩ (.int .i64 0) = W9 at *
        (try simp only [Exit.inBlock, Exit.then])
        refine bodyPost_ret (v := .tuple #[.agg #[.int .i64 0, .int .i64 0, .int .i64 0, .int .i64 0, .int .i64 0], .int .i64 4]) (by simp [results, Tryd.results51, go_sem, p0, p1, p2, p3, p4]) rfl ?_
        exact ⟨⟨4, by rw [HR.out]; rfl, by simp [HOK.out]⟩, hB9⟩
    · have d7 : decide ((32768 : Int) ≤ (m : Int)) = true := decide_eq_true (by omega)
      have HS : Hid (s16 m = (m : Int) - 65536) := by unfold Hid s16; rw [if_neg hm]
      clear hm
      have HU2 : Hid (∀ w, Calls Tryd.prog 71 #[.int .i64 ((2 : Nat) : Int), .int .u8 73] w fun e w' => e = .returned (.bool true) ∧ w = w') := fun w => uses_at (by decide) (by decide) rfl w
      have HX : Hid ((rc n 2).cells = #[.int .i64 (o : Int), .int .i64 (a : Int), .int .i64 (b : Int), .int .i64 0, .int .i64 ((m : Int) - 65536)]) := by unfold Hid; rw [HCC.out]; rw [HS.out]; rfl
      clear HU
      by_cases hk : okI (cand n) = true
      · have HOK := hide hk
        have HR : Hid ((dec n).cells = #[.int .i64 (o : Int), .int .i64 (a : Int), .int .i64 (b : Int), .int .i64 0, .int .i64 ((m : Int) - 65536)]) := by unfold Hid dec; rw [if_pos hk, ← HRC.out (by decide)]; exact HX.out
        have HV : Hid ((if okI (rc n 2) then encv (rc n 2) else 0) = (n : Int)) := by unfold Hid; rw [HRC.out (by decide), if_pos hk, ← HRC.out (by decide)]; exact HRE.out (by decide)
        have HK : Hid (codeI (rc n 2) = 0) := by unfold Hid; rw [HRC.out (by decide)]; exact codeI_zero.2 hk
        clear hk HCC
        go_wp2_with fail
        refine Calls.mono (HU2.out _) ?_
        rintro e w' ⟨rfl, rfl⟩
        go_wp2_with fail
        refine Calls.mono (rencode_at (rc n 2) _ HX.out.symm (n : Int) 0 HV.out HK.out _) ?_
        rintro e w2 ⟨rfl, hb2⟩
        obtain ⟨hz, hq, hbw⟩ := dec_world _ _ _ _ _ _ _ _ _ hb2
        obtain ⟨q0, q1, q2, q3, q4⟩ := bl_get hq
        obtain ⟨z0, z1, z2, z3, z4⟩ := bl_get hz
        obtain ⟨y0, y1, y2, y3, y4⟩ := bl_free hz
        have HZ := hide hz
        have HBW := hide hbw
        clear hz hq hbw hb2
        go_wp2
        obtain ⟨⟨p0, p1, p2, p3, p4⟩, hB9⟩ := fin5 HZ.out HBW.out (Nat.le_refl _) (.int .i64 (o : Int)) (.int .i64 (a : Int)) (.int .i64 (b : Int)) (.int .i64 0) (.int .i64 ((m : Int) - 65536))
        unfold set5 at p0 p1 p2 p3 p4 hB9
        generalize ((((w2.setCell ⟨w.heap.size, 0, none⟩ (.int .i64 (o : Int))).setCell ⟨w.heap.size, 1, none⟩ (.int .i64 (a : Int))).setCell ⟨w.heap.size, 2, none⟩ (.int .i64 (b : Int))).setCell ⟨w.heap.size, 3, none⟩ (.int .i64 0)).setCell ⟨w.heap.size, 4, none⟩ (.int .i64 ((m : Int) - 65536)) = W9 at *
        (try simp only [Exit.inBlock, Exit.then])
        refine bodyPost_ret (v := .tuple #[.agg #[.int .i64 (o : Int), .int .i64 (a : Int), .int .i64 (b : Int), .int .i64 0, .int .i64 ((m : Int) - 65536)], .int .i64 0]) (by simp [results, Tryd.results51, go_sem, p0, p1, p2, p3, p4]) rfl ?_
        exact ⟨⟨0, by rw [HR.out]; rfl, by simp [HOK.out]⟩, hB9⟩
      · have hk2 : okI (cand n) = false := by simpa using hk
        have HOK := hide hk2
        have HR : Hid ((dec n).cells = #[.int .i64 0, .int .i64 0, .int .i64 0, .int .i64 0, .int .i64 0]) := by unfold Hid dec; rw [if_neg hk]; rfl
        have HV : Hid ((if okI (rc n 2) then encv (rc n 2) else 0) = 0) := by unfold Hid; rw [HRC.out (by decide), if_neg hk]
        obtain ⟨k, hkk⟩ : ∃ k, codeI (rc n 2) = k := ⟨_, rfl⟩
        have HK := hide hkk
        have d8 : ((k : Int) != 0) = true := by
          have : ¬ k = 0 := fun h => hk (by rw [← HRC.out (by decide)]; exact codeI_zero.1 (by rw [hkk, h]))
          rw [bne_iff_ne]
          omega
        clear hk hk2 hkk HCC
        go_wp2_with fail
        refine Calls.mono (HU2.out _) ?_
        rintro e w' ⟨rfl, rfl⟩
        go_wp2_with fail
        refine Calls.mono (rencode_at (rc n 2) _ HX.out.symm 0 k HV.out HK.out _) ?_
        rintro e w2 ⟨rfl, hb2⟩
        obtain ⟨hz, hq, hbw⟩ := dec_world _ _ _ _ _ _ _ _ _ hb2
        obtain ⟨q0, q1, q2, q3, q4⟩ := bl_get hq
        obtain ⟨z0, z1, z2, z3, z4⟩ := bl_get hz
        obtain ⟨y0, y1, y2, y3, y4⟩ := bl_free hz
        have HZ := hide hz
        have HBW := hide hbw
        clear hz hq hbw hb2
        go_wp2
        obtain ⟨⟨p0, p1, p2, p3, p4⟩, hB9⟩ := fin5 HZ.out HBW.out (Nat.le_refl _) (.int .i64 0) (.int .i64 0) (.int .i64 0) (.int .i64 0) (.int .i64 0)
        unfold set5 at p0 p1 p2 p3 p4 hB9
        generalize ((((w2.setCell ⟨w.heap.size, 0, none⟩ (.int .i64 0)).setCell ⟨w.heap.size, 1, none⟩ (.int .i64 0)).setCell ⟨w.heap.size, 2, none⟩ (.int .i64 0)).setCell ⟨w.heap.size, 3, none⟩ (.int .i64 0)).setCell ⟨w.heap.size, 4, none⟩ (.int .i64 0) = W9 at *
        (try simp only [Exit.inBlock, Exit.then])
        refine bodyPost_ret (v := .tuple #[.agg #[.int .i64 0, .int .i64 0, .int .i64 0, .int .i64 0, .int .i64 0], .int .i64 4]) (by simp [results, Tryd.results51, go_sem, p0, p1, p2, p3, p4]) rfl ?_
        exact ⟨⟨4, by rw [HR.out]; rfl, by simp [HOK.out]⟩, hB9⟩
  · skip
    have HU2 : Hid (∀ w, Calls Tryd.prog 71 #[.int .i64 ((3 : Nat) : Int), .int .u8 73] w fun e w' => e = .returned (.bool false) ∧ w = w') := fun w => uses_at (by decide) (by decide) rfl w
    have HX : Hid ((rc n 3).cells = #[.int .i64 (o : Int), .int .i64 (a : Int), .int .i64 (b : Int), .int .i64 0, .int .i64 (m : Int)]) := by unfold Hid; rw [HCC.out]; rfl
    clear HU
    by_cases hk : okI (cand n) = true
    · have HOK := hide hk
      have HR : Hid ((dec n).cells = #[.int .i64 (o : Int), .int .i64 (a : Int), .int .i64 (b : Int), .int .i64 0, .int .i64 (m : Int)]) := by unfold Hid dec; rw [if_pos hk, ← HRC.out (by decide)]; exact HX.out
      have HV : Hid ((if okI (rc n 3) then encv (rc n 3) else 0) = (n : Int)) := by unfold Hid; rw [HRC.out (by decide), if_pos hk, ← HRC.out (by decide)]; exact HRE.out (by decide)
      have HK : Hid (codeI (rc n 3) = 0) := by unfold Hid; rw [HRC.out (by decide)]; exact codeI_zero.2 hk
      clear hk HCC
      go_wp2_with fail
      refine Calls.mono (HU2.out _) ?_
      rintro e w' ⟨rfl, rfl⟩
      go_wp2_with fail
      refine Calls.mono (rencode_at (rc n 3) _ HX.out.symm (n : Int) 0 HV.out HK.out _) ?_
      rintro e w2 ⟨rfl, hb2⟩
      obtain ⟨hz, hq, hbw⟩ := dec_world _ _ _ _ _ _ _ _ _ hb2
      obtain ⟨q0, q1, q2, q3, q4⟩ := bl_get hq
      obtain ⟨z0, z1, z2, z3, z4⟩ := bl_get hz
      obtain ⟨y0, y1, y2, y3, y4⟩ := bl_free hz
      have HZ := hide hz
      have HBW := hide hbw
      clear hz hq hbw hb2
      go_wp2
      obtain ⟨⟨p0, p1, p2, p3, p4⟩, hB9⟩ := fin5 HZ.out HBW.out (Nat.le_refl _) (.int .i64 (o : Int)) (.int .i64 (a : Int)) (.int .i64 (b : Int)) (.int .i64 0) (.int .i64 (m : Int))
      unfold set5 at p0 p1 p2 p3 p4 hB9
      generalize ((((w2.setCell ⟨w.heap.size, 0, none⟩ (.int .i64 (o : Int))).setCell ⟨w.heap.size, 1, none⟩ (.int .i64 (a : Int))).setCell ⟨w.heap.size, 2, none⟩ (.int .i64 (b : Int))).setCell ⟨w.heap.size, 3, none⟩ (.int .i64 0)).setCell ⟨w.heap.size, 4, none⟩ (.int .i64 (m : Int)) = W9 at *
      (try simp only [Exit.inBlock, Exit.then])
      refine bodyPost_ret (v := .tuple #[.agg #[.int .i64 (o : Int), .int .i64 (a : Int), .int .i64 (b : Int), .int .i64 0, .int .i64 (m : Int)], .int .i64 0]) (by simp [results, Tryd.results51, go_sem, p0, p1, p2, p3, p4]) rfl ?_
      exact ⟨⟨0, by rw [HR.out]; rfl, by simp [HOK.out]⟩, hB9⟩
    · have hk2 : okI (cand n) = false := by simpa using hk
      have HOK := hide hk2
      have HR : Hid ((dec n).cells = #[.int .i64 0, .int .i64 0, .int .i64 0, .int .i64 0, .int .i64 0]) := by unfold Hid dec; rw [if_neg hk]; rfl
      have HV : Hid ((if okI (rc n 3) then encv (rc n 3) else 0) = 0) := by unfold Hid; rw [HRC.out (by decide), if_neg hk]
      obtain ⟨k, hkk⟩ : ∃ k, codeI (rc n 3) = k := ⟨_, rfl⟩
      have HK := hide hkk
      have d8 : ((k : Int) != 0) = true := by
        have : ¬ k = 0 := fun h => hk (by rw [← HRC.out (by decide)]; exact codeI_zero.1 (by rw [hkk, h]))
        rw [bne_iff_ne]
        omega
      clear hk hk2 hkk HCC
      go_wp2_with fail
      refine Calls.mono (HU2.out _) ?_
      rintro e w' ⟨rfl, rfl⟩
      go_wp2_with fail
      refine Calls.mono (rencode_at (rc n 3) _ HX.out.symm 0 k HV.out HK.out _) ?_
      rintro e w2 ⟨rfl, hb2⟩
      obtain ⟨hz, hq, hbw⟩ := dec_world _ _ _ _ _ _ _ _ _ hb2
      obtain ⟨q0, q1, q2, q3, q4⟩ := bl_get hq
      obtain ⟨z0, z1, z2, z3, z4⟩ := bl_get hz
      obtain ⟨y0, y1, y2, y3, y4⟩ := bl_free hz
      have HZ := hide hz
      have HBW := hide hbw
      clear hz hq hbw hb2
      go_wp2
      obtain ⟨⟨p0, p1, p2, p3, p4⟩, hB9⟩ := fin5 HZ.out HBW.out (Nat.le_refl _) (.int .i64 0) (.int .i64 0) (.int .i64 0) (.int .i64 0) (.int .i64 0)
      unfold set5 at p0 p1 p2 p3 p4 hB9
      generalize ((((w2.setCell ⟨w.heap.size, 0, none⟩ (.int .i64 0)).setCell ⟨w.heap.size, 1, none⟩ (.int .i64 0)).setCell ⟨w.heap.size, 2, none⟩ (.int .i64 0)).setCell ⟨w.heap.size, 3, none⟩ (.int .i64 0)).setCell ⟨w.heap.size, 4, none⟩ (.int .i64 0) = W9 at *
      (try simp only [Exit.inBlock, Exit.then])
      refine bodyPost_ret (v := .tuple #[.agg #[.int .i64 0, .int .i64 0, .int .i64 0, .int .i64 0, .int .i64 0], .int .i64 4]) (by simp [results, Tryd.results51, go_sem, p0, p1, p2, p3, p4]) rfl ?_
      exact ⟨⟨4, by rw [HR.out]; rfl, by simp [HOK.out]⟩, hB9⟩
  · skip
    have HU2 : Hid (∀ w, Calls Tryd.prog 71 #[.int .i64 ((4 : Nat) : Int), .int .u8 73] w fun e w' => e = .returned (.bool false) ∧ w = w') := fun w => uses_at (by decide) (by decide) rfl w
    have HX : Hid ((rc n 4).cells = #[.int .i64 (o : Int), .int .i64 (a : Int), .int .i64 (b : Int), .int .i64 0, .int .i64 (m : Int)]) := by unfold Hid; rw [HCC.out]; rfl
    clear HU
    by_cases hk : okI (cand n) = true
    · have HOK := hide hk
      have HR : Hid ((dec n).cells = #[.int .i64 (o : Int), .int .i64 (a : Int), .int .i64 (b : Int), .int .i64 0, .int .i64 (m : Int)]) := by unfold Hid dec; rw [if_pos hk, ← HRC.out (by decide)]; exact HX.out
      have HV : Hid ((if okI (rc n 4) then encv (rc n 4) else 0) = (n : Int)) := by unfold Hid; rw [HRC.out (by decide), if_pos hk, ← HRC.out (by decide)]; exact HRE.out (by decide)
      have HK : Hid (codeI (rc n 4) = 0) := by unfold Hid; rw [HRC.out (by decide)]; exact codeI_zero.2 hk
      clear hk HCC
      go_wp2_with fail
      refine Calls.mono (HU2.out _) ?_
      rintro e w' ⟨rfl, rfl⟩
      go_wp2_with fail
      refine Calls.mono (rencode_at (rc n 4) _ HX.out.symm (n : Int) 0 HV.out HK.out _) ?_
      rintro e w2 ⟨rfl, hb2⟩
      obtain ⟨hz, hq, hbw⟩ := dec_world _ _ _ _ _ _ _ _ _ hb2
      obtain ⟨q0, q1, q2, q3, q4⟩ := bl_get hq
      obtain ⟨z0, z1, z2, z3, z4⟩ := bl_get hz
      obtain ⟨y0, y1, y2, y3, y4⟩ := bl_free hz
      have HZ := hide hz
      have HBW := hide hbw
      clear hz hq hbw hb2
      go_wp2
      obtain ⟨⟨p0, p1, p2, p3, p4⟩, hB9⟩ := fin5 HZ.out HBW.out (Nat.le_refl _) (.int .i64 (o : Int)) (.int .i64 (a : Int)) (.int .i64 (b : Int)) (.int .i64 0) (.int .i64 (m : Int))
      unfold set5 at p0 p1 p2 p3 p4 hB9
      generalize ((((w2.setCell ⟨w.heap.size, 0, none⟩ (.int .i64 (o : Int))).setCell ⟨w.heap.size, 1, none⟩ (.int .i64 (a : Int))).setCell ⟨w.heap.size, 2, none⟩ (.int .i64 (b : Int))).setCell ⟨w.heap.size, 3, none⟩ (.int .i64 0)).setCell ⟨w.heap.size, 4, none⟩ (.int .i64 (m : Int)) = W9 at *
      (try simp only [Exit.inBlock, Exit.then])
      refine bodyPost_ret (v := .tuple #[.agg #[.int .i64 (o : Int), .int .i64 (a : Int), .int .i64 (b : Int), .int .i64 0, .int .i64 (m : Int)], .int .i64 0]) (by simp [results, Tryd.results51, go_sem, p0, p1, p2, p3, p4]) rfl ?_
      exact ⟨⟨0, by rw [HR.out]; rfl, by simp [HOK.out]⟩, hB9⟩
    · have hk2 : okI (cand n) = false := by simpa using hk
      have HOK := hide hk2
      have HR : Hid ((dec n).cells = #[.int .i64 0, .int .i64 0, .int .i64 0, .int .i64 0, .int .i64 0]) := by unfold Hid dec; rw [if_neg hk]; rfl
      have HV : Hid ((if okI (rc n 4) then encv (rc n 4) else 0) = 0) := by unfold Hid; rw [HRC.out (by decide), if_neg hk]
      obtain ⟨k, hkk⟩ : ∃ k, codeI (rc n 4) = k := ⟨_, rfl⟩
      have HK := hide hkk
      have d8 : ((k : Int) != 0) = true := by
        have : ¬ k = 0 := fun h => hk (by rw [← HRC.out (by decide)]; exact codeI_zero.1 (by rw [hkk, h]))
        rw [bne_iff_ne]
        omega
      clear hk hk2 hkk HCC
      go_wp2_with fail
      refine Calls.mono (HU2.out _) ?_
      rintro e w' ⟨rfl, rfl⟩
      go_wp2_with fail
      refine Calls.mono (rencode_at (rc n 4) _ HX.out.symm 0 k HV.out HK.out _) ?_
      rintro e w2 ⟨rfl, hb2⟩
      obtain ⟨hz, hq, hbw⟩ := dec_world _ _ _ _ _ _ _ _ _ hb2
      obtain ⟨q0, q1, q2, q3, q4⟩ := bl_get hq
      obtain ⟨z0, z1, z2, z3, z4⟩ := bl_get hz
      obtain ⟨y0, y1, y2, y3, y4⟩ := bl_free hz
      have HZ := hide hz
      have HBW := hide hbw
      clear hz hq hbw hb2
      go_wp2
      obtain ⟨⟨p0, p1, p2, p3, p4⟩, hB9⟩ := fin5 HZ.out HBW.out (Nat.le_refl _) (.int .i64 0) (.int .i64 0) (.int .i64 0) (.int .i64 0) (.int .i64 0)
      unfold set5 at p0 p1 p2 p3 p4 hB9
      generalize ((((w2.setCell ⟨w.heap.size, 0, none⟩ (.int .i64 0)).setCell ⟨w.heap.size, 1, none⟩ (.int .i64 0)).setCell ⟨w.heap.size, 2, none⟩ (.int .i64 0)).setCell ⟨w.heap.size, 3, none⟩ (.int .i64 0)).setCell ⟨w.heap.size, 4, none⟩ (.int .i64 0) = W9 at *
      (try simp only [Exit.inBlock, Exit.then])
      refine bodyPost_ret (v := .tuple #[.agg #[.int .i64 0, .int .i64 0, .int .i64 0, .int .i64 0, .int .i64 0], .int .i64 4]) (by simp [results, Tryd.results51, go_sem, p0, p1, p2, p3, p4]) rfl ?_
      exact ⟨⟨4, by rw [HR.out]; rfl, by simp [HOK.out]⟩, hB9⟩
  · by_cases hm : m < 32768
    · have d7 : decide ((32768 : Int) ≤ (m : Int)) = false := decide_eq_false (by omega)
      have HS : Hid (s16 m = (m : Int)) := by unfold Hid s16; rw [if_pos hm]
      clear hm
      have HU2 : Hid (∀ w, Calls Tryd.prog 71 #[.int .i64 ((5 : Nat) : Int), .int .u8 73] w fun e w' => e = .returned (.bool true) ∧ w = w') := fun w => uses_at (by decide) (by decide) rfl w
      have HX : Hid ((rc n 5).cells = #[.int .i64 (o : Int), .int .i64 (a : Int), .int .i64 (b : Int), .int .i64 0, .int .i64 (m : Int)]) := by unfold Hid; rw [HCC.out]; rw [HS.out]; rfl
      clear HU
      by_cases hk : okI (cand n) = true
      · have HOK := hide hk
        have HR : Hid ((dec n).cells = #[.int .i64 (o : Int), .int .i64 (a : Int), .int .i64 (b : Int), .int .i64 0, .int .i64 (m : Int)]) := by unfold Hid dec; rw [if_pos hk, ← HRC.out (by decide)]; exact HX.out
        have HV : Hid ((if okI (rc n 5) then encv (rc n 5) else 0) = (n : Int)) := by unfold Hid; rw [HRC.out (by decide), if_pos hk, ← HRC.out (by decide)]; exact HRE.out (by decide)
        have HK : Hid (codeI (rc n 5) = 0) := by unfold Hid; rw [HRC.out (by decide)]; exact codeI_zero.2 hk
        clear hk HCC
        go_wp2_with fail
        refine Calls.mono (HU2.out _) ?_
        rintro e w' ⟨rfl, rfl⟩
        go_wp2_with fail
        refine Calls.mono (rencode_at (rc n 5) _ HX.out.symm (n : Int) 0 HV.out HK.out _) ?_
        rintro e w2 ⟨rfl, hb2⟩
        obtain ⟨hz, hq, hbw⟩ := dec_world _ _ _ _ _ _ _ _ _ hb2
        obtain ⟨q0, q1, q2, q3, q4⟩ := bl_get hq
        obtain ⟨z0, z1, z2, z3, z4⟩ := bl_get hz
        obtain ⟨y0, y1, y2, y3, y4⟩ := bl_free hz
        have HZ := hide hz
        have HBW := hide hbw
        clear hz hq hbw hb2
        go_wp2
        obtain ⟨⟨p0, p1, p2, p3, p4⟩, hB9⟩ := fin5 HZ.out HBW.out (Nat.le_refl _) (.int .i64 (o : Int)) (.int .i64 (a : Int)) (.int .i64 (b : Int)) (.int .i64 0) (.int .i64 (m : Int))
        unfold set5 at p0 p1 p2 p3 p4 hB9
        generalize ((((w2.setCell ⟨w.heap.size, 0, none⟩ (.int .i64 (o : Int))).setCell ⟨w.heap.size, 1, none⟩ (.int .i64 (a : Int))).setCell ⟨w.heap.size, 2, none⟩ (.int .i64 (b : Int))).setCell ⟨w.heap.size, 3, none⟩ (.int .i64 0)).setCell ⟨w.heap.size, 4, none⟩ (.int .i64 (m : Int)) = W9 at *
        (try simp only [Exit.inBlock, Exit.then])
        refine bodyPost_ret (v := .tuple #[.agg #[.int .i64 (o : Int), .int .i64 (a : Int), .int .i64 (b : Int), .int .i64 0, .int .i64 (m : Int)], .int .i64 0]) (by simp [results, Tryd.results51, go_sem, p0, p1, p2, p3, p4]) rfl ?_
        exact ⟨⟨0, by rw [HR.out]; rfl, by simp [HOK.out]⟩, hB9⟩
      · have hk2 : okI (cand n) = false := by simpa using hk
        have HOK := hide hk2
        have HR : Hid ((dec n).cells = #[.int .i64 0, .int .i64 0, .int .i64 0, .int .i64 0, .int .i64 0]) := by unfold Hid dec; rw [if_neg hk]; rfl
        have HV : Hid ((if okI (rc n 5) then encv (rc n 5) else 0) = 0) := by unfold Hid; rw [HRC.out (by decide), if_neg hk]
        obtain ⟨k, hkk⟩ : ∃ k, codeI (rc n 5) = k := ⟨_, rfl⟩
        have HK := hide hkk
        have d8 : ((k : Int) != 0) = true := by
          have : ¬ k = 0 := fun h => hk (by rw [← HRC.out (by decide)]; exact codeI_zero.1 (by rw [hkk, h]))
          rw [bne_iff_ne]
          omega
        clear hk hk2 hkk HCC
        go_wp2_with fail
        refine Calls.mono (HU2.out _) ?_
        rintro e w' ⟨rfl, rfl⟩
        go_wp2_with fail
        refine Calls.mono (rencode_at (rc n 5) _ HX.out.symm 0 k HV.out HK.out _) ?_
        rintro e w2 ⟨rfl, hb2⟩
        obtain ⟨hz, hq, hbw⟩ := dec_world _ _ _ _ _ _ _ _ _ hb2
        obtain ⟨q0, q1, q2, q3, q4⟩ := bl_get hq
        obtain ⟨z0, z1, z2, z3, z4⟩ := bl_get hz
        obtain ⟨y0, y1, y2, y3, y4⟩ := bl_free hz
        have HZ := hide hz
        have HBW := hide hbw
        clear hz hq hbw hb2
        go_wp2
        obtain ⟨⟨p0, p1, p2, p3, p4⟩, hB9⟩ := fin5 HZ.out HBW.out (Nat.le_refl _) (.int .i64 0) (.int .i64 0) (.int .i64 0) (.int .i64 0) (.int .i64 0)
        unfold set5 at p0 p1 p2 p3 p4 hB9
        generalize ((((w2.setCell ⟨w.heap.size, 0, none⟩ (.int .i64 0)).setCell ⟨w.heap.size, 1, none⟩ (.int .i64 0)).setCell ⟨w.heap.size, 2, none⟩ (.int .i64 0)).setCell ⟨w.heap.size, 3, none⟩ (.int .i64 0)).setCell ⟨w.heap.size, 4, none⟩ (.int .i64 0) = W9 at *
        (try simp only [Exit.inBlock, Exit.then])
        refine bodyPost_ret (v := .tuple #[.agg #[.int .i64 0, .int .i64 0, .int .i64 0, .int .i64 0, .int .i64 0], .int .i64 4]) (by simp [results, Tryd.results51, go_sem, p0, p1, p2, p3, p4]) rfl ?_
        exact ⟨⟨4, by rw [HR.out]; rfl, by simp [HOK.out]⟩, hB9⟩
    · have d7 : decide ((32768 : Int) ≤ (m : Int)) = true := decide_eq_true (by omega)
      have HS : Hid (s16 m = (m : Int) - 65536) := by unfold Hid s16; rw [if_neg hm]
      clear hm
      have HU2 : Hid (∀ w, Calls Tryd.prog 71 #[.int .i64 ((5 : Nat) : Int), .int .u8 73] w fun e w' => e = .returned (.bool true) ∧ w = w') := fun w => uses_at (by decide) (by decide) rfl w
      have HX : Hid ((rc n 5).cells = #[.int .i64 (o : Int), .int .i64 (a : Int), .int .i64 (b : Int), .int .i64 0, .int .i64 ((m : Int) - 65536)]) := by unfold Hid; rw [HCC.out]; rw [HS.out]; rfl
      clear HU
      by_cases hk : okI (cand n) = true
      · have HOK := hide hk
        have HR : Hid ((dec n).cells = #[.int .i64 (o : Int), .int .i64 (a : Int), .int .i64 (b : Int), .int .i64 0, .int .i64 ((m : Int) - 65536)]) := by unfold Hid dec; rw [if_pos hk, ← HRC.out (by decide)]; exact HX.out
        have HV : Hid ((if okI (rc n 5) then encv (rc n 5) else 0) = (n : Int)) := by unfold Hid; rw [HRC.out (by decide), if_pos hk, ← HRC.out (by decide)]; exact HRE.out (by decide)
        have HK : Hid (codeI (rc n 5) = 0) := by unfold Hid; rw [HRC.out (by decide)]; exact codeI_zero.2 hk
        clear hk HCC
        go_wp2_with fail
        refine Calls.mono (HU2.out _) ?_
        rintro e w' ⟨rfl, rfl⟩
        go_wp2_with fail
        refine Calls.mono (rencode_at (rc n 5) _ HX.out.symm (n : Int) 0 HV.out HK.out _) ?_
        rintro e w2 ⟨rfl, hb2⟩
        obtain ⟨hz, hq, hbw⟩ := dec_world _ _ _ _ _ _ _ _ _ hb2
        obtain ⟨q0, q1, q2, q3, q4⟩ := bl_get hq
        obtain ⟨z0, z1, z2, z3, z4⟩ := bl_get hz
        obtain ⟨y0, y1, y2, y3, y4⟩ := bl_free hz
        have HZ := hide hz
        have HBW := hide hbw
        clear hz hq hbw hb2
        go_wp2
        obtain ⟨⟨p0, p1, p2, p3, p4⟩, hB9⟩ := fin5 HZ.out HBW.out (Nat.le_refl _) (.int .i64 (o : Int)) (.int .i64 (a : Int)) (.int .i64 (b : Int)) (.int .i64 0) (.int .i64 ((m : Int) - 65536))
        unfold set5 at p0 p1 p2 p3 p4 hB9
        generalize ((((w2.setCell ⟨w.heap.size, 0, none⟩ (.int .i64 (o : Int))).setCell ⟨w.heap.size, 1, none⟩ (.int .i64 (a : Int))).setCell ⟨w.heap.size, 2, none⟩ (.int .i64 (b : Int))).setCell ⟨w.heap.size, 3, none⟩ (.int .i64 0)).setCell ⟨w.heap.size, 4, none⟩ (.int .i64 ((m : Int) - 65536)) = W9 at *
        (try simp only [Exit.inBlock, Exit.then])
        refine bodyPost_ret (v := .tuple #[.agg #[.int .i64 (o : Int), .int .i64 (a : Int), .int .i64 (b : Int), .int .i64 0, .int .i64 ((m : Int) - 65536)], .int .i64 0]) (by simp [results, Tryd.results51, go_sem, p0, p1, p2, p3, p4]) rfl ?_
        exact ⟨⟨0, by rw [HR.out]; rfl, by simp [HOK.out]⟩, hB9⟩
      · have hk2 : okI (cand n) = false := by simpa using hk
        have HOK := hide hk2
        have HR : Hid ((dec n).cells = #[.int .i64 0, .int .i64 0, .int .i64 0, .int .i64 0, .int .i64 0]) := by unfold Hid dec; rw [if_neg hk]; rfl
        have HV : Hid ((if okI (rc n 5) then encv (rc n 5) else 0) = 0) := by unfold Hid; rw [HRC.out (by decide), if_neg hk]
        obtain ⟨k, hkk⟩ : ∃ k, codeI (rc n 5) = k := ⟨_, rfl⟩
        have HK := hide hkk
        have d8 : ((k : Int) != 0) = true := by
          have : ¬ k = 0 := fun h => hk (by rw [← HRC.out (by decide)]; exact codeI_zero.1 (by rw [hkk, h]))
          rw [bne_iff_ne]
          omega
        clear hk hk2 hkk HCC
        go_wp2_with fail
        refine Calls.mono (HU2.out _) ?_
        rintro e w' ⟨rfl, rfl⟩
        go_wp2_with fail
        refine Calls.mono (rencode_at (rc n 5) _ HX.out.symm 0 k HV.out HK.out _) ?_
        rintro e w2 ⟨rfl, hb2⟩
        obtain ⟨hz, hq, hbw⟩ := dec_world _ _ _ _ _ _ _ _ _ hb2
        obtain ⟨q0, q1, q2, q3, q4⟩ := bl_get hq
        obtain ⟨z0, z1, z2, z3, z4⟩ := bl_get hz
        obtain ⟨y0, y1, y2, y3, y4⟩ := bl_free hz
        have HZ := hide hz
        have HBW := hide hbw
        clear hz hq hbw hb2
        go_wp2
        obtain ⟨⟨p0, p1, p2, p3, p4⟩, hB9⟩ := fin5 HZ.out HBW.out (Nat.le_refl _) (.int .i64 0) (.int .i64 0) (.int .i64 0) (.int .i64 0) (.int .i64 0)
        unfold set5 at p0 p1 p2 p3 p4 hB9
        generalize ((((w2.setCell ⟨w.heap.size, 0, none⟩ (.int .i64 0)).setCell ⟨w.heap.size, 1, none⟩ (.int .i64 0)).setCell ⟨w.heap.size, 2, none⟩ (.int .i64 0)).setCell ⟨w.heap.size, 3, none⟩ (.int .i64 0)).setCell ⟨w.heap.size, 4, none⟩ (.int .i64 0) = W9 at *
        (try simp only [Exit.inBlock, Exit.then])
        refine bodyPost_ret (v := .tuple #[.agg #[.int .i64 0, .int .i64 0, .int .i64 0, .int .i64 0, .int .i64 0], .int .i64 4]) (by simp [results, Tryd.results51, go_sem, p0, p1, p2, p3, p4]) rfl ?_
        exact ⟨⟨4, by rw [HR.out]; rfl, by simp [HOK.out]⟩, hB9⟩
  · by_cases hm : m < 32768
    · have d7 : decide ((32768 : Int) ≤ (m : Int)) = false := decide_eq_false (by omega)
      have HS : Hid (s16 m = (m : Int)) := by unfold Hid s16; rw [if_pos hm]
      clear hm
      have HU2 : Hid (∀ w, Calls Tryd.prog 71 #[.int .i64 ((6 : Nat) : Int), .int .u8 73] w fun e w' => e = .returned (.bool true) ∧ w = w') := fun w => uses_at (by decide) (by decide) rfl w
      have HX : Hid ((rc n 6).cells = #[.int .i64 (o : Int), .int .i64 (a : Int), .int .i64 (b : Int), .int .i64 0, .int .i64 (m : Int)]) := by unfold Hid; rw [HCC.out]; rw [HS.out]; rfl
      clear HU
      by_cases hk : okI (cand n) = true
      · have HOK := hide hk
        have HR : Hid ((dec n).cells = #[.int .i64 (o : Int), .int .i64 (a : Int), .int .i64 (b : Int), .int .i64 0, .int .i64 (m : Int)]) := by unfold Hid dec; rw [if_pos hk, ← HRC.out (by decide)]; exact HX.out
        have HV : Hid ((if okI (rc n 6) then encv (rc n 6) else 0) = (n : Int)) := by unfold Hid; rw [HRC.out (by decide), if_pos hk, ← HRC.out (by decide)]; exact HRE.out (by decide)
        have HK : Hid (codeI (rc n 6) = 0) := by unfold Hid; rw [HRC.out (by decide)]; exact codeI_zero.2 hk
        clear hk HCC
        go_wp2_with fail
        refine Calls.mono (HU2.out _) ?_
        rintro e w' ⟨rfl, rfl⟩
        go_wp2_with fail
        refine Calls.mono (rencode_at (rc n 6) _ HX.out.symm (n : Int) 0 HV.out HK.out _) ?_
        rintro e w2 ⟨rfl, hb2⟩
        obtain ⟨hz, hq, hbw⟩ := dec_world _ _ _ _ _ _ _ _ _ hb2
        obtain ⟨q0, q1, q2, q3, q4⟩ := bl_get hq
        obtain ⟨z0, z1, z2, z3, z4⟩ := bl_get hz
        obtain ⟨y0, y1, y2, y3, y4⟩ := bl_free hz
        have HZ := hide hz
        have HBW := hide hbw
        clear hz hq hbw hb2
        go_wp2
        obtain ⟨⟨p0, p1, p2, p3, p4⟩, hB9⟩ := fin5 HZ.out HBW.out (Nat.le_refl _) (.int .i64 (o : Int)) (.int .i64 (a : Int)) (.int .i64 (b : Int)) (.int .i64 0) (.int .i64 (m : Int))
        unfold set5 at p0 p1 p2 p3 p4 hB9
        generalize ((((w2.setCell ⟨w.heap.size, 0, none⟩ (.int .i64 (o : Int))).setCell ⟨w.heap.size, 1, none⟩ (.int .i64 (a : Int))).setCell ⟨w.heap.size, 2, none⟩ (.int .i64 (b : Int))).setCell ⟨w.heap.size, 3, none⟩ (.int .i64 0)).setCell ⟨w.heap.size, 4, none⟩ (.int .i64 (m : Int)) = W9 at *
        (try simp only [Exit.inBlock, Exit.then])
        refine bodyPost_ret (v := .tuple #[.agg #[.int .i64 (o : Int), .int .i64 (a : Int), .int .i64 (b : Int), .int .i64 0, .int .i64 (m : Int)], .int .i64 0]) (by simp [results, Tryd.results51, go_sem, p0, p1, p2, p3, p4]) rfl ?_
        exact ⟨⟨0, by rw [HR.out]; rfl, by simp [HOK.out]⟩, hB9⟩
      · have hk2 : okI (cand n) = false := by simpa using hk
        have HOK := hide hk2
        have HR : Hid ((dec n).cells = #[.int .i64 0, .int .i64 0, .int .i64 0, .int .i64 0, .int .i64 0]) := by unfold Hid dec; rw [if_neg hk]; rfl
        have HV : Hid ((if okI (rc n 6) then encv (rc n 6) else 0) = 0) := by unfold Hid; rw [HRC.out (by decide), if_neg hk]
        obtain ⟨k, hkk⟩ : ∃ k, codeI (rc n 6) = k := ⟨_, rfl⟩
        have HK := hide hkk
        have d8 : ((k : Int) != 0) = true := by
          have : ¬ k = 0 := fun h => hk (by rw [← HRC.out (by decide)]; exact codeI_zero.1 (by rw [hkk, h]))
          rw [bne_iff_ne]
          omega
        clear hk hk2 hkk HCC
        go_wp2_with fail
        refine Calls.mono (HU2.out _) ?_
        rintro e w' ⟨rfl, rfl⟩
        go_wp2_with fail
        refine Calls.mono (rencode_at (rc n 6) _ HX.out.symm 0 k HV.out HK.out _) ?_
        rintro e w2 ⟨rfl, hb2⟩
        obtain ⟨hz, hq, hbw⟩ := dec_world _ _ _ _ _ _ _ _ _ hb2
        obtain ⟨q0, q1, q2, q3, q4⟩ := bl_get hq
        obtain ⟨z0, z1, z2, z3, z4⟩ := bl_get hz
        obtain ⟨y0, y1, y2, y3, y4⟩ := bl_free hz
        have HZ := hide hz
        have HBW := hide hbw
        clear hz hq hbw hb2
        go_wp2
        obtain ⟨⟨p0, p1, p2, p3, p4⟩, hB9⟩ := fin5 HZ.out HBW.out (Nat.le_refl _) (.int .i64 0) (.int .i64 0) (.int .i64 0) (.int .i64 0) (.int .i64 0)
        unfold set5 at p0 p1 p2 p3 p4 hB9
        generalize ((((w2.setCell ⟨w.heap.size, 0, none⟩ (.int .i64 0)).setCell ⟨w.heap.size, 1, none⟩ (.int .i64 0)).setCell ⟨w.heap.size, 2, none⟩ (.int .i64 0)).setCell ⟨w.heap.size, 3, none⟩ (.int .i64 0)).setCell ⟨w.heap.size, 4, none⟩ (.int .i64 0) = W9 at *
        (try simp only [Exit.inBlock, Exit.then])
        refine bodyPost_ret (v := .tuple #[.agg #[.int .i64 0, .int .i64 0, .int .i64 0, .int .i64 0, .int .i64 0], .int .i64 4]) (by simp [results, Tryd.results51, go_sem, p0, p1, p2, p3, p4]) rfl ?_
        exact ⟨⟨4, by rw [HR.out]; rfl, by simp [HOK.out]⟩, hB9⟩
    · have d7 : decide ((32768 : Int) ≤ (m : Int)) = true := decide_eq_true (by omega)
      have HS : Hid (s16 m = (m : Int) - 65536) := by unfold Hid s16; rw [if_neg hm]
      clear hm
      have HU2 : Hid (∀ w, Calls Tryd.prog 71 #[.int .i64 ((6 : Nat) : Int), .int .u8 73] w fun e w' => e = .returned (.bool true) ∧ w = w') := fun w => uses_at (by decide) (by decide) rfl w
      have HX : Hid ((rc n 6).cells = #[.int .i64 (o : Int), .int .i64 (a : Int), .int .i64 (b : Int), .int .i64 0, .int .i64 ((m : Int) - 65536)]) := by unfold Hid; rw [HCC.out]; rw [HS.out]; rfl
      clear HU
      by_cases hk : okI (cand n) = true
      · have HOK := hide hk
        have HR : Hid ((dec n).cells = #[.int .i64 (o : Int), .int .i64 (a : Int), .int .i64 (b : Int), .int .i64 0, .int .i64 ((m : Int) - 65536)]) := by unfold Hid dec; rw [if_pos hk, ← HRC.out (by decide)]; exact HX.out
        have HV : Hid ((if okI (rc n 6) then encv (rc n 6) else 0) = (n : Int)) := by unfold Hid; rw [HRC.out (by decide), if_pos hk, ← HRC.out (by decide)]; exact HRE.out (by decide)
        have HK : Hid (codeI (rc n 6) = 0) := by unfold Hid; rw [HRC.out (by decide)]; exact codeI_zero.2 hk
        clear hk HCC
        go_wp2_with fail
        refine Calls.mono (HU2.out _) ?_
        rintro e w' ⟨rfl, rfl⟩
        go_wp2_with fail
        refine Calls.mono (rencode_at (rc n 6) _ HX.out.symm (n : Int) 0 HV.out HK.out _) ?_
        rintro e w2 ⟨rfl, hb2⟩
        obtain ⟨hz, hq, hbw⟩ := dec_world _ _ _ _ _ _ _ _ _ hb2
        obtain ⟨q0, q1, q2, q3, q4⟩ := bl_get hq
        obtain ⟨z0, z1, z2, z3, z4⟩ := bl_get hz
        obtain ⟨y0, y1, y2, y3, y4⟩ := bl_free hz
        have HZ := hide hz
        have HBW := hide hbw
        clear hz hq hbw hb2
        go_wp2
        obtain ⟨⟨p0, p1, p2, p3, p4⟩, hB9⟩ := fin5 HZ.out HBW.out (Nat.le_refl _) (.int .i64 (o : Int)) (.int .i64 (a : Int)) (.int .i64 (b : Int)) (.int .i64 0) (.int .i64 ((m : Int) - 65536))
        unfold set5 at p0 p1 p2 p3 p4 hB9
        generalize ((((w2.setCell ⟨w.heap.size, 0, none⟩ (.int .i64 (o : Int))).setCell ⟨w.heap.size, 1, none⟩ (.int .i64 (a : Int))).setCell ⟨w.heap.size, 2, none⟩ (.int .i64 (b : Int))).setCell ⟨w.heap.size, 3, none⟩ (.int .i64 0)).setCell ⟨w.heap.size, 4, none⟩ (.int .i64 ((m : Int) - 65536)) = W9 at *
        (try simp only [Exit.inBlock, Exit.then])
        refine bodyPost_ret (v := .tuple #[.agg #[.int .i64 (o : Int), .int .i64 (a : Int), .int .i64 (b : Int), .int .i64 0, .int .i64 ((m : Int) - 65536)], .int .i64 0]) (by simp [results, Tryd.results51, go_sem, p0, p1, p2, p3, p4]) rfl ?_
        exact ⟨⟨0, by rw [HR.out]; rfl, by simp [HOK.out]⟩, hB9⟩
      · have hk2 : okI (cand n) = false := by simpa using hk
        have HOK := hide hk2
        have HR : Hid ((dec n).cells = #[.int .i64 0, .int .i64 0, .int .i64 0, .int .i64 0, .int .i64 0]) := by unfold Hid dec; rw [if_neg hk]; rfl
        have HV : Hid ((if okI (rc n 6) then encv (rc n 6) else 0) = 0) := by unfold Hid; rw [HRC.out (by decide), if_neg hk]
        obtain ⟨k, hkk⟩ : ∃ k, codeI (rc n 6) = k := ⟨_, rfl⟩
        have HK := hide hkk
        have d8 : ((k : Int) != 0) = true := by
          have : ¬ k = 0 := fun h => hk (by rw [← HRC.out (by decide)]; exact codeI_zero.1 (by rw [hkk, h]))
          rw [bne_iff_ne]
          omega
        clear hk hk2 hkk HCC
        go_wp2_with fail
        refine Calls.mono (HU2.out _) ?_
        rintro e w' ⟨rfl, rfl⟩
        go_wp2_with fail
        refine Calls.mono (rencode_at (rc n 6) _ HX.out.symm 0 k HV.out HK.out _) ?_
        rintro e w2 ⟨rfl, hb2⟩
        obtain ⟨hz, hq, hbw⟩ := dec_world _ _ _ _ _ _ _ _ _ hb2
        obtain ⟨q0, q1, q2, q3, q4⟩ := bl_get hq
        obtain ⟨z0, z1, z2, z3, z4⟩ := bl_get hz
        obtain ⟨y0, y1, y2, y3, y4⟩ := bl_free hz
        have HZ := hide hz
        have HBW := hide hbw
        clear hz hq hbw hb2
        go_wp2
        obtain ⟨⟨p0, p1, p2, p3, p4⟩, hB9⟩ := fin5 HZ.out HBW.out (Nat.le_refl _) (.int .i64 0) (.int .i64 0) (.int .i64 0) (.int .i64 0) (.int .i64 0)
        unfold set5 at p0 p1 p2 p3 p4 hB9
        generalize ((((w2.setCell ⟨w.heap.size, 0, none⟩ (.int .i64 0)).setCell ⟨w.heap.size, 1, none⟩ (.int .i64 0)).setCell ⟨w.heap.size, 2, none⟩ (.int .i64 0)).setCell ⟨w.heap.size, 3, none⟩ (.int .i64 0)).setCell ⟨w.heap.size, 4, none⟩ (.int .i64 0) = W9 at *
        (try simp only [Exit.inBlock, Exit.then])
        refine bodyPost_ret (v := .tuple #[.agg #[.int .i64 0, .int .i64 0, .int .i64 0, .int .i64 0, .int .i64 0], .int .i64 4]) (by simp [results, Tryd.results51, go_sem, p0, p1, p2, p3, p4]) rfl ?_
        exact ⟨⟨4, by rw [HR.out]; rfl, by simp [HOK.out]⟩, hB9⟩
  · skip
    have HU2 : Hid (∀ w, Calls Tryd.prog 71 #[.int .i64 ((7 : Nat) : Int), .int .u8 73] w fun e w' => e = .returned (.bool false) ∧ w = w') := fun w => uses_at (by decide) (by decide) rfl w
    have HX : Hid ((rc n 7).cells = #[.int .i64 (o : Int), .int .i64 (a : Int), .int .i64 (b : Int), .int .i64 0, .int .i64 (m : Int)]) := by unfold Hid; rw [HCC.out]; rfl
    clear HU
    by_cases hk : okI (cand n) = true
    · have HOK := hide hk
      have HR : Hid ((dec n).cells = #[.int .i64 (o : Int), .int .i64 (a : Int), .int .i64 (b : Int), .int .i64 0, .int .i64 (m : Int)]) := by unfold Hid dec; rw [if_pos hk, ← HRC.out (by decide)]; exact HX.out
      have HV : Hid ((if okI (rc n 7) then encv (rc n 7) else 0) = (n : Int)) := by unfold Hid; rw [HRC.out (by decide), if_pos hk, ← HRC.out (by decide)]; exact HRE.out (by decide)
      have HK : Hid (codeI (rc n 7) = 0) := by unfold Hid; rw [HRC.out (by decide)]; exact codeI_zero.2 hk
      clear hk HCC
      go_wp2_with fail
      refine Calls.mono (HU2.out _) ?_
      rintro e w' ⟨rfl, rfl⟩
      go_wp2_with fail
      refine Calls.mono (rencode_at (rc n 7) _ HX.out.symm (n : Int) 0 HV.out HK.out _) ?_
      rintro e w2 ⟨rfl, hb2⟩
      obtain ⟨hz, hq, hbw⟩ := dec_world _ _ _ _ _ _ _ _ _ hb2
      obtain ⟨q0, q1, q2, q3, q4⟩ := bl_get hq
      obtain ⟨z0, z1, z2, z3, z4⟩ := bl_get hz
      obtain ⟨y0, y1, y2, y3, y4⟩ := bl_free hz
      have HZ := hide hz
      have HBW := hide hbw
      clear hz hq hbw hb2
      go_wp2
      obtain ⟨⟨p0, p1, p2, p3, p4⟩, hB9⟩ := fin5 HZ.out HBW.out (Nat.le_refl _) (.int .i64 (o : Int)) (.int .i64 (a : Int)) (.int .i64 (b : Int)) (.int .i64 0) (.int .i64 (m : Int))
      unfold set5 at p0 p1 p2 p3 p4 hB9
      generalize ((((w2.setCell ⟨w.heap.size, 0, none⟩ (.int .i64 (o : Int))).setCell ⟨w.heap.size, 1, none⟩ (.int .i64 (a : Int))).setCell ⟨w.heap.size, 2, none⟩ (.int .i64 (b : Int))).setCell ⟨w.heap.size, 3, none⟩ (.int .i64 0)).setCell ⟨w.heap.size, 4, none⟩ (.int .i64 (m : Int)) = W9 at *
      (try simp only [Exit.inBlock, Exit.then])
      refine bodyPost_ret (v := .tuple #[.agg #[.int .i64 (o : Int), .int .i64 (a : Int), .int .i64 (b : Int), .int .i64 0, .int .i64 (m : Int)], .int .i64 0]) (by simp [results, Tryd.results51, go_sem, p0, p1, p2, p3, p4]) rfl ?_
      exact ⟨⟨0, by rw [HR.out]; rfl, by simp [HOK.out]⟩, hB9⟩
    · have hk2 : okI (cand n) = false := by simpa using hk
      have HOK := hide hk2
      have HR : Hid ((dec n).cells = #[.int .i64 0, .int .i64 0, .int .i64 0, .int .i64 0, .int .i64 0]) := by unfold Hid dec; rw [if_neg hk]; rfl
      have HV : Hid ((if okI (rc n 7) then encv (rc n 7) else 0) = 0) := by unfold Hid; rw [HRC.out (by decide), if_neg hk]
      obtain ⟨k, hkk⟩ : ∃ k, codeI (rc n 7) = k := ⟨_, rfl⟩
      have HK := hide hkk
      have d8 : ((k : Int) != 0) = true := by
        have : ¬ k = 0 := fun h => hk (by rw [← HRC.out (by decide)]; exact codeI_zero.1 (by rw [hkk, h]))
        rw [bne_iff_ne]
        omega
      clear hk hk2 hkk HCC
      go_wp2_with fail
      refine Calls.mono (HU2.out _) ?_
      rintro e w' ⟨rfl, rfl⟩
      go_wp2_with fail
      refine Calls.mono (rencode_at (rc n 7) _ HX.out.symm 0 k HV.out HK.out _) ?_
      rintro e w2 ⟨rfl, hb2⟩
      obtain ⟨hz, hq, hbw⟩ := dec_world _ _ _ _ _ _ _ _ _ hb2
      obtain ⟨q0, q1, q2, q3, q4⟩ := bl_get hq
      obtain ⟨z0, z1, z2, z3, z4⟩ := bl_get hz
      obtain ⟨y0, y1, y2, y3, y4⟩ := bl_free hz
      have HZ := hide hz
      have HBW := hide hbw
      clear hz hq hbw hb2
      go_wp2
      obtain ⟨⟨p0, p1, p2, p3, p4⟩, hB9⟩ := fin5 HZ.out HBW.out (Nat.le_refl _) (.int .i64 0) (.int .i64 0) (.int .i64 0) (.int .i64 0) (.int .i64 0)
      unfold set5 at p0 p1 p2 p3 p4 hB9
      generalize ((((w2.setCell ⟨w.heap.size, 0, none⟩ (.int .i64 0)).setCell ⟨w.heap.size, 1, none⟩ (.int .i64 0)).setCell ⟨w.heap.size, 2, none⟩ (.int .i64 0)).setCell ⟨w.heap.size, 3, none⟩ (.int .i64 0)).setCell ⟨w.heap.size, 4, none⟩ (.int .i64 0) = W9 at *
      (try simp only [Exit.inBlock, Exit.then])
      refine bodyPost_ret (v := .tuple #[.agg #[.int .i64 0, .int .i64 0, .int .i64 0, .int .i64 0, .int .i64 0], .int .i64 4]) (by simp [results, Tryd.results51, go_sem, p0, p1, p2, p3, p4]) rfl ?_
      exact ⟨⟨4, by rw [HR.out]; rfl, by simp [HOK.out]⟩, hB9⟩
end Go.Proofs.YtegkodgondlcmaaDoor
