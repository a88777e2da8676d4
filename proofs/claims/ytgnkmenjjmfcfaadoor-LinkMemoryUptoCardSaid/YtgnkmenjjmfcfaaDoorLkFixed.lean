/-
  ferrylaw21's fixed answers.
-/
import Derived.Test.YtgnkmenjjmfcfaaDoorLkFlush
import Derived.Test.YtgnkmenjjmfcfaaDoorLkTrim
namespace Go.Proofs.YtgnkmenjjmfcfaaDoor
open Go.RowKit FerryCrc Q
set_option linter.unusedVariables false
set_option linter.unusedSimpArgs false

theorem isErr_erv {w : World} {E : Nat → Addr} {k : Nat} (h : k ≤ 20) : IsErr w E (erv E k) k (-1) := by
  unfold erv
  by_cases e : k = 0
  · rw [if_pos e]
    exact .inl ⟨rfl, e, rfl⟩
  · rw [if_neg e]
    exact .inr (.inl ⟨by omega, h, rfl, rfl⟩)
def abcd : ByteArray := ⟨#[97, 98, 99, 100]⟩
def fxA : Lk := sL ⟨0, fun _ => none⟩ 0 1 abcd
def fxB : Lk := cL fxA 1
def fxC : Lk := rL fxB 1 2
def fxD : Lk := pL fxC 2 8 1
def fxE : Lk := pL fxD 2 8 1
def fxF : Lk := tL fxE 1
def fxG : Lk := tL fxF 1
theorem fx1 : sN ⟨0, fun _ => none⟩ 0 1 abcd = 1 := by decide +kernel
theorem fx1e : sE 0 1 abcd = 0 := by decide +kernel
theorem fx2 : cN fxA 1 = 2 := by decide +kernel
theorem fx2e : fE fxA 1 = 0 := by decide +kernel
theorem fx3e : rE fxB 1 2 = 0 := by decide +kernel
theorem fx4e : pE fxC 2 8 1 = 0 := by decide +kernel
theorem fx5e : pE fxD 2 8 1 = 12 := by decide +kernel
theorem fx6e : fE fxE 2 = 0 := by decide +kernel
theorem fx6 : fv fxE 2 = ⟨0, 1, ⟨#[97, 99, 99, 100]⟩, true⟩ := by rfl
theorem fx7e : fE fxE 1 = 0 := by decide +kernel
theorem fx7 : fv fxE 1 = ⟨0, 1, ⟨#[97, 98]⟩, true⟩ := by rfl
theorem fx8e : fE fxF 1 = 17 := by decide +kernel
theorem fx9 : fxG.n = 2 := by decide +kernel
theorem fx10 : (wtL fxG 1).length = 1 := by decide +kernel
theorem fx_send {lb mb : Nat} {E : Nat → Addr} {w : World} (h : LAt w lb mb ⟨0, fun _ => none⟩) (h12 : w.cell? ⟨0, 0, none⟩ = some (sent (E 12))) (h11 : w.cell? ⟨1, 0, none⟩ = some (sent (E 11))) : Calls Tryd.prog 10 #[.pointer (some ⟨lb, 0, none⟩), .agg #[.int .i64 0, .int .i64 1, .string ⟨#[97, 98, 99, 100]⟩]] w fun e w' => e = .returned (.tuple #[.int .i64 1, .nilIface]) ∧ LAt w' lb mb fxA ∧ Frm (TwoB lb mb) w w' := by
  have h1 := send_any (E := E) 0 1 abcd (by decide) (by decide) h h12 h11
  rw [fx1, fx1e] at h1
  exact h1
theorem fx_copy {lb mb : Nat} {E : Nat → Addr} {w : World} (h : LAt w lb mb fxA) (he : w.cell? ⟨12, 0, none⟩ = some (sent (E 17))) : Calls Tryd.prog 11 #[.pointer (some ⟨lb, 0, none⟩), .int .i64 1] w fun e w' => e = .returned (.tuple #[.int .i64 2, .nilIface]) ∧ LAt w' lb mb fxB ∧ Frm (TwoB lb mb) w w' := by
  have h1 := copy_any (E := E) 1 (by decide) (by decide) (by decide +kernel) h he
  rw [fx2, fx2e] at h1
  exact h1
theorem fx_trim {lb mb : Nat} {E : Nat → Addr} {w : World} (h : LAt w lb mb fxB) (he : w.cell? ⟨12, 0, none⟩ = some (sent (E 17))) (h12 : w.cell? ⟨0, 0, none⟩ = some (sent (E 12))) : Calls Tryd.prog 12 #[.pointer (some ⟨lb, 0, none⟩), .int .i64 1, .int .i64 2] w fun e w' => e = .returned (.nilIface) ∧ LAt w' lb mb fxC ∧ Frm (TwoB lb mb) w w' := by
  have h1 := trim_any (E := E) 1 (by decide) (by decide) 2 (by decide +kernel) h he h12
  rw [fx3e] at h1
  exact h1
theorem fx_flip {lb mb : Nat} {E : Nat → Addr} {w : World} (h : LAt w lb mb fxC) (he : w.cell? ⟨12, 0, none⟩ = some (sent (E 17))) (h12 : w.cell? ⟨0, 0, none⟩ = some (sent (E 12))) : Calls Tryd.prog 13 #[.pointer (some ⟨lb, 0, none⟩), .int .i64 2, .int .i64 8, .int .u32 1] w fun e w' => e = .returned (.nilIface) ∧ LAt w' lb mb fxD ∧ Frm (TwoB lb mb) w w' := by
  have h1 := flip_any (E := E) 2 (by decide) (by decide) 8 1 (by decide) (by decide +kernel) h he h12
  rw [fx4e] at h1
  exact h1
theorem fx_flip2 {lb mb : Nat} {E : Nat → Addr} {w : World} (h : LAt w lb mb fxD) (he : w.cell? ⟨12, 0, none⟩ = some (sent (E 17))) (h12 : w.cell? ⟨0, 0, none⟩ = some (sent (E 12))) : Calls Tryd.prog 13 #[.pointer (some ⟨lb, 0, none⟩), .int .i64 2, .int .i64 8, .int .u32 1] w fun e w' => e = .returned (sent (E 12)) ∧ LAt w' lb mb fxE ∧ Frm (TwoB lb mb) w w' := by
  have h1 := flip_any (E := E) 2 (by decide) (by decide) 8 1 (by decide) (by decide +kernel) h he h12
  rw [fx5e] at h1
  exact h1
theorem fx_look {lb mb : Nat} {E : Nat → Addr} {w : World} (h : LAt w lb mb fxE) (he : w.cell? ⟨12, 0, none⟩ = some (sent (E 17))) : Calls Tryd.prog 17 #[.pointer (some ⟨lb, 0, none⟩), .int .i64 2] w fun e w' => e = .returned (.tuple #[.agg #[.int .i64 0, .int .i64 1, .string ⟨#[97, 99, 99, 100]⟩], .bool true, .nilIface]) ∧ Below w.heap.size w w' := by
  have h1 := look_any (E := E) 2 (by decide) (by decide) h he
  rw [fx6e, fx6] at h1
  exact h1
theorem fx_take {lb mb : Nat} {E : Nat → Addr} {w : World} (h : LAt w lb mb fxE) (he : w.cell? ⟨12, 0, none⟩ = some (sent (E 17))) : Calls Tryd.prog 14 #[.pointer (some ⟨lb, 0, none⟩), .int .i64 1] w fun e w' => e = .returned (.tuple #[.agg #[.int .i64 0, .int .i64 1, .string ⟨#[97, 98]⟩], .nilIface]) ∧ LAt w' lb mb fxF ∧ Frm (TwoB lb mb) w w' := by
  have h1 := take_any (E := E) 1 (by decide) (by decide) h he
  rw [fx7e, fx7] at h1
  exact h1
theorem fx_take2 {lb mb : Nat} {E : Nat → Addr} {w : World} (h : LAt w lb mb fxF) (he : w.cell? ⟨12, 0, none⟩ = some (sent (E 17))) : Calls Tryd.prog 14 #[.pointer (some ⟨lb, 0, none⟩), .int .i64 1] w fun e w' => e = .returned (.tuple #[(fv fxF 1).a, sent (E 17)]) ∧ LAt w' lb mb fxG ∧ Frm (TwoB lb mb) w w' := by
  have h1 := take_any (E := E) 1 (by decide) (by decide) h he
  rw [fx8e] at h1
  exact h1
theorem fx_made {lb mb : Nat} {E : Nat → Addr} {w : World} (h : LAt w lb mb fxG) : Calls Tryd.prog 16 #[.pointer (some ⟨lb, 0, none⟩)] w fun e w' => e = .returned (.int .i64 2) ∧ Below w.heap.size w w' := by
  have h1 := made_any h
  rw [fx9] at h1
  refine Calls.mono h1 ?_
  rintro e w1 ⟨rfl, rfl⟩
  exact ⟨rfl, Below.refl _ _⟩
theorem fx_flush {lb mb : Nat} {E : Nat → Addr} {w : World} (h : LAt w lb mb fxG) : Calls Tryd.prog 19 #[.pointer (some ⟨lb, 0, none⟩), .int .i64 1] w fun e w' => e = .returned (.int .i64 1) ∧ LAt w' lb mb (fuL fxG 1) ∧ Frm (TwoB lb mb) w w' := by
  have h1 := flush_any 1 (by decide +kernel) h
  rw [fx10] at h1
  exact h1
theorem frm_base {lb mb B : Nat} {w0 w w' : World} (hB : Below B w0 w) (h : Frm (TwoB lb mb) w w') (h0 : B ≤ w0.heap.size) (h1 : B ≤ lb) (h2 : B ≤ mb) : Below B w0 w' :=
  hB.trans (h.below (Nat.le_trans h0 hB.size) (fun k hk => by rcases hk with rfl | rfl <;> assumption))
theorem Bk.frm2 {lb mb : Nat} {w w' : World} {b : Nat} {cs : List Value} {ty : TypeId} (h : Bk w b cs ty) (hf : Frm (TwoB lb mb) w w') (h1 : b ≠ lb) (h2 : b ≠ mb) : Bk w' b cs ty := by
  have h0 := h.lt
  unfold Bk at *
  rw [hf.block b h0 (fun e => by rcases e with e | e <;> contradiction)]
  exact h
set_option maxRecDepth 100000 in
set_option maxHeartbeats 4000000 in
theorem fixed_any (w : World) {E : Nat → Addr} (he : Errs w E) : Calls Tryd.prog 7 #[] w fun e w' => e = .returned (.bool true) ∧ Below w.heap.size w w' := by
  have HE := hide he
  have HV12 := hide (fun (w' : World) (b : Below w.heap.size w w') => cell_below he.v12 b)
  have HV11 := hide (fun (w' : World) (b : Below w.heap.size w w') => cell_below he.v11 b)
  have HV17 := hide (fun (w' : World) (b : Below w.heap.size w w') => cell_below he.v17 b)
  clear he
  go_enter Tryd.func7, Tryd.ntmps7
  go_wp2_with fail
  refine Calls.mono (new_any w) ?_
  rintro e w1 ⟨lb, mb, rfl, l1, p1, p2, b1⟩
  have HL := hide l1
  have HB := hide b1
  have HP : Hid (w.heap.size ≤ lb ∧ w.heap.size ≤ mb) := ⟨p1, p2⟩
  clear l1 b1 p1 p2
  go_upto_region 4 with fail
  go_wp2_with fail
  refine Calls.mono (fx_send HL.out (HV12.out _ HB.out) (HV11.out _ HB.out)) ?_
  rintro e w2 ⟨rfl, l, fr⟩
  replace HL := hide l
  replace HB := hide (frm_base HB.out fr (Nat.le_refl _) HP.out.1 HP.out.2)
  clear l fr
  go_upto_region 7 with fail
  go_wp2_with fail
  refine Calls.mono (fx_copy HL.out (HV17.out _ HB.out)) ?_
  rintro e w3 ⟨rfl, l, fr⟩
  replace HL := hide l
  replace HB := hide (frm_base HB.out fr (Nat.le_refl _) HP.out.1 HP.out.2)
  clear l fr
  go_upto_region 8 with fail
  go_wp2_with fail
  refine Calls.mono (fx_trim HL.out (HV17.out _ HB.out) (HV12.out _ HB.out)) ?_
  rintro e w4 ⟨rfl, l, fr⟩
  replace HL := hide l
  replace HB := hide (frm_base HB.out fr (Nat.le_refl _) HP.out.1 HP.out.2)
  clear l fr
  go_wp2_with fail
  refine Calls.mono (fx_flip HL.out (HV17.out _ HB.out) (HV12.out _ HB.out)) ?_
  rintro e w5 ⟨rfl, l, fr⟩
  replace HL := hide l
  replace HB := hide (frm_base HB.out fr (Nat.le_refl _) HP.out.1 HP.out.2)
  clear l fr
  go_wp2_with fail
  refine Calls.mono (fx_flip2 HL.out (HV17.out _ HB.out) (HV12.out _ HB.out)) ?_
  rintro e w6 ⟨rfl, l, fr⟩
  replace HL := hide l
  replace HB := hide (frm_base HB.out fr (Nat.le_refl _) HP.out.1 HP.out.2)
  clear l fr
  go_wp2_with fail
  refine Calls.mono (code_any (HE.out.below HB.out) (sent (E 12)) 12 (-1) (isErr_erv (k := 12) (by decide))) ?_
  rintro e w7 ⟨rfl, rfl⟩
  go_upto_region 10 with fail
  go_wp2_with fail
  refine Calls.mono (fx_look HL.out (HV17.out _ HB.out)) ?_
  rintro e w7 ⟨rfl, b⟩
  replace HL := hide (HL.out.below b)
  replace HB := hide (chain HB.out b)
  clear b
  obtain ⟨w8, hW, B8, D8⟩ := box1 w7 [.int .i64 0, .int .i64 1, .string ⟨#[97, 99, 99, 100]⟩] 41
  obtain ⟨q4, hq⟩ : ∃ q, w7.heap.size = q := ⟨_, rfl⟩
  have HQq4 : Hid (w.heap.size ≤ q4 ∧ lb < q4 ∧ mb < q4) := by have q1 := HL.out.lb_lt; have q2 := HL.out.mb_lt; have q3 := HB.out.size; rw [hq] at q1 q2 q3; exact ⟨q3, q1, q2⟩
  rw [hq] at B8
  have Kq4 := hide B8
  replace HL := hide (HL.out.below D8)
  replace HB := hide (chain HB.out D8)
  clear B8 D8
  go_upto_region 11 with fail
  try simp only [hW, hq]
  clear hW hq
  go_wp2_with fail
  refine Calls.mono (fx_take HL.out (HV17.out _ HB.out)) ?_
  rintro e w9 ⟨rfl, l, fr⟩
  replace Kq4 := hide (Kq4.out.frm2 fr (by have := HQq4.out; omega) (by have := HQq4.out; omega))
  replace HL := hide l
  replace HB := hide (frm_base HB.out fr (Nat.le_refl _) HP.out.1 HP.out.2)
  clear l fr
  obtain ⟨w10, hW, B8, D8⟩ := box1 w9 [.int .i64 0, .int .i64 1, .string ⟨#[97, 98]⟩] 41
  obtain ⟨q6, hq⟩ : ∃ q, w9.heap.size = q := ⟨_, rfl⟩
  have HQq6 : Hid (w.heap.size ≤ q6 ∧ lb < q6 ∧ mb < q6) := by have q1 := HL.out.lb_lt; have q2 := HL.out.mb_lt; have q3 := HB.out.size; rw [hq] at q1 q2 q3; exact ⟨q3, q1, q2⟩
  rw [hq] at B8
  have Kq6 := hide B8
  replace HL := hide (HL.out.below D8)
  replace HB := hide (chain HB.out D8)
  replace Kq4 := hide (Kq4.out.below D8)
  clear B8 D8
  go_upto_region 12 with fail
  try simp only [hW, hq]
  clear hW hq
  go_wp2_with fail
  refine Calls.mono (fx_take2 HL.out (HV17.out _ HB.out)) ?_
  rintro e w11 ⟨rfl, l, fr⟩
  replace Kq4 := hide (Kq4.out.frm2 fr (by have := HQq4.out; omega) (by have := HQq4.out; omega))
  replace Kq6 := hide (Kq6.out.frm2 fr (by have := HQq6.out; omega) (by have := HQq6.out; omega))
  replace HL := hide l
  replace HB := hide (frm_base HB.out fr (Nat.le_refl _) HP.out.1 HP.out.2)
  clear l fr
  obtain ⟨⟨f1, t1, z1, p1⟩, hX⟩ : ∃ X, fv fxF 1 = X := ⟨_, rfl⟩
  rw [hX]
  dsimp only [Lt.a]
  clear hX
  obtain ⟨w12, hW, B8, D8⟩ := box1 w11 [.int .i64 f1, .int .i64 t1, .string z1] 41
  obtain ⟨q8, hq⟩ : ∃ q, w11.heap.size = q := ⟨_, rfl⟩
  have HQq8 : Hid (w.heap.size ≤ q8 ∧ lb < q8 ∧ mb < q8) := by have q1 := HL.out.lb_lt; have q2 := HL.out.mb_lt; have q3 := HB.out.size; rw [hq] at q1 q2 q3; exact ⟨q3, q1, q2⟩
  rw [hq] at B8
  have Kq8 := hide B8
  replace HL := hide (HL.out.below D8)
  replace HB := hide (chain HB.out D8)
  replace Kq4 := hide (Kq4.out.below D8)
  replace Kq6 := hide (Kq6.out.below D8)
  clear B8 D8
  go_upto_region 13 with fail
  try simp only [hW, hq]
  clear hW hq
  have a1 := Kq4.out.cell 2 rfl
  have a2 := Kq6.out.cell 2 rfl
  go_wp2_with fail
  refine Calls.mono (code_any (HE.out.below HB.out) (sent (E 17)) 17 (-1) (isErr_erv (k := 17) (by decide))) ?_
  rintro e w13 ⟨rfl, rfl⟩
  go_wp2_with fail
  refine Calls.mono (fx_made (E := E) HL.out) ?_
  rintro e w13 ⟨rfl, b⟩
  replace HL := hide (HL.out.below b)
  replace HB := hide (chain HB.out b)
  clear b
  go_wp2_with fail
  refine Calls.mono (fx_flush (E := E) HL.out) ?_
  rintro e w14 ⟨rfl, l, fr⟩
  replace HB := hide (frm_base HB.out fr (Nat.le_refl _) HP.out.1 HP.out.2)
  clear l fr
  go_wp2
  go_ret
  exact ⟨rfl, HB.out⟩
end Go.Proofs.YtgnkmenjjmfcfaaDoor
