/-
  ferrylaw21.plays: the program's answer is the document's.
-/
import Derived.Test.YtgnkmenjjmfcfaaDoorLkPl
namespace Go.Proofs.YtgnkmenjjmfcfaaDoor.lkPlays
open Go.Proofs.YtgnkmenjjmfcfaaDoor Go.RowKit FerryCrc
set_option linter.unusedVariables false
set_option linter.unusedSimpArgs false
set_option maxRecDepth 100000 in
set_option maxHeartbeats 40000000 in
theorem plays_any {wb w : World} {E : Nat → Addr} {lb mb rb : Nat} {va : Option Addr} {vc : Nat} {L : Lk} {D : List Md} (he : Errs wb E) (h : Tw2 wb w lb mb rb va vc L D) (hn : L.n ≤ 2199023255552) (kd : Int) (sd : Bool) (N X Y : Int) (mq : Nat) (sb : ByteArray)
    (hN : -9223372036854775808 ≤ N ∧ N ≤ 9223372036854775807) (hX : -9223372036854775808 ≤ X ∧ X ≤ 9223372036854775807) (hY : -9223372036854775808 ≤ Y ∧ Y ≤ 9223372036854775807) (hm : mq < 4294967296) (hs : sb.size ≤ 9223372036854775807) :
    Calls Tryd.prog 9 #[.pointer (some ⟨lb, 0, none⟩), .pointer (some ⟨rb, 0, none⟩), .agg #[.int .i64 kd, .bool sd, .int .i64 N, .int .i64 X, .int .i64 Y, .int .u32 (mq : Int), .string sb]] w fun e w' => e = .returned (.bool true) ∧ TPost wb w w' lb mb rb va L kd := by
  have HE := hide (fun (w' : World) (b : Below wb.heap.size wb w') => he.below b)
  have H12 := hide (fun (w' : World) (b : Below wb.heap.size wb w') => cell_below he.v12 b)
  have H11 := hide (fun (w' : World) (b : Below wb.heap.size wb w') => cell_below he.v11 b)
  have H17 := hide (fun (w' : World) (b : Below wb.heap.size wb w') => cell_below he.v17 b)
  have HHL := hide h.hl
  have HSM := hide h.s
  have HN := hide hN
  have HXX := hide hX
  have HYY := hide hY
  have HSB := hide hs
  have HOK := hide h.l.ok
  obtain ⟨W, hW, B5, D5⟩ := box1 w [.int .i64 kd, .bool sd, .int .i64 N, .int .i64 X, .int .i64 Y, .int .u32 (mq : Int), .string sb] 31
  obtain ⟨q5, hq⟩ : ∃ q, w.heap.size = q := ⟨_, rfl⟩
  have HQ5 : Hid (w.heap.size = q5 ∧ lb < q5 ∧ mb < q5 ∧ rb < q5 ∧ ∀ g, va.map (·.block) = some g → g < q5) := by
    refine ⟨hq, ?_, ?_, ?_, fun g e => ?_⟩
    · rw [← hq]; exact h.l.lb_lt
    · rw [← hq]; exact h.l.mb_lt
    · rw [← hq]; exact h.r.bk.lt
    · rw [← hq]; exact (World.ownsRow.lt h.r.own g (by rw [ob]; exact e)).2
  rw [hq] at B5
  have K5 := hide B5
  have HL := hide (h.l.below D5)
  have HR := hide (h.r.below D5)
  have HB := hide (h.b.trans (D5.mono h.b.size))
  have HFr : Hid (Frm (PW lb mb rb va) w W) := Frm.ofBelow D5
  have HWD := hide hW
  have HQ := hide hq
  clear B5 D5 hW hq h he hN hX hY hs
  go_enter Tryd.func9, Tryd.ntmps9
  go_upto_region 1 with fail
  have hW := HWD.out
  have hq := HQ.out
  clear HWD HQ
  simp only [hW, hq]
  clear hW hq
  have a0 := K5.out.cell 0 rfl
  have a1 := K5.out.cell 1 rfl
  have a2 := K5.out.cell 2 rfl
  have a3 := K5.out.cell 3 rfl
  have a4 := K5.out.cell 4 rfl
  have a5 := K5.out.cell 5 rfl
  have a6 := K5.out.cell 6 rfl
  by_cases k1 : kd = 1
  · subst k1
    as_aux_lemma =>
      have HLE : Hid ((sL L X Y sb).n ≤ L.n + 1) := by unfold Hid sL; split <;> simp
      have HKK : Hid (sE X Y sb ≤ 20) := by unfold Hid sE; split; split <;> omega; omega
      obtain ⟨kk, hkk⟩ : ∃ x, sE X Y sb = x := ⟨_, rfl⟩
      rw [hkk] at HKK
      obtain ⟨nn, hnn⟩ : ∃ x, sN L X Y sb = x := ⟨_, rfl⟩
      obtain ⟨ev, hev⟩ : ∃ v, erv E kk = v := ⟨_, rfl⟩
      have HEV := hide hev
      have HC1 := hide (rsend_any X Y sb HXX.out.1 HXX.out.2 HYY.out.1 HYY.out.2 HSB.out HSM.out hn HR.out)
      have HC2 := hide (fun (w' : World) (hl : LAt w' lb mb L) (b : Below wb.heap.size wb w') => send_any (E := E) X Y sb (by omega) HSB.out hl (H12.out _ b) (H11.out _ b))
      rw [hkk, hnn] at HC1 HC2
      rw [hev] at HC2
      clear hkk hnn hev
      go_upto_region 3 with fail
      clear a0 a1 a2 a3 a4 a5 a6
      have a0 := K5.out.cell 0 rfl
      have a1 := K5.out.cell 1 rfl
      have a2 := K5.out.cell 2 rfl
      have a3 := K5.out.cell 3 rfl
      have a4 := K5.out.cell 4 rfl
      have a5 := K5.out.cell 5 rfl
      have a6 := K5.out.cell 6 rfl
      have HC := hide (HC1.out)
      go_wp2_with fail
      refine Calls.mono HC.out ?_
      rintro e w2 ⟨rfl, D2, sm, va2, vc2, r2, fr, nb⟩
      have HL2 := hide (two_r HL.out HR.out fr)
      have HB2 := hide (bel_r HB.out HR.out fr)
      have HF2 := hide (HFr.out.trans fr (fun j _ e => .inr e))
      have K52 := hide (K5.out.frmS fr (fun e => by have h1 := HQ5.out; rcases e with e | e; omega; have h2 := h1.2.2.2.2 _ e; omega))
      have HNB : Hid (∀ g, va2.map (·.block) = some g → va.map (·.block) = some g ∨ w.heap.size ≤ g) := fun g e => by
        rcases nb g e with h | h
        · exact .inl h
        · exact .inr (Nat.le_trans HFr.out.size h)
      clear HC HL HB HFr K5 a0 a1 a2 a3 a4 a5 a6
      have HL := HL2
      have HB := HB2
      have HFr := HF2
      have K5 := K52
      have HR2 := hide r2
      have HSM2 := hide sm
      clear HL2 HB2 HF2 K52 r2 sm fr nb HR HSM
      have HR := HR2
      have HSM := HSM2
      clear HR2 HSM2
      clear HC1
      go_upto_region 4 with fail
      have a0 := K5.out.cell 0 rfl
      have a1 := K5.out.cell 1 rfl
      have a2 := K5.out.cell 2 rfl
      have a3 := K5.out.cell 3 rfl
      have a4 := K5.out.cell 4 rfl
      have a5 := K5.out.cell 5 rfl
      have a6 := K5.out.cell 6 rfl
      have HC := hide (HC2.out _ HL.out HB.out)
      go_wp2_with fail
      refine Calls.mono HC.out ?_
      rintro e w3 ⟨rfl, l2, fr⟩
      have HR2 := hide (two_l HL.out HR.out fr)
      have HB2 := hide (frm_base HB.out fr (Nat.le_refl _) HHL.out.1 HHL.out.2)
      have HF2 := hide (HFr.out.trans fr (fun j _ e => .inl e))
      have K52 := hide (K5.out.frmS fr (fun e => by have h1 := HQ5.out; rcases e with e | e <;> omega))
      clear HC HL HR HB HFr K5 a0 a1 a2 a3 a4 a5 a6 fr
      have HR := HR2
      have HB := HB2
      have HFr := HF2
      have K5 := K52
      have HL := hide l2
      clear HR2 HB2 HF2 K52 l2
      clear HC2
      go_upto_region 5 with fail
      have HC := hide (same_any (HE.out _ HB.out) kk HKK.out)
      rw [HEV.out] at HC
      go_wp2_with fail
      refine Calls.mono HC.out ?_
      rintro e wz ⟨rfl, b2⟩
      replace HL := hide (HL.out.below b2)
      replace HR := hide (HR.out.below b2)
      replace HB := hide (chain HB.out b2)
      replace HFr := hide (HFr.out.trans (Frm.ofBelow b2) (fun _ _ e => e))
      clear HC b2
      go_wp2
      go_ret
      exact ⟨rfl, _, _, _, _, ⟨HL.out, HR.out, HSM.out, HB.out, HHL.out⟩, HFr.out, HNB.out, (by have h1 := HLE.out; omega), (fun h => absurd h (by decide))⟩
  have e1 : (kd == 1) = false := beq_eq_false_iff_ne.2 k1
  clear k1
  by_cases k2 : kd = 2
  · subst k2
    as_aux_lemma =>
      have HLE : Hid (L.n ≤ L.n + 1) := by unfold Hid; omega
      have HKK : Hid (fE L N ≤ 20) := by unfold Hid; have := fE_le L N; omega
      obtain ⟨kk, hkk⟩ : ∃ x, fE L N = x := ⟨_, rfl⟩
      rw [hkk] at HKK
      obtain ⟨ev, hev⟩ : ∃ v, erv E kk = v := ⟨_, rfl⟩
      have HEV := hide hev
      obtain ⟨⟨xf, xt, xs, xp⟩, hX⟩ : ∃ X, fv L N = X := ⟨_, rfl⟩
      have HC1 := hide (rlook_any N HN.out.1 HN.out.2 HOK.out HSM.out (by omega) HR.out)
      have HC2 := hide (fun (w' : World) (hl : LAt w' lb mb L) (b : Below wb.heap.size wb w') => look_any (E := E) N HN.out.1 HN.out.2 hl (H17.out _ b))
      rw [hkk, hX] at HC1 HC2
      rw [hev] at HC2
      dsimp only [Lt.a] at HC1 HC2
      clear hkk hX hev
      go_upto_region 7 with fail
      clear a0 a1 a2 a3 a4 a5 a6
      have a0 := K5.out.cell 0 rfl
      have a1 := K5.out.cell 1 rfl
      have a2 := K5.out.cell 2 rfl
      have a3 := K5.out.cell 3 rfl
      have a4 := K5.out.cell 4 rfl
      have a5 := K5.out.cell 5 rfl
      have a6 := K5.out.cell 6 rfl
      have HC := hide (HC1.out)
      go_wp2_with fail
      refine Calls.mono HC.out ?_
      rintro e w2 ⟨rfl, b2⟩
      replace HL := hide (HL.out.below b2)
      replace HR := hide (HR.out.below b2)
      replace K5 := hide (K5.out.below b2)
      replace HB := hide (chain HB.out b2)
      replace HFr := hide (HFr.out.trans (Frm.ofBelow b2) (fun _ _ e => e))
      clear HC b2 a0 a1 a2 a3 a4 a5 a6
      clear HC1
      obtain ⟨w3, hW, B8, D8⟩ := box1 w2 [.int .i64 xf, .int .i64 xt, .string xs] 41
      obtain ⟨q11, hq⟩ : ∃ q, w2.heap.size = q := ⟨_, rfl⟩
      have HZq11 : Hid (lb < q11 ∧ mb < q11) := by have h1 := HL.out.lb_lt; have h2 := HL.out.mb_lt; rw [hq] at h1 h2; exact ⟨h1, h2⟩
      rw [hq] at B8
      have Kq11 := hide B8
      replace HL := hide (HL.out.below D8)
      replace HR := hide (HR.out.below D8)
      replace K5 := hide (K5.out.below D8)
      replace HB := hide (chain HB.out D8)
      replace HFr := hide (HFr.out.trans (Frm.ofBelow D8) (fun _ _ e => e))
      clear B8 D8
      go_upto_region 8 with fail
      try simp only [hW, hq]
      clear hW hq
      have a0 := K5.out.cell 0 rfl
      have a1 := K5.out.cell 1 rfl
      have a2 := K5.out.cell 2 rfl
      have a3 := K5.out.cell 3 rfl
      have a4 := K5.out.cell 4 rfl
      have a5 := K5.out.cell 5 rfl
      have a6 := K5.out.cell 6 rfl
      have HC := hide (HC2.out _ HL.out HB.out)
      go_wp2_with fail
      refine Calls.mono HC.out ?_
      rintro e w4 ⟨rfl, b2⟩
      replace HL := hide (HL.out.below b2)
      replace HR := hide (HR.out.below b2)
      replace K5 := hide (K5.out.below b2)
      replace HB := hide (chain HB.out b2)
      replace HFr := hide (HFr.out.trans (Frm.ofBelow b2) (fun _ _ e => e))
      replace Kq11 := hide (Kq11.out.below b2)
      clear HC b2 a0 a1 a2 a3 a4 a5 a6
      clear HC2
      obtain ⟨w5, hW, B8, D8⟩ := box1 w4 [.int .i64 xf, .int .i64 xt, .string xs] 41
      obtain ⟨q14, hq⟩ : ∃ q, w4.heap.size = q := ⟨_, rfl⟩
      have HZq14 : Hid (lb < q14 ∧ mb < q14) := by have h1 := HL.out.lb_lt; have h2 := HL.out.mb_lt; rw [hq] at h1 h2; exact ⟨h1, h2⟩
      rw [hq] at B8
      have Kq14 := hide B8
      replace HL := hide (HL.out.below D8)
      replace HR := hide (HR.out.below D8)
      replace K5 := hide (K5.out.below D8)
      replace Kq11 := hide (Kq11.out.below D8)
      replace HB := hide (chain HB.out D8)
      replace HFr := hide (HFr.out.trans (Frm.ofBelow D8) (fun _ _ e => e))
      clear B8 D8
      go_upto_region 9 with fail
      try simp only [hW, hq]
      clear hW hq
      have b0 := Kq11.out.cell 0 rfl
      have b1 := Kq11.out.cell 1 rfl
      have b2 := Kq11.out.cell 2 rfl
      have c0 := Kq14.out.cell 0 rfl
      have c1 := Kq14.out.cell 1 rfl
      have c2 := Kq14.out.cell 2 rfl
      have hle := let_eq xf xt xs w5
      have hbb : (xp == xp) = true := by simp
      have HC := hide (same_any (HE.out _ HB.out) kk HKK.out)
      rw [HEV.out] at HC
      go_wp2_with fail
      refine Calls.mono HC.out ?_
      rintro e wz ⟨rfl, b2⟩
      replace HL := hide (HL.out.below b2)
      replace HR := hide (HR.out.below b2)
      replace HB := hide (chain HB.out b2)
      replace HFr := hide (HFr.out.trans (Frm.ofBelow b2) (fun _ _ e => e))
      clear HC b2
      go_wp2
      go_ret
      exact ⟨rfl, L, _, _, _, ⟨HL.out, HR.out, HSM.out, HB.out, HHL.out⟩, HFr.out, (fun g e => .inl e), (by have h1 := HLE.out; omega), (fun _ => rfl)⟩
  have e2 : (kd == 2) = false := beq_eq_false_iff_ne.2 k2
  clear k2
  by_cases k3 : kd = 3
  · subst k3
    as_aux_lemma =>
      have HLE : Hid ((tL L N).n ≤ L.n + 1) := by unfold Hid tL; dsimp only; omega
      have HKK : Hid (fE L N ≤ 20) := by unfold Hid; have := fE_le L N; omega
      obtain ⟨kk, hkk⟩ : ∃ x, fE L N = x := ⟨_, rfl⟩
      rw [hkk] at HKK
      obtain ⟨ev, hev⟩ : ∃ v, erv E kk = v := ⟨_, rfl⟩
      have HEV := hide hev
      obtain ⟨⟨xf, xt, xs, xp⟩, hX⟩ : ∃ X, fv L N = X := ⟨_, rfl⟩
      have HC1 := hide (rtake_any N HN.out.1 HN.out.2 HOK.out HSM.out hn HR.out)
      have HC2 := hide (fun (w' : World) (hl : LAt w' lb mb L) (b : Below wb.heap.size wb w') => take_any (E := E) N HN.out.1 HN.out.2 hl (H17.out _ b))
      rw [hkk] at HC1 HC2
      rw [hX] at HC1 HC2
      rw [hev] at HC2
      dsimp only [Lt.a] at HC1 HC2
      clear hkk hX hev
      go_upto_region 11 with fail
      clear a0 a1 a2 a3 a4 a5 a6
      have a0 := K5.out.cell 0 rfl
      have a1 := K5.out.cell 1 rfl
      have a2 := K5.out.cell 2 rfl
      have a3 := K5.out.cell 3 rfl
      have a4 := K5.out.cell 4 rfl
      have a5 := K5.out.cell 5 rfl
      have a6 := K5.out.cell 6 rfl
      have HC := hide (HC1.out)
      go_wp2_with fail
      refine Calls.mono HC.out ?_
      rintro e w2 ⟨rfl, D2, sm, va2, vc2, r2, fr, nb⟩
      have HL2 := hide (two_r HL.out HR.out fr)
      have HB2 := hide (bel_r HB.out HR.out fr)
      have HF2 := hide (HFr.out.trans fr (fun j _ e => .inr e))
      have K52 := hide (K5.out.frmS fr (fun e => by have h1 := HQ5.out; rcases e with e | e; omega; have h2 := h1.2.2.2.2 _ e; omega))
      have HNB : Hid (∀ g, va2.map (·.block) = some g → va.map (·.block) = some g ∨ w.heap.size ≤ g) := fun g e => by
        rcases nb g e with h | h
        · exact .inl h
        · exact .inr (Nat.le_trans HFr.out.size h)
      clear HC HL HB HFr K5 a0 a1 a2 a3 a4 a5 a6
      have HL := HL2
      have HB := HB2
      have HFr := HF2
      have K5 := K52
      have HR2 := hide r2
      have HSM2 := hide sm
      clear HL2 HB2 HF2 K52 r2 sm fr nb HR HSM
      have HR := HR2
      have HSM := HSM2
      clear HR2 HSM2
      clear HC1
      obtain ⟨w3, hW, B8, D8⟩ := box1 w2 [.int .i64 xf, .int .i64 xt, .string xs] 41
      obtain ⟨q17, hq⟩ : ∃ q, w2.heap.size = q := ⟨_, rfl⟩
      have HZq17 : Hid (lb < q17 ∧ mb < q17) := by have h1 := HL.out.lb_lt; have h2 := HL.out.mb_lt; rw [hq] at h1 h2; exact ⟨h1, h2⟩
      rw [hq] at B8
      have Kq17 := hide B8
      replace HL := hide (HL.out.below D8)
      replace HR := hide (HR.out.below D8)
      replace K5 := hide (K5.out.below D8)
      replace HB := hide (chain HB.out D8)
      replace HFr := hide (HFr.out.trans (Frm.ofBelow D8) (fun _ _ e => e))
      clear B8 D8
      go_upto_region 12 with fail
      try simp only [hW, hq]
      clear hW hq
      have a0 := K5.out.cell 0 rfl
      have a1 := K5.out.cell 1 rfl
      have a2 := K5.out.cell 2 rfl
      have a3 := K5.out.cell 3 rfl
      have a4 := K5.out.cell 4 rfl
      have a5 := K5.out.cell 5 rfl
      have a6 := K5.out.cell 6 rfl
      have HC := hide (HC2.out _ HL.out HB.out)
      go_wp2_with fail
      refine Calls.mono HC.out ?_
      rintro e w4 ⟨rfl, l2, fr⟩
      have HR2 := hide (two_l HL.out HR.out fr)
      have HB2 := hide (frm_base HB.out fr (Nat.le_refl _) HHL.out.1 HHL.out.2)
      have HF2 := hide (HFr.out.trans fr (fun j _ e => .inl e))
      have K52 := hide (K5.out.frmS fr (fun e => by have h1 := HQ5.out; rcases e with e | e <;> omega))
      have Kq172 := hide (Kq17.out.frmS fr (fun e => by have h1 := HZq17.out; rcases e with e | e <;> omega))
      replace Kq17 := Kq172
      clear Kq172
      clear HC HL HR HB HFr K5 a0 a1 a2 a3 a4 a5 a6 fr
      have HR := HR2
      have HB := HB2
      have HFr := HF2
      have K5 := K52
      have HL := hide l2
      clear HR2 HB2 HF2 K52 l2
      clear HC2
      obtain ⟨w5, hW, B8, D8⟩ := box1 w4 [.int .i64 xf, .int .i64 xt, .string xs] 41
      obtain ⟨q19, hq⟩ : ∃ q, w4.heap.size = q := ⟨_, rfl⟩
      have HZq19 : Hid (lb < q19 ∧ mb < q19) := by have h1 := HL.out.lb_lt; have h2 := HL.out.mb_lt; rw [hq] at h1 h2; exact ⟨h1, h2⟩
      rw [hq] at B8
      have Kq19 := hide B8
      replace HL := hide (HL.out.below D8)
      replace HR := hide (HR.out.below D8)
      replace K5 := hide (K5.out.below D8)
      replace Kq17 := hide (Kq17.out.below D8)
      replace HB := hide (chain HB.out D8)
      replace HFr := hide (HFr.out.trans (Frm.ofBelow D8) (fun _ _ e => e))
      clear B8 D8
      go_upto_region 13 with fail
      try simp only [hW, hq]
      clear hW hq
      have b0 := Kq17.out.cell 0 rfl
      have b1 := Kq17.out.cell 1 rfl
      have b2 := Kq17.out.cell 2 rfl
      have c0 := Kq19.out.cell 0 rfl
      have c1 := Kq19.out.cell 1 rfl
      have c2 := Kq19.out.cell 2 rfl
      have hle := let_eq xf xt xs w5
      have HC := hide (same_any (HE.out _ HB.out) kk HKK.out)
      rw [HEV.out] at HC
      go_wp2_with fail
      refine Calls.mono HC.out ?_
      rintro e wz ⟨rfl, b2⟩
      replace HL := hide (HL.out.below b2)
      replace HR := hide (HR.out.below b2)
      replace HB := hide (chain HB.out b2)
      replace HFr := hide (HFr.out.trans (Frm.ofBelow b2) (fun _ _ e => e))
      clear HC b2
      go_wp2
      go_ret
      exact ⟨rfl, _, _, _, _, ⟨HL.out, HR.out, HSM.out, HB.out, HHL.out⟩, HFr.out, HNB.out, (by have h1 := HLE.out; omega), (fun h => absurd h (by decide))⟩
  have e3 : (kd == 3) = false := beq_eq_false_iff_ne.2 k3
  clear k3
  by_cases k4 : kd = 4
  · subst k4
    as_aux_lemma =>
      have HLE : Hid ((tL L N).n ≤ L.n + 1) := by unfold Hid tL; dsimp only; omega
      have HKK : Hid (fE L N ≤ 20) := by unfold Hid; have := fE_le L N; omega
      obtain ⟨kk, hkk⟩ : ∃ x, fE L N = x := ⟨_, rfl⟩
      rw [hkk] at HKK
      obtain ⟨ev, hev⟩ : ∃ v, erv E kk = v := ⟨_, rfl⟩
      have HEV := hide hev
      obtain ⟨⟨xf, xt, xs, xp⟩, hX⟩ : ∃ X, fv L N = X := ⟨_, rfl⟩
      have HC1 := hide (rtake_any N HN.out.1 HN.out.2 HOK.out HSM.out hn HR.out)
      have HC2 := hide (fun (w' : World) (hl : LAt w' lb mb L) (b : Below wb.heap.size wb w') => drop_any (E := E) N HN.out.1 HN.out.2 hl (H17.out _ b))
      rw [hkk] at HC1 HC2
      rw [hX] at HC1
      rw [hev] at HC2
      dsimp only [Lt.a] at HC1
      clear hkk hX hev
      go_upto_region 15 with fail
      clear a0 a1 a2 a3 a4 a5 a6
      have a0 := K5.out.cell 0 rfl
      have a1 := K5.out.cell 1 rfl
      have a2 := K5.out.cell 2 rfl
      have a3 := K5.out.cell 3 rfl
      have a4 := K5.out.cell 4 rfl
      have a5 := K5.out.cell 5 rfl
      have a6 := K5.out.cell 6 rfl
      have HC := hide (HC1.out)
      go_wp2_with fail
      refine Calls.mono HC.out ?_
      rintro e w2 ⟨rfl, D2, sm, va2, vc2, r2, fr, nb⟩
      have HL2 := hide (two_r HL.out HR.out fr)
      have HB2 := hide (bel_r HB.out HR.out fr)
      have HF2 := hide (HFr.out.trans fr (fun j _ e => .inr e))
      have K52 := hide (K5.out.frmS fr (fun e => by have h1 := HQ5.out; rcases e with e | e; omega; have h2 := h1.2.2.2.2 _ e; omega))
      have HNB : Hid (∀ g, va2.map (·.block) = some g → va.map (·.block) = some g ∨ w.heap.size ≤ g) := fun g e => by
        rcases nb g e with h | h
        · exact .inl h
        · exact .inr (Nat.le_trans HFr.out.size h)
      clear HC HL HB HFr K5 a0 a1 a2 a3 a4 a5 a6
      have HL := HL2
      have HB := HB2
      have HFr := HF2
      have K5 := K52
      have HR2 := hide r2
      have HSM2 := hide sm
      clear HL2 HB2 HF2 K52 r2 sm fr nb HR HSM
      have HR := HR2
      have HSM := HSM2
      clear HR2 HSM2
      clear HC1
      obtain ⟨w3, hW, B8, D8⟩ := box1 w2 [.int .i64 xf, .int .i64 xt, .string xs] 41
      obtain ⟨q21, hq⟩ : ∃ q, w2.heap.size = q := ⟨_, rfl⟩
      have HZq21 : Hid (lb < q21 ∧ mb < q21) := by have h1 := HL.out.lb_lt; have h2 := HL.out.mb_lt; rw [hq] at h1 h2; exact ⟨h1, h2⟩
      rw [hq] at B8
      have Kq21 := hide B8
      replace HL := hide (HL.out.below D8)
      replace HR := hide (HR.out.below D8)
      replace K5 := hide (K5.out.below D8)
      replace HB := hide (chain HB.out D8)
      replace HFr := hide (HFr.out.trans (Frm.ofBelow D8) (fun _ _ e => e))
      clear B8 D8
      go_upto_region 16 with fail
      try simp only [hW, hq]
      clear hW hq
      have a0 := K5.out.cell 0 rfl
      have a1 := K5.out.cell 1 rfl
      have a2 := K5.out.cell 2 rfl
      have a3 := K5.out.cell 3 rfl
      have a4 := K5.out.cell 4 rfl
      have a5 := K5.out.cell 5 rfl
      have a6 := K5.out.cell 6 rfl
      have HC := hide (HC2.out _ HL.out HB.out)
      go_wp2_with fail
      refine Calls.mono HC.out ?_
      rintro e w4 ⟨rfl, l2, fr⟩
      have HR2 := hide (two_l HL.out HR.out fr)
      have HB2 := hide (frm_base HB.out fr (Nat.le_refl _) HHL.out.1 HHL.out.2)
      have HF2 := hide (HFr.out.trans fr (fun j _ e => .inl e))
      have K52 := hide (K5.out.frmS fr (fun e => by have h1 := HQ5.out; rcases e with e | e <;> omega))
      have Kq212 := hide (Kq21.out.frmS fr (fun e => by have h1 := HZq21.out; rcases e with e | e <;> omega))
      replace Kq21 := Kq212
      clear Kq212
      clear HC HL HR HB HFr K5 a0 a1 a2 a3 a4 a5 a6 fr
      have HR := HR2
      have HB := HB2
      have HFr := HF2
      have K5 := K52
      have HL := hide l2
      clear HR2 HB2 HF2 K52 l2
      clear HC2
      have HC := hide (same_any (HE.out _ HB.out) kk HKK.out)
      rw [HEV.out] at HC
      go_wp2_with fail
      refine Calls.mono HC.out ?_
      rintro e wz ⟨rfl, b2⟩
      replace HL := hide (HL.out.below b2)
      replace HR := hide (HR.out.below b2)
      replace HB := hide (chain HB.out b2)
      replace HFr := hide (HFr.out.trans (Frm.ofBelow b2) (fun _ _ e => e))
      clear HC b2
      go_wp2
      go_ret
      exact ⟨rfl, _, _, _, _, ⟨HL.out, HR.out, HSM.out, HB.out, HHL.out⟩, HFr.out, HNB.out, (by have h1 := HLE.out; omega), (fun h => absurd h (by decide))⟩
  have e4 : (kd == 4) = false := beq_eq_false_iff_ne.2 k4
  clear k4
  by_cases k5 : kd = 5
  · subst k5
    as_aux_lemma =>
      have HLE : Hid ((cL L N).n ≤ L.n + 1) := by unfold Hid cL; split <;> simp
      have HKK : Hid (fE L N ≤ 20) := by unfold Hid; have := fE_le L N; omega
      obtain ⟨kk, hkk⟩ : ∃ x, fE L N = x := ⟨_, rfl⟩
      rw [hkk] at HKK
      obtain ⟨ev, hev⟩ : ∃ v, erv E kk = v := ⟨_, rfl⟩
      have HEV := hide hev
      obtain ⟨nn, hnn⟩ : ∃ x, cN L N = x := ⟨_, rfl⟩
      have HC1 := hide (rcopy_any N HN.out.1 HN.out.2 HOK.out HSM.out hn HR.out)
      have HC2 := hide (fun (w' : World) (hl : LAt w' lb mb L) (b : Below wb.heap.size wb w') => copy_any (E := E) N HN.out.1 HN.out.2 (by omega) hl (H17.out _ b))
      rw [hkk, hnn] at HC1 HC2
      rw [hev] at HC2
      clear hkk hnn hev
      go_upto_region 18 with fail
      clear a0 a1 a2 a3 a4 a5 a6
      have a0 := K5.out.cell 0 rfl
      have a1 := K5.out.cell 1 rfl
      have a2 := K5.out.cell 2 rfl
      have a3 := K5.out.cell 3 rfl
      have a4 := K5.out.cell 4 rfl
      have a5 := K5.out.cell 5 rfl
      have a6 := K5.out.cell 6 rfl
      have HC := hide (HC1.out)
      go_wp2_with fail
      refine Calls.mono HC.out ?_
      rintro e w2 ⟨rfl, D2, sm, va2, vc2, r2, fr, nb⟩
      have HL2 := hide (two_r HL.out HR.out fr)
      have HB2 := hide (bel_r HB.out HR.out fr)
      have HF2 := hide (HFr.out.trans fr (fun j _ e => .inr e))
      have K52 := hide (K5.out.frmS fr (fun e => by have h1 := HQ5.out; rcases e with e | e; omega; have h2 := h1.2.2.2.2 _ e; omega))
      have HNB : Hid (∀ g, va2.map (·.block) = some g → va.map (·.block) = some g ∨ w.heap.size ≤ g) := fun g e => by
        rcases nb g e with h | h
        · exact .inl h
        · exact .inr (Nat.le_trans HFr.out.size h)
      clear HC HL HB HFr K5 a0 a1 a2 a3 a4 a5 a6
      have HL := HL2
      have HB := HB2
      have HFr := HF2
      have K5 := K52
      have HR2 := hide r2
      have HSM2 := hide sm
      clear HL2 HB2 HF2 K52 r2 sm fr nb HR HSM
      have HR := HR2
      have HSM := HSM2
      clear HR2 HSM2
      clear HC1
      go_upto_region 19 with fail
      have a0 := K5.out.cell 0 rfl
      have a1 := K5.out.cell 1 rfl
      have a2 := K5.out.cell 2 rfl
      have a3 := K5.out.cell 3 rfl
      have a4 := K5.out.cell 4 rfl
      have a5 := K5.out.cell 5 rfl
      have a6 := K5.out.cell 6 rfl
      have HC := hide (HC2.out _ HL.out HB.out)
      go_wp2_with fail
      refine Calls.mono HC.out ?_
      rintro e w3 ⟨rfl, l2, fr⟩
      have HR2 := hide (two_l HL.out HR.out fr)
      have HB2 := hide (frm_base HB.out fr (Nat.le_refl _) HHL.out.1 HHL.out.2)
      have HF2 := hide (HFr.out.trans fr (fun j _ e => .inl e))
      have K52 := hide (K5.out.frmS fr (fun e => by have h1 := HQ5.out; rcases e with e | e <;> omega))
      clear HC HL HR HB HFr K5 a0 a1 a2 a3 a4 a5 a6 fr
      have HR := HR2
      have HB := HB2
      have HFr := HF2
      have K5 := K52
      have HL := hide l2
      clear HR2 HB2 HF2 K52 l2
      clear HC2
      go_upto_region 20 with fail
      have HC := hide (same_any (HE.out _ HB.out) kk HKK.out)
      rw [HEV.out] at HC
      go_wp2_with fail
      refine Calls.mono HC.out ?_
      rintro e wz ⟨rfl, b2⟩
      replace HL := hide (HL.out.below b2)
      replace HR := hide (HR.out.below b2)
      replace HB := hide (chain HB.out b2)
      replace HFr := hide (HFr.out.trans (Frm.ofBelow b2) (fun _ _ e => e))
      clear HC b2
      go_wp2
      go_ret
      exact ⟨rfl, _, _, _, _, ⟨HL.out, HR.out, HSM.out, HB.out, HHL.out⟩, HFr.out, HNB.out, (by have h1 := HLE.out; omega), (fun h => absurd h (by decide))⟩
  have e5 : (kd == 5) = false := beq_eq_false_iff_ne.2 k5
  clear k5
  by_cases k6 : kd = 6
  · subst k6
    as_aux_lemma =>
      have HLE : Hid ((rL L N X).n ≤ L.n + 1) := by unfold Hid rL; split <;> simp
      have HKK : Hid (rE L N X ≤ 20) := by unfold Hid rE; split; split <;> omega; omega
      obtain ⟨kk, hkk⟩ : ∃ x, rE L N X = x := ⟨_, rfl⟩
      rw [hkk] at HKK
      obtain ⟨ev, hev⟩ : ∃ v, erv E kk = v := ⟨_, rfl⟩
      have HEV := hide hev
      have HC1 := hide (rtrim_any N HN.out.1 HN.out.2 X HXX.out.1 HOK.out HSM.out hn HR.out)
      have HC2 := hide (fun (w' : World) (hl : LAt w' lb mb L) (b : Below wb.heap.size wb w') => trim_any (E := E) N HN.out.1 HN.out.2 X (by omega) hl (H17.out _ b) (H12.out _ b))
      rw [hkk] at HC1 HC2
      rw [hev] at HC2
      clear hkk hev
      go_upto_region 22 with fail
      clear a0 a1 a2 a3 a4 a5 a6
      have a0 := K5.out.cell 0 rfl
      have a1 := K5.out.cell 1 rfl
      have a2 := K5.out.cell 2 rfl
      have a3 := K5.out.cell 3 rfl
      have a4 := K5.out.cell 4 rfl
      have a5 := K5.out.cell 5 rfl
      have a6 := K5.out.cell 6 rfl
      have HC := hide (HC1.out)
      go_wp2_with fail
      refine Calls.mono HC.out ?_
      rintro e w2 ⟨rfl, D2, sm, va2, vc2, r2, fr, nb⟩
      have HL2 := hide (two_r HL.out HR.out fr)
      have HB2 := hide (bel_r HB.out HR.out fr)
      have HF2 := hide (HFr.out.trans fr (fun j _ e => .inr e))
      have K52 := hide (K5.out.frmS fr (fun e => by have h1 := HQ5.out; rcases e with e | e; omega; have h2 := h1.2.2.2.2 _ e; omega))
      have HNB : Hid (∀ g, va2.map (·.block) = some g → va.map (·.block) = some g ∨ w.heap.size ≤ g) := fun g e => by
        rcases nb g e with h | h
        · exact .inl h
        · exact .inr (Nat.le_trans HFr.out.size h)
      clear HC HL HB HFr K5 a0 a1 a2 a3 a4 a5 a6
      have HL := HL2
      have HB := HB2
      have HFr := HF2
      have K5 := K52
      have HR2 := hide r2
      have HSM2 := hide sm
      clear HL2 HB2 HF2 K52 r2 sm fr nb HR HSM
      have HR := HR2
      have HSM := HSM2
      clear HR2 HSM2
      clear HC1
      go_upto_region 23 with fail
      have a0 := K5.out.cell 0 rfl
      have a1 := K5.out.cell 1 rfl
      have a2 := K5.out.cell 2 rfl
      have a3 := K5.out.cell 3 rfl
      have a4 := K5.out.cell 4 rfl
      have a5 := K5.out.cell 5 rfl
      have a6 := K5.out.cell 6 rfl
      have HC := hide (HC2.out _ HL.out HB.out)
      go_wp2_with fail
      refine Calls.mono HC.out ?_
      rintro e w3 ⟨rfl, l2, fr⟩
      have HR2 := hide (two_l HL.out HR.out fr)
      have HB2 := hide (frm_base HB.out fr (Nat.le_refl _) HHL.out.1 HHL.out.2)
      have HF2 := hide (HFr.out.trans fr (fun j _ e => .inl e))
      have K52 := hide (K5.out.frmS fr (fun e => by have h1 := HQ5.out; rcases e with e | e <;> omega))
      clear HC HL HR HB HFr K5 a0 a1 a2 a3 a4 a5 a6 fr
      have HR := HR2
      have HB := HB2
      have HFr := HF2
      have K5 := K52
      have HL := hide l2
      clear HR2 HB2 HF2 K52 l2
      clear HC2
      have HC := hide (same_any (HE.out _ HB.out) kk HKK.out)
      rw [HEV.out] at HC
      go_wp2_with fail
      refine Calls.mono HC.out ?_
      rintro e wz ⟨rfl, b2⟩
      replace HL := hide (HL.out.below b2)
      replace HR := hide (HR.out.below b2)
      replace HB := hide (chain HB.out b2)
      replace HFr := hide (HFr.out.trans (Frm.ofBelow b2) (fun _ _ e => e))
      clear HC b2
      go_wp2
      go_ret
      exact ⟨rfl, _, _, _, _, ⟨HL.out, HR.out, HSM.out, HB.out, HHL.out⟩, HFr.out, HNB.out, (by have h1 := HLE.out; omega), (fun h => absurd h (by decide))⟩
  have e6 : (kd == 6) = false := beq_eq_false_iff_ne.2 k6
  clear k6
  by_cases k7 : kd = 7
  · subst k7
    as_aux_lemma =>
      have HLE : Hid ((pL L N X mq).n ≤ L.n + 1) := by unfold Hid pL; split <;> simp
      have HKK : Hid (pE L N X mq ≤ 20) := by unfold Hid pE; split; split <;> omega; omega
      obtain ⟨kk, hkk⟩ : ∃ x, pE L N X mq = x := ⟨_, rfl⟩
      rw [hkk] at HKK
      obtain ⟨ev, hev⟩ : ∃ v, erv E kk = v := ⟨_, rfl⟩
      have HEV := hide hev
      have HC1 := hide (rflip_any N HN.out.1 HN.out.2 X mq hm HOK.out HSM.out hn HR.out)
      have HC2 := hide (fun (w' : World) (hl : LAt w' lb mb L) (b : Below wb.heap.size wb w') => flip_any (E := E) N HN.out.1 HN.out.2 X mq hm (by omega) hl (H17.out _ b) (H12.out _ b))
      rw [hkk] at HC1 HC2
      rw [hev] at HC2
      clear hkk hev
      go_upto_region 25 with fail
      clear a0 a1 a2 a3 a4 a5 a6
      have a0 := K5.out.cell 0 rfl
      have a1 := K5.out.cell 1 rfl
      have a2 := K5.out.cell 2 rfl
      have a3 := K5.out.cell 3 rfl
      have a4 := K5.out.cell 4 rfl
      have a5 := K5.out.cell 5 rfl
      have a6 := K5.out.cell 6 rfl
      have HC := hide (HC1.out)
      go_wp2_with fail
      refine Calls.mono HC.out ?_
      rintro e w2 ⟨rfl, D2, sm, va2, vc2, r2, fr, nb⟩
      have HL2 := hide (two_r HL.out HR.out fr)
      have HB2 := hide (bel_r HB.out HR.out fr)
      have HF2 := hide (HFr.out.trans fr (fun j _ e => .inr e))
      have K52 := hide (K5.out.frmS fr (fun e => by have h1 := HQ5.out; rcases e with e | e; omega; have h2 := h1.2.2.2.2 _ e; omega))
      have HNB : Hid (∀ g, va2.map (·.block) = some g → va.map (·.block) = some g ∨ w.heap.size ≤ g) := fun g e => by
        rcases nb g e with h | h
        · exact .inl h
        · exact .inr (Nat.le_trans HFr.out.size h)
      clear HC HL HB HFr K5 a0 a1 a2 a3 a4 a5 a6
      have HL := HL2
      have HB := HB2
      have HFr := HF2
      have K5 := K52
      have HR2 := hide r2
      have HSM2 := hide sm
      clear HL2 HB2 HF2 K52 r2 sm fr nb HR HSM
      have HR := HR2
      have HSM := HSM2
      clear HR2 HSM2
      clear HC1
      go_upto_region 26 with fail
      have a0 := K5.out.cell 0 rfl
      have a1 := K5.out.cell 1 rfl
      have a2 := K5.out.cell 2 rfl
      have a3 := K5.out.cell 3 rfl
      have a4 := K5.out.cell 4 rfl
      have a5 := K5.out.cell 5 rfl
      have a6 := K5.out.cell 6 rfl
      have HC := hide (HC2.out _ HL.out HB.out)
      go_wp2_with fail
      refine Calls.mono HC.out ?_
      rintro e w3 ⟨rfl, l2, fr⟩
      have HR2 := hide (two_l HL.out HR.out fr)
      have HB2 := hide (frm_base HB.out fr (Nat.le_refl _) HHL.out.1 HHL.out.2)
      have HF2 := hide (HFr.out.trans fr (fun j _ e => .inl e))
      have K52 := hide (K5.out.frmS fr (fun e => by have h1 := HQ5.out; rcases e with e | e <;> omega))
      clear HC HL HR HB HFr K5 a0 a1 a2 a3 a4 a5 a6 fr
      have HR := HR2
      have HB := HB2
      have HFr := HF2
      have K5 := K52
      have HL := hide l2
      clear HR2 HB2 HF2 K52 l2
      clear HC2
      have HC := hide (same_any (HE.out _ HB.out) kk HKK.out)
      rw [HEV.out] at HC
      go_wp2_with fail
      refine Calls.mono HC.out ?_
      rintro e wz ⟨rfl, b2⟩
      replace HL := hide (HL.out.below b2)
      replace HR := hide (HR.out.below b2)
      replace HB := hide (chain HB.out b2)
      replace HFr := hide (HFr.out.trans (Frm.ofBelow b2) (fun _ _ e => e))
      clear HC b2
      go_wp2
      go_ret
      exact ⟨rfl, _, _, _, _, ⟨HL.out, HR.out, HSM.out, HB.out, HHL.out⟩, HFr.out, HNB.out, (by have h1 := HLE.out; omega), (fun h => absurd h (by decide))⟩
  have e7 : (kd == 7) = false := beq_eq_false_iff_ne.2 k7
  clear k7
  by_cases k8 : kd = 8
  · subst k8
    as_aux_lemma =>
      go_upto_region 28 with fail
      clear a0 a1 a2 a3 a4 a5 a6
      refine wp_region_held_drew (S := fun wz => Hid (Below W.heap.size W wz)) (by kernel_rfl) (hide ((Below.refl W.heap.size W).drew)) (fun hHeld => ?_)
      have X0 : Hid (Below W.heap.size W W.drew) := (Below.refl _ _).drew
      obtain ⟨wd, hwd⟩ : ∃ z, z = W.drew := ⟨_, rfl⟩
      rw [← hwd] at X0 hHeld ⊢
      clear hwd
      refine wpAnyH_take (i := 0) (oi := { dst := some 197, op := Go.Op.move (Go.Operand.tmp 0), type := 24, pos := "law.go:95", after := #[], guard := none }) (v := ?_) rfl (by kernel_rfl) (by kernel_rfl) (by kernel_rfl) (fun _ _ _ h => h) (Or.inl ⟨by rfl, ?_⟩) (by assumption) ?_
      rotate_left
      · intro w hSw
        go_simp
        try with_reducible rfl
      try simp only [Act.put, List.setIfInBounds_toArray, List.set_cons_zero, List.set_cons_succ]
      refine wpAnyH_take (i := 1) (oi := { dst := some 198, op := Go.Op.fieldAddr 31 (Go.Operand.tmp 5) 2, type := 0, pos := "law.go:95", after := #[], guard := none }) (v := ?_) rfl (by kernel_rfl) (by kernel_rfl) (by kernel_rfl) (fun _ _ _ h => h) (Or.inl ⟨by rfl, ?_⟩) (by assumption) ?_
      rotate_left
      · intro w hSw
        go_simp
        try with_reducible rfl
      try simp only [Act.put, List.setIfInBounds_toArray, List.set_cons_zero, List.set_cons_succ]
      refine wpAnyH_take (i := 4) (oi := { dst := some 201, op := Go.Op.move (Go.Operand.tmp 1), type := 33, pos := "law.go:95", after := #[], guard := none }) (v := ?_) rfl (by kernel_rfl) (by kernel_rfl) (by kernel_rfl) (fun _ _ _ h => h) (Or.inl ⟨by rfl, ?_⟩) (by assumption) ?_
      rotate_left
      · intro w hSw
        go_simp
        try with_reducible rfl
      try simp only [Act.put, List.setIfInBounds_toArray, List.set_cons_zero, List.set_cons_succ]
      refine wpAnyH_take (i := 5) (oi := { dst := some 202, op := Go.Op.fieldAddr 31 (Go.Operand.tmp 5) 2, type := 0, pos := "law.go:95", after := #[], guard := none }) (v := ?_) rfl (by kernel_rfl) (by kernel_rfl) (by kernel_rfl) (fun _ _ _ h => h) (Or.inl ⟨by rfl, ?_⟩) (by assumption) ?_
      rotate_left
      · intro w hSw
        go_simp
        try with_reducible rfl
      try simp only [Act.put, List.setIfInBounds_toArray, List.set_cons_zero, List.set_cons_succ]
      refine wpAnyH_take (i := 2) (oi := { dst := some 199, op := Go.Op.load 3 (Go.Operand.tmp 198), type := 3, pos := "law.go:95", after := #[{ on := 1, ground := Go.Ground.data }], guard := none }) (v := ?_) rfl (by kernel_rfl) (by kernel_rfl) (by kernel_rfl) (fun _ _ _ h => h) (Or.inl ⟨by rfl, ?_⟩) (by assumption) ?_
      rotate_left
      · intro w hSw
        have a2 := (K5.out.below hSw.out).cell 2 rfl
        go_simp
        try with_reducible rfl
      try simp only [Act.put, List.setIfInBounds_toArray, List.set_cons_zero, List.set_cons_succ]
      refine wpAnyH_take (i := 6) (oi := { dst := some 203, op := Go.Op.load 3 (Go.Operand.tmp 202), type := 3, pos := "law.go:95", after := #[{ on := 5, ground := Go.Ground.data }], guard := none }) (v := ?_) rfl (by kernel_rfl) (by kernel_rfl) (by kernel_rfl) (fun _ _ _ h => h) (Or.inl ⟨by rfl, ?_⟩) (by assumption) ?_
      rotate_left
      · intro w hSw
        have a2 := (K5.out.below hSw.out).cell 2 rfl
        go_simp
        try with_reducible rfl
      try simp only [Act.put, List.setIfInBounds_toArray, List.set_cons_zero, List.set_cons_succ]
      refine wpAnyH_ready (rs := [3]) (by kernel_rfl) (by simp) ?_
      refine AllReadyH.cons (o := { dst := some 200, op := Go.Op.call { callee := Go.Callee.value (Go.Operand.func 20), args := #[Go.Operand.tmp 197, Go.Operand.tmp 199], argTypes := #[24, 3] }, type := 51, pos := "law.go:95", after := #[{ on := 0, ground := Go.Ground.data }, { on := 2, ground := Go.Ground.data }], guard := none }) rfl (fun K hK => ?_) AllReadyH.nil
      go_simp
      go_at_call 20
      with_reducible refine Calls.mono (waiting_any N (by omega) (HL.out.below X0.out) sort_any) ?_
      rintro e y1 ⟨pa, pn, pc, rfl, hpn, po, D1⟩
      have X1 := hide (chain X0.out D1)
      have HPO := hide (own_rcs po)
      have HPN := hide hpn
      clear po hpn D1 hHeld
      try dsimp only
      refine hK.out _ _ X1 (fun hHeld => ?_)
      clear hK K
      try simp only [Act.put, List.setIfInBounds_toArray, List.set_cons_zero, List.set_cons_succ]
      refine wpAnyH_ready (rs := [7]) (by kernel_rfl) (by simp) ?_
      refine AllReadyH.cons (o := { dst := some 204, op := Go.Op.call { callee := Go.Callee.value (Go.Operand.func 21), args := #[Go.Operand.tmp 201, Go.Operand.tmp 203], argTypes := #[33, 3] }, type := 51, pos := "law.go:95", after := #[{ on := 4, ground := Go.Ground.data }, { on := 6, ground := Go.Ground.data }, { on := 3, ground := Go.Ground.chain }], guard := none }) rfl (fun K hK => ?_) AllReadyH.nil
      go_simp
      go_at_call 21
      with_reducible refine Calls.mono (rwaiting_any N HSM.out hn (HR.out.below X1.out)) ?_
      rintro e y2 ⟨qa, qn, qc, rfl, hqn, qo, D2⟩
      have X2 := hide (chain X1.out D2)
      have HQO := hide (own_rcs qo)
      have HQN := hide hqn
      replace HPO := hide (HPO.out.below D2)
      clear qo hqn D2 hHeld
      try dsimp only
      refine hK.out _ _ X2 (fun hHeld => ?_)
      clear hK K
      try simp only [Act.put, List.setIfInBounds_toArray, List.set_cons_zero, List.set_cons_succ]
      obtain rfl : pn = qn := HPN.out.trans HQN.out.symm
      refine wpAnyH_ready (rs := [8]) (by kernel_rfl) (by simp) ?_
      refine AllReadyH.cons (o := { dst := some 205, op := Go.Op.call { callee := Go.Callee.value (Go.Operand.func 22), args := #[Go.Operand.tmp 200, Go.Operand.tmp 204], argTypes := #[51, 51] }, type := 4, pos := "law.go:95", after := #[{ on := 3, ground := Go.Ground.data }, { on := 7, ground := Go.Ground.data }, { on := 7, ground := Go.Ground.chain }], guard := none }) rfl (fun K hK => ?_) AllReadyH.nil
      go_simp
      go_at_call 22
      with_reducible refine Calls.mono (sameInts_any HPO.out HQO.out (by have h1 := HPN.out; have h2 := wtL_len L N; omega)) ?_
      rintro e y3 ⟨rfl, D3⟩
      have X3 := hide (chain X2.out D3)
      clear D3 hHeld
      try dsimp only
      refine hK.out _ _ X3 (fun hHeld => ?_)
      clear hK K
      try simp only [Act.put, List.setIfInBounds_toArray, List.set_cons_zero, List.set_cons_succ]
      refine wpAnyH_take (i := 9) (oi := { dst := some 206, op := Go.Op.move (Go.Operand.tmp 205), type := 4, pos := "law.go:95", after := #[{ on := 8, ground := Go.Ground.data }, { on := 8, ground := Go.Ground.chain }], guard := none }) (v := ?_) rfl (by kernel_rfl) (by kernel_rfl) (by kernel_rfl) (fun _ _ _ h => h) (Or.inl ⟨by rfl, ?_⟩) (by assumption) ?_
      rotate_left
      · intro w hSw
        go_simp
        try with_reducible rfl
      try simp only [Act.put, List.setIfInBounds_toArray, List.set_cons_zero, List.set_cons_succ]
      refine wpAnyH_take (i := 10) (oi := { dst := some 207, op := Go.Op.move (Go.Operand.tmp 0), type := 24, pos := "law.go:95", after := #[{ on := 9, ground := Go.Ground.guard }], guard := some (9, true) }) (v := ?_) rfl (by kernel_rfl) (by kernel_rfl) (by kernel_rfl) (fun _ _ _ h => h) (Or.inl ⟨by rfl, ?_⟩) (by assumption) ?_
      rotate_left
      · intro w hSw
        go_simp
        try with_reducible rfl
      try simp only [Act.put, List.setIfInBounds_toArray, List.set_cons_zero, List.set_cons_succ]
      refine wpAnyH_take (i := 12) (oi := { dst := some 209, op := Go.Op.move (Go.Operand.tmp 1), type := 33, pos := "law.go:95", after := #[{ on := 9, ground := Go.Ground.guard }], guard := some (9, true) }) (v := ?_) rfl (by kernel_rfl) (by kernel_rfl) (by kernel_rfl) (fun _ _ _ h => h) (Or.inl ⟨by rfl, ?_⟩) (by assumption) ?_
      rotate_left
      · intro w hSw
        go_simp
        try with_reducible rfl
      try simp only [Act.put, List.setIfInBounds_toArray, List.set_cons_zero, List.set_cons_succ]
      refine wpAnyH_take (i := 13) (oi := { dst := some 210, op := Go.Op.nilCheck (Go.Operand.tmp 209), type := 0, pos := "law.go:95", after := #[{ on := 12, ground := Go.Ground.data }, { on := 9, ground := Go.Ground.guard }], guard := some (9, true) }) (v := ?_) rfl (by kernel_rfl) (by kernel_rfl) (by kernel_rfl) (fun _ _ _ h => h) (Or.inl ⟨by rfl, ?_⟩) (by assumption) ?_
      rotate_left
      · intro w hSw
        go_simp
        try with_reducible rfl
      try simp only [Act.put, List.setIfInBounds_toArray, List.set_cons_zero, List.set_cons_succ]
      refine wpAnyH_take (i := 14) (oi := { dst := some 211, op := Go.Op.fieldAddr 28 (Go.Operand.tmp 210) 0, type := 0, pos := "law.go:95", after := #[{ on := 13, ground := Go.Ground.data }, { on := 9, ground := Go.Ground.guard }], guard := some (9, true) }) (v := ?_) rfl (by kernel_rfl) (by kernel_rfl) (by kernel_rfl) (fun _ _ _ h => h) (Or.inl ⟨by rfl, ?_⟩) (by assumption) ?_
      rotate_left
      · intro w hSw
        go_simp
        try with_reducible rfl
      try simp only [Act.put, List.setIfInBounds_toArray, List.set_cons_zero, List.set_cons_succ]
      refine wpAnyH_take (i := 15) (oi := { dst := some 212, op := Go.Op.load 26 (Go.Operand.tmp 211), type := 26, pos := "law.go:95", after := #[{ on := 14, ground := Go.Ground.data }, { on := 9, ground := Go.Ground.guard }], guard := some (9, true) }) (v := ?_) rfl (by kernel_rfl) (by kernel_rfl) (by kernel_rfl) (fun _ _ _ h => h) (Or.inl ⟨by rfl, ?_⟩) (by assumption) ?_
      rotate_left
      · intro w hSw
        have r0 := (HR.out.below hSw.out).bk.cell 0 rfl
        go_simp
        try with_reducible rfl
      try simp only [Act.put, List.setIfInBounds_toArray, List.set_cons_zero, List.set_cons_succ]
      refine wpAnyH_take (i := 16) (oi := { dst := some 213, op := Go.Op.call { callee := Go.Callee.builtin Go.Builtin.len, args := #[Go.Operand.tmp 212], argTypes := #[26] }, type := 3, pos := "law.go:95", after := #[{ on := 15, ground := Go.Ground.data }, { on := 9, ground := Go.Ground.guard }], guard := some (9, true) }) (v := ?_) rfl (by kernel_rfl) (by kernel_rfl) (by kernel_rfl) (fun _ _ _ h => h) (Or.inl ⟨by rfl, ?_⟩) (by assumption) ?_
      rotate_left
      · intro w hSw
        go_simp
        try with_reducible rfl
      try simp only [Act.put, List.setIfInBounds_toArray, List.set_cons_zero, List.set_cons_succ]
      refine wpAnyH_ready (rs := [11]) (by kernel_rfl) (by simp) ?_
      refine AllReadyH.cons (o := { dst := some 208, op := Go.Op.call { callee := Go.Callee.value (Go.Operand.func 16), args := #[Go.Operand.tmp 207], argTypes := #[24] }, type := 3, pos := "law.go:95", after := #[{ on := 10, ground := Go.Ground.data }, { on := 9, ground := Go.Ground.chain }, { on := 9, ground := Go.Ground.guard }], guard := some (9, true) }) rfl (fun K hK => ?_) AllReadyH.nil
      go_simp
      go_at_call 16
      have HMD := hide (made_any (HL.out.below X3.out))
      rw [← HSM.out.len] at HMD
      with_reducible refine Calls.mono HMD.out ?_
      rintro e y4 ⟨rfl, rfl⟩
      clear HMD
      try dsimp only
      refine hK.out _ _ X3 (fun hHeld => ?_)
      clear hK K
      try simp only [Act.put, List.setIfInBounds_toArray, List.set_cons_zero, List.set_cons_succ]
      refine wpAnyH_take (i := 17) (oi := { dst := some 214, op := Go.Op.binOp Go.BinOp.eql 3 (Go.Operand.tmp 208) (Go.Operand.tmp 213) 3, type := 4, pos := "law.go:95", after := #[{ on := 11, ground := Go.Ground.data }, { on := 16, ground := Go.Ground.data }, { on := 9, ground := Go.Ground.guard }], guard := some (9, true) }) (v := ?_) rfl (by kernel_rfl) (by kernel_rfl) (by kernel_rfl) (fun _ _ _ h => h) (Or.inl ⟨by rfl, ?_⟩) (by assumption) ?_
      rotate_left
      · intro w hSw
        go_simp
        try with_reducible rfl
      try simp only [Act.put, List.setIfInBounds_toArray, List.set_cons_zero, List.set_cons_succ]
      refine wpAnyH_take (i := 18) (oi := { dst := some 215, op := Go.Op.pick (Go.Operand.tmp 206) (Go.Operand.tmp 214) (Go.Operand.const (Go.Value.bool false)), type := 4, pos := "law.go:95", after := #[{ on := 9, ground := Go.Ground.data }, { on := 17, ground := Go.Ground.data }], guard := none }) (v := ?_) rfl (by kernel_rfl) (by kernel_rfl) (by kernel_rfl) (fun _ _ _ h => h) (Or.inl ⟨by rfl, ?_⟩) (by assumption) ?_
      rotate_left
      · intro w hSw
        go_simp
        try with_reducible rfl
      try simp only [Act.put, List.setIfInBounds_toArray, List.set_cons_zero, List.set_cons_succ]
      refine wpAnyH_take (i := 19) (oi := { dst := some 6, op := Go.Op.assign (Go.Operand.tmp 215), type := 4, pos := "law.go:95", after := #[{ on := 18, ground := Go.Ground.data }, { on := 11, ground := Go.Ground.chain }, { on := 0, ground := Go.Ground.phase }, { on := 1, ground := Go.Ground.phase }, { on := 2, ground := Go.Ground.phase }, { on := 3, ground := Go.Ground.phase }, { on := 4, ground := Go.Ground.phase }, { on := 5, ground := Go.Ground.phase }, { on := 6, ground := Go.Ground.phase }, { on := 7, ground := Go.Ground.phase }, { on := 8, ground := Go.Ground.phase }, { on := 9, ground := Go.Ground.phase }, { on := 10, ground := Go.Ground.phase }, { on := 11, ground := Go.Ground.phase }, { on := 12, ground := Go.Ground.phase }, { on := 13, ground := Go.Ground.phase }, { on := 14, ground := Go.Ground.phase }, { on := 15, ground := Go.Ground.phase }, { on := 16, ground := Go.Ground.phase }, { on := 17, ground := Go.Ground.phase }, { on := 18, ground := Go.Ground.phase }], guard := none }) (v := ?_) rfl (by kernel_rfl) (by kernel_rfl) (by kernel_rfl) (fun _ _ _ h => h) (Or.inl ⟨by rfl, ?_⟩) (by assumption) ?_
      rotate_left
      · intro w hSw
        go_simp
        try with_reducible rfl
      try simp only [Act.put, List.setIfInBounds_toArray, List.set_cons_zero, List.set_cons_succ]
      refine wpAnyH_done (by kernel_rfl) ?_ _
      have HZ := X3
      clear hHeld
      have HL2 := hide (HL.out.below HZ.out)
      have HR2 := hide (HR.out.below HZ.out)
      have HB2 := hide (chain HB.out HZ.out)
      have HF2 := hide (HFr.out.trans (Frm.ofBelow HZ.out) (fun _ _ e => e))
      go_wp2
      go_ret
      exact ⟨rfl, L, _, _, _, ⟨HL2.out, HR2.out, HSM.out, HB2.out, HHL.out⟩, HF2.out, (fun g e => .inl e), (by omega), (fun _ => rfl)⟩
  have e8 : (kd == 8) = false := beq_eq_false_iff_ne.2 k8
  clear k8
  by_cases k9 : kd = 9
  · subst k9
    as_aux_lemma =>
      go_upto_region 30 with fail
      clear a0 a1 a2 a3 a4 a5 a6
      refine wp_region_held_drew (S := fun wz => Hid (Bk wz q5 [.int .i64 9, .bool sd, .int .i64 N, .int .i64 X, .int .i64 Y, .int .u32 (mq : Int), .string sb] 31)) (by kernel_rfl) (hide (K5.out.below (Below.refl _ _).drew)) (fun hHeld => ?_)
      obtain ⟨wd, hwd⟩ : ∃ z, z = W.drew := ⟨_, rfl⟩
      have HLd : Hid (LAt wd lb mb L) := by rw [hwd]; exact HL.out.below (Below.refl _ _).drew
      have HRd : Hid (RAt wd wb.heap.size rb va vc D) := by rw [hwd]; exact HR.out.below (Below.refl _ _).drew
      have HBd : Hid (Below wb.heap.size wb wd) := by rw [hwd]; exact HB.out.drew
      have HFd : Hid (Frm (PW lb mb rb va) w wd) := by rw [hwd]; exact HFr.out.drew
      have HKd : Hid (Bk wd q5 [.int .i64 9, .bool sd, .int .i64 N, .int .i64 X, .int .i64 Y, .int .u32 (mq : Int), .string sb] 31) := by rw [hwd]; exact K5.out.below (Below.refl _ _).drew
      rw [← hwd] at hHeld ⊢
      clear hwd HL HR HB HFr K5
      have HL := HLd
      have HR := HRd
      have HB := HBd
      have HFr := HFd
      have K5 := HKd
      clear HLd HRd HBd HFd HKd
      refine wpAnyH_take (i := 0) (oi := { dst := some 218, op := Go.Op.move (Go.Operand.tmp 0), type := 24, pos := "law.go:97", after := #[], guard := none }) (v := ?_) rfl (by kernel_rfl) (by kernel_rfl) (by kernel_rfl) (fun _ _ _ h => h) (Or.inl ⟨by rfl, ?_⟩) (by assumption) ?_
      rotate_left
      · intro w hSw
        go_simp
        try with_reducible rfl
      try simp only [Act.put, List.setIfInBounds_toArray, List.set_cons_zero, List.set_cons_succ]
      refine wpAnyH_take (i := 1) (oi := { dst := some 219, op := Go.Op.fieldAddr 31 (Go.Operand.tmp 5) 2, type := 0, pos := "law.go:97", after := #[], guard := none }) (v := ?_) rfl (by kernel_rfl) (by kernel_rfl) (by kernel_rfl) (fun _ _ _ h => h) (Or.inl ⟨by rfl, ?_⟩) (by assumption) ?_
      rotate_left
      · intro w hSw
        go_simp
        try with_reducible rfl
      try simp only [Act.put, List.setIfInBounds_toArray, List.set_cons_zero, List.set_cons_succ]
      refine wpAnyH_take (i := 4) (oi := { dst := some 222, op := Go.Op.move (Go.Operand.tmp 1), type := 33, pos := "law.go:97", after := #[], guard := none }) (v := ?_) rfl (by kernel_rfl) (by kernel_rfl) (by kernel_rfl) (fun _ _ _ h => h) (Or.inl ⟨by rfl, ?_⟩) (by assumption) ?_
      rotate_left
      · intro w hSw
        go_simp
        try with_reducible rfl
      try simp only [Act.put, List.setIfInBounds_toArray, List.set_cons_zero, List.set_cons_succ]
      refine wpAnyH_take (i := 5) (oi := { dst := some 223, op := Go.Op.fieldAddr 31 (Go.Operand.tmp 5) 2, type := 0, pos := "law.go:97", after := #[], guard := none }) (v := ?_) rfl (by kernel_rfl) (by kernel_rfl) (by kernel_rfl) (fun _ _ _ h => h) (Or.inl ⟨by rfl, ?_⟩) (by assumption) ?_
      rotate_left
      · intro w hSw
        go_simp
        try with_reducible rfl
      try simp only [Act.put, List.setIfInBounds_toArray, List.set_cons_zero, List.set_cons_succ]
      refine wpAnyH_take (i := 2) (oi := { dst := some 220, op := Go.Op.load 3 (Go.Operand.tmp 219), type := 3, pos := "law.go:97", after := #[{ on := 1, ground := Go.Ground.data }], guard := none }) (v := ?_) rfl (by kernel_rfl) (by kernel_rfl) (by kernel_rfl) (fun _ _ _ h => h) (Or.inl ⟨by rfl, ?_⟩) (by assumption) ?_
      rotate_left
      · intro w hSw
        have a2 := hSw.out.cell 2 rfl
        go_simp
        try with_reducible rfl
      try simp only [Act.put, List.setIfInBounds_toArray, List.set_cons_zero, List.set_cons_succ]
      refine wpAnyH_take (i := 6) (oi := { dst := some 224, op := Go.Op.load 3 (Go.Operand.tmp 223), type := 3, pos := "law.go:97", after := #[{ on := 5, ground := Go.Ground.data }], guard := none }) (v := ?_) rfl (by kernel_rfl) (by kernel_rfl) (by kernel_rfl) (fun _ _ _ h => h) (Or.inl ⟨by rfl, ?_⟩) (by assumption) ?_
      rotate_left
      · intro w hSw
        have a2 := hSw.out.cell 2 rfl
        go_simp
        try with_reducible rfl
      try simp only [Act.put, List.setIfInBounds_toArray, List.set_cons_zero, List.set_cons_succ]
      refine wpAnyH_ready (rs := [3]) (by kernel_rfl) (by simp) ?_
      refine AllReadyH.cons (o := { dst := some 221, op := Go.Op.call { callee := Go.Callee.value (Go.Operand.func 19), args := #[Go.Operand.tmp 218, Go.Operand.tmp 220], argTypes := #[24, 3] }, type := 3, pos := "law.go:97", after := #[{ on := 0, ground := Go.Ground.data }, { on := 2, ground := Go.Ground.data }], guard := none }) rfl (fun K hK => ?_) AllReadyH.nil
      go_simp
      go_at_call 19
      with_reducible refine Calls.mono (flush_any N (by omega) HL.out) ?_
      rintro e y1 ⟨rfl, l2, fr⟩
      have HR2 := hide (two_l HL.out HR.out fr)
      have HB2 := hide (frm_base HB.out fr (Nat.le_refl _) HHL.out.1 HHL.out.2)
      have HF2 := hide (HFr.out.trans fr (fun j _ e => .inl e))
      have K52 := hide (K5.out.frmS fr (fun e => by have h1 := HQ5.out; rcases e with e | e <;> omega))
      clear HL HR HB HFr K5 fr hHeld
      have HR := HR2
      have HB := HB2
      have HFr := HF2
      have K5 := K52
      have HL := hide l2
      clear HR2 HB2 HF2 K52 l2
      try dsimp only
      refine hK.out _ _ K5 (fun hHeld => ?_)
      clear hK K
      try simp only [Act.put, List.setIfInBounds_toArray, List.set_cons_zero, List.set_cons_succ]
      refine wpAnyH_ready (rs := [7]) (by kernel_rfl) (by simp) ?_
      refine AllReadyH.cons (o := { dst := some 225, op := Go.Op.call { callee := Go.Callee.value (Go.Operand.func 31), args := #[Go.Operand.tmp 222, Go.Operand.tmp 224], argTypes := #[33, 3] }, type := 3, pos := "law.go:97", after := #[{ on := 4, ground := Go.Ground.data }, { on := 6, ground := Go.Ground.data }, { on := 3, ground := Go.Ground.chain }], guard := none }) rfl (fun K hK => ?_) AllReadyH.nil
      go_simp
      go_at_call 31
      with_reducible refine Calls.mono (rflush_any N HSM.out hn HR.out) ?_
      rintro e y2 ⟨rfl, D2, sm, va2, vc2, r2, fr, nb⟩
      have HL2 := hide (two_r HL.out HR.out fr)
      have HB2 := hide (bel_r HB.out HR.out fr)
      have HF2 := hide (HFr.out.trans fr (fun j _ e => .inr e))
      have K52 := hide (K5.out.frmS fr (fun e => by have h1 := HQ5.out; rcases e with e | e; omega; have h2 := h1.2.2.2.2 _ e; omega))
      have HNB : Hid (∀ g, va2.map (·.block) = some g → va.map (·.block) = some g ∨ w.heap.size ≤ g) := fun g e => by
        rcases nb g e with h | h
        · exact .inl h
        · exact .inr (Nat.le_trans HFr.out.size h)
      clear HL HB HFr K5 hHeld
      have HL := HL2
      have HB := HB2
      have HFr := HF2
      have K5 := K52
      have HR2 := hide r2
      have HSM2 := hide sm
      clear HL2 HB2 HF2 K52 r2 sm fr nb HR HSM
      try dsimp only
      refine hK.out _ _ K5 (fun hHeld => ?_)
      clear hK K
      try simp only [Act.put, List.setIfInBounds_toArray, List.set_cons_zero, List.set_cons_succ]
      refine wpAnyH_take (i := 8) (oi := { dst := some 226, op := Go.Op.binOp Go.BinOp.eql 3 (Go.Operand.tmp 221) (Go.Operand.tmp 225) 3, type := 4, pos := "law.go:97", after := #[{ on := 3, ground := Go.Ground.data }, { on := 7, ground := Go.Ground.data }], guard := none }) (v := ?_) rfl (by kernel_rfl) (by kernel_rfl) (by kernel_rfl) (fun _ _ _ h => h) (Or.inl ⟨by rfl, ?_⟩) (by assumption) ?_
      rotate_left
      · intro w hSw
        go_simp
        try with_reducible rfl
      try simp only [Act.put, List.setIfInBounds_toArray, List.set_cons_zero, List.set_cons_succ]
      refine wpAnyH_take (i := 9) (oi := { dst := some 6, op := Go.Op.assign (Go.Operand.tmp 226), type := 4, pos := "law.go:97", after := #[{ on := 8, ground := Go.Ground.data }, { on := 7, ground := Go.Ground.chain }, { on := 0, ground := Go.Ground.phase }, { on := 1, ground := Go.Ground.phase }, { on := 2, ground := Go.Ground.phase }, { on := 3, ground := Go.Ground.phase }, { on := 4, ground := Go.Ground.phase }, { on := 5, ground := Go.Ground.phase }, { on := 6, ground := Go.Ground.phase }, { on := 7, ground := Go.Ground.phase }, { on := 8, ground := Go.Ground.phase }], guard := none }) (v := ?_) rfl (by kernel_rfl) (by kernel_rfl) (by kernel_rfl) (fun _ _ _ h => h) (Or.inl ⟨by rfl, ?_⟩) (by assumption) ?_
      rotate_left
      · intro w hSw
        go_simp
        try with_reducible rfl
      try simp only [Act.put, List.setIfInBounds_toArray, List.set_cons_zero, List.set_cons_succ]
      refine wpAnyH_done (by kernel_rfl) ?_ _
      clear hHeld
      go_wp2
      go_ret
      exact ⟨rfl, _, _, _, _, ⟨HL.out, HR2.out, HSM2.out, HB.out, HHL.out⟩, HFr.out, HNB.out, (by unfold fuL; dsimp only; omega), (fun h => absurd h (by decide))⟩
  have e9 : (kd == 9) = false := beq_eq_false_iff_ne.2 k9
  clear k9
  as_aux_lemma =>
    go_wp2
    go_ret
    exact ⟨rfl, L, _, _, _, ⟨HL.out, HR.out, HSM.out, HB.out, HHL.out⟩, HFr.out, (fun g e => .inl e), (by omega), (fun _ => rfl)⟩
end Go.Proofs.YtgnkmenjjmfcfaaDoor.lkPlays
