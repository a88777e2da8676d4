/-
  ferrylaw21.LinkOnce.
-/
import Derived.Test.YtgnkmenjjmfcfaaDoorLkOn
import Derived.Test.YtgnkmenjjmfcfaaDoorLkFixed
namespace Go.Proofs.YtgnkmenjjmfcfaaDoor.linkOnce
open Go.Proofs.YtgnkmenjjmfcfaaDoor Go.RowKit FerryCrc Q
set_option linter.unusedVariables false
set_option linter.unusedSimpArgs false
theorem ni : (3 : TypeId) ≠ 61 := by decide
theorem nb : (4 : TypeId) ≠ 61 := by decide
theorem nib : (3 : TypeId) ≠ 4 := by decide
theorem nbi : (4 : TypeId) ≠ 3 := by decide
theorem nio : (3 : TypeId) ≠ 31 := by decide
theorem nbo : (4 : TypeId) ≠ 31 := by decide
set_option maxRecDepth 100000 in
set_option maxHeartbeats 4000000 in
theorem law (a : Option Addr) (n c : Nat) (R : List Kp) (w : World) {E : Nat → Addr} (he : Errs w E) (hs : Rcs kpC 7 w a n c R) (hok : ∀ o ∈ R, o.ok) (hn : n ≤ 2199023255552) :
    Calls Tryd.prog 5 #[.slice a n c] w fun e w' => e = .returned (.bool true) ∧ Below w.heap.size w w' := by
  have HF := hide (fixed_any w he)
  have HV12 := hide (fun (w' : World) (b : Below w.heap.size w w') => cell_below he.v12 b)
  have HV11 := hide (fun (w' : World) (b : Below w.heap.size w w') => cell_below he.v11 b)
  have HV17 := hide (fun (w' : World) (b : Below w.heap.size w w') => cell_below he.v17 b)
  have HR := hide (fun (w' : World) (b : Below w.heap.size w w') => hs.below b)
  have HOK := hide hok
  have HRN := hide hs.size
  clear he hs hok
  go_enter Tryd.func5, Tryd.ntmps5
  go_wp2_with fail
  refine Calls.mono HF.out ?_
  rintro e w1 ⟨rfl, b⟩
  have HB0 := hide b
  clear b HF
  go_wp2_with fail
  refine Calls.mono (new_any w1) ?_
  rintro e w2 ⟨lb, mb, rfl, l1, p1, p2, b1⟩
  have HL0 := hide l1
  have HP : Hid (w.heap.size ≤ lb ∧ w.heap.size ≤ mb) := by have := HB0.out.size; exact ⟨by omega, by omega⟩
  replace HB0 := hide (chain HB0.out b1)
  clear l1 b1 p1 p2
  go_upto_region 9 with fail
  go_loopw [4, 5, 6] (fun v u s wr => ∃ (i : Nat) (T : List Int) (U : List Bool) (L : Lk), i ≤ n ∧ s = .int .i64 (i : Int) ∧ Hid (IsOwn wr w.heap.size v T) ∧ Hid (BlOwn wr w.heap.size u U) ∧ Hid (LAt wr lb mb L) ∧ Hid (Inv2 L T U) ∧ Hid (Below w.heap.size w wr) ∧ Hid (L.n ≤ i)) (fun _ _ s _ => n - (intOf s).toNat)
  case atStart =>
    exact ⟨0, [], [], ⟨0, fun _ => none⟩, Nat.zero_le _, rfl, isOwn_nil _ _, World.ownsRow_nil _ _ _ _, HL0.out, inv2_nil, HB0.out, Nat.le_refl _⟩
  case round =>
  obtain ⟨i, T, U, L, hi, rfl, HV, HU, HL, HI, HB, HTL⟩ := hrel
  clear HL0 HB0
  obtain ⟨va, vc, rfl⟩ := own_len HV.out HI.out.lenT
  obtain ⟨ua, uc, rfl⟩ := own_len HU.out HI.out.lenU
  by_cases hlt : i < n
  · --
    obtain ⟨⟨kd, sd, N, X, Y, mq, sb⟩, ho⟩ : ∃ o, R[i]? = some o := ⟨_, List.getElem?_eq_getElem (by have := HRN.out; omega)⟩
    have HO := hide (HOK.out _ (List.mem_of_getElem? ho))
    obtain ⟨b0, of0, ea, hc⟩ := (HR.out wr HB.out).at kp7 (by decide) ho
    subst ea
    have x0 := hc 0 _ rfl
    have x1 := hc 1 _ rfl
    have x2 := hc 2 _ rfl
    have x3 := hc 3 _ rfl
    have x4 := hc 4 _ rfl
    have x5 := hc 5 _ rfl
    have x6 := hc 6 _ rfl
    simp only [Nat.add_zero] at x0
    clear hc ho
    have hj1 : (i : Int) < (n : Int) := by omega
    have hj0 : ¬ (i : Int) < 0 := by omega
    obtain ⟨W, hW, B6, D6⟩ := box1 wr [.int .i64 kd, .bool sd, .int .i64 N, .int .i64 X, .int .i64 Y, .int .u32 (mq : Int), .string sb] 31
    obtain ⟨q7, hq⟩ : ∃ q, wr.heap.size = q := ⟨_, rfl⟩
    have HQ7 : Hid (lb < q7 ∧ mb < q7) := by have q1 := HL.out.lb_lt; have q2 := HL.out.mb_lt; rw [hq] at q1 q2; exact ⟨q1, q2⟩
    rw [hq] at B6
    have K7 := hide B6
    replace HL := hide (HL.out.below D6)
    replace HV := hide (HV.out.below D6)
    replace HU := hide (HU.out.below D6)
    replace HB := hide (chain HB.out D6)
    clear B6 D6
    go_upto_region 12 with fail
    try simp only [hW, hq]
    clear hW hq x0 x1 x2 x3 x4 x5 x6
    have hnL : L.n ≤ 2199023255552 := by have h2 := HTL.out; omega
    have hnL2 : (L.n : Int) ≤ 2199023255552 := by omega
    have a2 := K7.out.cell 2 rfl
    obtain ⟨th, hth⟩ : ∃ b : Bool, b = decide (fE L N = 0) := ⟨_, rfl⟩
    have HTH := hide hth
    clear hth
    go_cut [8] from 35 to 54 (fun v wz => v = .bool th ∧ Hid (Below W.heap.size W wz))
    case first =>
      as_aux_lemma =>
        by_cases hE : fE L N = 0
        · obtain ⟨k, hk, hk1, hk2, -⟩ := inv2_there HI.out HL.out.ok hE
          obtain rfl : th = true := by rw [HTH.out, decide_eq_true hE]
          clear hE HTH
          subst hk
          have f1 : (1 : Int) ≤ (k : Int) + 1 := by omega
          have f2 : (k : Int) + 1 ≤ (L.n : Int) := by omega
          have f3 : max ((k : Int) + 1) 1 = (k : Int) + 1 := by omega
          have f4 : (k : Int) < (L.n : Int) := by omega
          have f5 : ¬ (k : Int) < 0 := by omega
          obtain ⟨g, o0, ea, hc⟩ := (own_rcs HU.out).at bl1 (by decide) hk2
          subst ea
          have y0 := hc 0 _ rfl
          simp only [Nat.mul_one, Nat.add_zero] at y0
          clear hc hk2
          go_wp2
          go_meet
          case rel => exact ⟨rfl, Below.refl _ _⟩
        · obtain rfl : th = false := by rw [HTH.out, decide_eq_false hE]
          clear HTH
          rcases inv2_not HI.out hE with h | h | ⟨k, hk, hk1, hk2⟩
          · clear hE
            have f1 : ¬ (1 : Int) ≤ N := by omega
            go_wp2
            go_meet
            case rel => exact ⟨rfl, Below.refl _ _⟩
          · clear hE
            have f1 : (1 : Int) ≤ N := by omega
            have f2 : ¬ N ≤ (L.n : Int) := by omega
            go_wp2
            go_meet
            case rel => exact ⟨rfl, Below.refl _ _⟩
          · subst hk
            clear hE
            have f1 : (1 : Int) ≤ (k : Int) + 1 := by omega
            have f2 : (k : Int) + 1 ≤ (L.n : Int) := by omega
            have f3 : max ((k : Int) + 1) 1 = (k : Int) + 1 := by omega
            have f4 : (k : Int) < (L.n : Int) := by omega
            have f5 : ¬ (k : Int) < 0 := by omega
            obtain ⟨g, o0, ea, hc⟩ := (own_rcs HU.out).at bl1 (by decide) hk2
            subst ea
            have y0 := hc 0 _ rfl
            simp only [Nat.mul_one, Nat.add_zero] at y0
            clear hc hk2
            go_wp2
            go_meet
            case rel => exact ⟨rfl, Below.refl _ _⟩
    case rest =>
    obtain ⟨rfl, HBc⟩ := hcut
    obtain ⟨w3, hw⟩ : ∃ z, z = wc := ⟨_, rfl⟩
    subst hw
    replace K7 := hide (K7.out.below HBc.out)
    replace HL := hide (HL.out.below HBc.out)
    replace HV := hide (HV.out.below HBc.out)
    replace HU := hide (HU.out.below HBc.out)
    replace HB := hide (chain HB.out HBc.out)
    clear HBc a2
    have a0 := K7.out.cell 0 rfl
    have a1 := K7.out.cell 1 rfl
    have a2 := K7.out.cell 2 rfl
    have a3 := K7.out.cell 3 rfl
    have a4 := K7.out.cell 4 rfl
    have a5 := K7.out.cell 5 rfl
    have a6 := K7.out.cell 6 rfl
    by_cases k1 : kd = 1
    · subst k1
      by_cases hE : sE X Y sb = 0
      · as_aux_lemma =>
          have HS := hide (send_any (E := E) X Y sb (by omega) HO.out.2.2.2 HL.out (HV12.out _ HB.out) (HV11.out _ HB.out))
          rw [show erv E (sE X Y sb) = .nilIface by rw [hE]; rfl] at HS
          have HI0 := HI
          have HI2 := hide (inv2_send HI.out X Y sb hE)
          have HNN : Hid ((sL L X Y sb).n = L.n + 1) := by unfold Hid sL; rw [if_pos hE]
          clear HI
          go_wp2_with fail
          refine Calls.mono HS.out ?_
          rintro e w4 ⟨rfl, l, fr⟩
          have HVn := hide (step_keep ni HV.out HL.out fr)
          have HUn := hide (step_keep nb HU.out HL.out fr)
          replace K7 := hide (K7.out.frm2 fr (by have := HQ7.out; omega) (by have := HQ7.out; omega))
          replace HB := hide (frm_base HB.out fr (Nat.le_refl _) HP.out.1 HP.out.2)
          replace HL := hide l
          replace HV := HVn
          replace HU := HUn
          clear HVn HUn l fr
          clear HS a0 a1 a2 a3 a4 a5 a6
          have a0 := K7.out.cell 0 rfl
          have a1 := K7.out.cell 1 rfl
          have a2 := K7.out.cell 2 rfl
          have a3 := K7.out.cell 3 rfl
          have a4 := K7.out.cell 4 rfl
          have a5 := K7.out.cell 5 rfl
          have a6 := K7.out.cell 6 rfl
          go_upto_region 18 with (first | (at_builtin; (refine append_lits (f := iv) iv1 0 Tryd.underlying51 infoI _ rfl (.tmp 73) (.tmp 76) rfl w.heap.size (.slice va L.n vc) T rfl (HV.out.below (xnew w4 _)) w4.heap.size 1 1 [Y] rfl rfl (Bk.new w4 _ _) (iv_one _) (by decide) (by have := HI0.out.lenT; omega) (by have := HI0.out.lenT; omega) (by have h1 := HB.out.size; have h2 := (xnew w4 (.cells #[.int .i64 Y] 3)).size; omega) ?_; intro ga ca w5 k1 k2 k3; have HV5 := hide k1; have HA := step_grow ni (HV.out.below (xnew w4 _)) (HL.out.below (xnew w4 _)) (chain HB.out (xnew w4 _)) k2; have HL5 := hide HA.1; have HB5 := hide HA.2; have HU5 := hide (step_other nib (HV.out.below (xnew w4 _)) (HU.out.below (xnew w4 _)) k2); clear HA k1 k2 k3)) | (at_builtin; (refine append_lits (f := bl) bl1 false Tryd.underlying52 infoB _ rfl (.tmp 78) (.tmp 79) rfl w.heap.size (.slice ua L.n uc) U rfl (HU5.out.below (xnew w5 _)) w5.heap.size 1 1 [false] rfl rfl (Bk.new w5 _ _) (bl_one _) (by decide) (by have := HI0.out.lenU; omega) (by have := HI0.out.lenU; omega) (by have h1 := HB5.out.size; have h2 := (xnew w5 (.cells #[.bool false] 4)).size; omega) ?_; intro gb cb w6 k1 k2 k3; have HU6 := hide k1; have HA := step_grow nb (HU5.out.below (xnew w5 _)) (HL5.out.below (xnew w5 _)) (chain HB5.out (xnew w5 _)) k2; have HL6 := hide HA.1; have HB6 := hide HA.2; have HV6 := hide (step_other nbi (HU5.out.below (xnew w5 _)) (HV5.out.below (xnew w5 _)) k2); clear HA k1 k2 k3)))
          clear HV HU HL HB HV5 HU5 HL5 HB5 K7 a0 a1 a2 a3 a4 a5 a6
          have HV := HV6
          have HU := HU6
          have HL := HL6
          have HB := HB6
          clear HV6 HU6 HL6 HB6
          have HI := hide (HI2.out)
          go_wp2
          exact ⟨⟨i + 1, _, _, _, by omega, by simp, HV.out, HU.out, HL.out, HI.out, HB.out, by have h1 := HTL.out; unfold Hid; rw [HNN.out]; omega⟩, by simp [intOf]; omega⟩
      · as_aux_lemma =>
          have HS := hide (send_any (E := E) X Y sb (by omega) HO.out.2.2.2 HL.out (HV12.out _ HB.out) (HV11.out _ HB.out))
          rw [show sL L X Y sb = L by unfold sL; rw [if_neg hE], show erv E (sE X Y sb) = sent (E (sE X Y sb)) by unfold erv; rw [if_neg hE]] at HS
          unfold sent at HS
          go_wp2_with fail
          refine Calls.mono HS.out ?_
          rintro e w4 ⟨rfl, l, fr⟩
          have HVn := hide (step_keep ni HV.out HL.out fr)
          have HUn := hide (step_keep nb HU.out HL.out fr)
          replace K7 := hide (K7.out.frm2 fr (by have := HQ7.out; omega) (by have := HQ7.out; omega))
          replace HB := hide (frm_base HB.out fr (Nat.le_refl _) HP.out.1 HP.out.2)
          replace HL := hide l
          replace HV := HVn
          replace HU := HUn
          clear HVn HUn l fr
          clear HS a0 a1 a2 a3 a4 a5 a6
          go_wp2
          exact ⟨⟨i + 1, _, _, _, by omega, by simp, HV.out, HU.out, HL.out, HI.out, HB.out, by have h1 := HTL.out; unfold Hid; omega⟩, by simp [intOf]; omega⟩
    have e1 : (kd == 1) = false := beq_eq_false_iff_ne.2 k1
    clear k1
    by_cases k5 : kd = 5
    · subst k5
      by_cases hE : fE L N = 0
      · as_aux_lemma =>
          obtain rfl : th = true := by rw [HTH.out, decide_eq_true hE]
          clear HTH
          obtain ⟨k, hk, hk1, hk2, hk3⟩ := inv2_there HI.out HL.out.ok hE
          subst hk
          have HS := hide (copy_any (E := E) ((k : Int) + 1) HO.out.1.1 HO.out.1.2 (by omega) HL.out (HV17.out _ HB.out))
          rw [show erv E (fE L ((k : Int) + 1)) = .nilIface by rw [hE]; rfl] at HS
          have HI0 := HI
          have HI2 := hide (inv2_copy HI.out HL.out.ok hE)
          have HNN : Hid ((cL L ((k : Int) + 1)).n = L.n + 1) := by unfold Hid cL; rw [if_pos hE]
          obtain ⟨tt, ht⟩ : ∃ tt, (fv L ((k : Int) + 1)).t = tt := ⟨_, rfl⟩
          rw [ht] at HI2 hk3
          have HTK := hide hk3
          clear HI hk2 hk3 ht
          go_wp2_with fail
          refine Calls.mono HS.out ?_
          rintro e w4 ⟨rfl, l, fr⟩
          have HVn := hide (step_keep ni HV.out HL.out fr)
          have HUn := hide (step_keep nb HU.out HL.out fr)
          replace K7 := hide (K7.out.frm2 fr (by have := HQ7.out; omega) (by have := HQ7.out; omega))
          replace HB := hide (frm_base HB.out fr (Nat.le_refl _) HP.out.1 HP.out.2)
          replace HL := hide l
          replace HV := HVn
          replace HU := HUn
          clear HVn HUn l fr
          clear HS a0 a1 a2 a3 a4 a5 a6
          have a0 := K7.out.cell 0 rfl
          have a1 := K7.out.cell 1 rfl
          have a2 := K7.out.cell 2 rfl
          have a3 := K7.out.cell 3 rfl
          have a4 := K7.out.cell 4 rfl
          have a5 := K7.out.cell 5 rfl
          have a6 := K7.out.cell 6 rfl
          have f4 : (k : Int) < (L.n : Int) := by omega
          have f5 : ¬ (k : Int) < 0 := by omega
          obtain ⟨g, o0, ea, hc⟩ := (own_rcs HV.out).at iv1 (by decide) HTK.out
          subst ea
          have y0 := hc 0 _ rfl
          simp only [Nat.mul_one, Nat.add_zero] at y0
          clear hc
          go_upto_region 24 with (first | (at_builtin; (refine append_lits (f := iv) iv1 0 Tryd.underlying51 infoI _ rfl (.tmp 95) (.tmp 102) rfl w.heap.size (.slice (some ⟨g, o0, none⟩) L.n vc) T rfl (HV.out.below (xnew w4 _)) w4.heap.size 1 1 [tt] rfl rfl (Bk.new w4 _ _) (iv_one _) (by decide) (by have := HI0.out.lenT; omega) (by have := HI0.out.lenT; omega) (by have h1 := HB.out.size; have h2 := (xnew w4 (.cells #[.int .i64 tt] 3)).size; omega) ?_; intro ga ca w5 k1 k2 k3; have HV5 := hide k1; have HA := step_grow ni (HV.out.below (xnew w4 _)) (HL.out.below (xnew w4 _)) (chain HB.out (xnew w4 _)) k2; have HL5 := hide HA.1; have HB5 := hide HA.2; have HU5 := hide (step_other nib (HV.out.below (xnew w4 _)) (HU.out.below (xnew w4 _)) k2); clear HA k1 k2 k3)) | (at_builtin; (refine append_lits (f := bl) bl1 false Tryd.underlying52 infoB _ rfl (.tmp 104) (.tmp 105) rfl w.heap.size (.slice ua L.n uc) U rfl (HU5.out.below (xnew w5 _)) w5.heap.size 1 1 [false] rfl rfl (Bk.new w5 _ _) (bl_one _) (by decide) (by have := HI0.out.lenU; omega) (by have := HI0.out.lenU; omega) (by have h1 := HB5.out.size; have h2 := (xnew w5 (.cells #[.bool false] 4)).size; omega) ?_; intro gb cb w6 k1 k2 k3; have HU6 := hide k1; have HA := step_grow nb (HU5.out.below (xnew w5 _)) (HL5.out.below (xnew w5 _)) (chain HB5.out (xnew w5 _)) k2; have HL6 := hide HA.1; have HB6 := hide HA.2; have HV6 := hide (step_other nbi (HU5.out.below (xnew w5 _)) (HV5.out.below (xnew w5 _)) k2); clear HA k1 k2 k3)))
          clear y0 HV HU HL HB HV5 HU5 HL5 HB5 K7 a0 a1 a2 a3 a4 a5 a6
          have HV := HV6
          have HU := HU6
          have HL := HL6
          have HB := HB6
          clear HV6 HU6 HL6 HB6
          have HI := hide (HI2.out)
          go_wp2
          exact ⟨⟨i + 1, _, _, _, by omega, by simp, HV.out, HU.out, HL.out, HI.out, HB.out, by have h1 := HTL.out; unfold Hid; rw [HNN.out]; omega⟩, by simp [intOf]; omega⟩
      · as_aux_lemma =>
          obtain rfl : th = false := by rw [HTH.out, decide_eq_false hE]
          clear HTH
          have HS := hide (copy_any (E := E) N HO.out.1.1 HO.out.1.2 (by omega) HL.out (HV17.out _ HB.out))
          rw [show cL L N = L by unfold cL; rw [if_neg hE], show erv E (fE L N) = sent (E (fE L N)) by unfold erv; rw [if_neg hE]] at HS
          unfold sent at HS
          go_wp2_with fail
          refine Calls.mono HS.out ?_
          rintro e w4 ⟨rfl, l, fr⟩
          have HVn := hide (step_keep ni HV.out HL.out fr)
          have HUn := hide (step_keep nb HU.out HL.out fr)
          replace K7 := hide (K7.out.frm2 fr (by have := HQ7.out; omega) (by have := HQ7.out; omega))
          replace HB := hide (frm_base HB.out fr (Nat.le_refl _) HP.out.1 HP.out.2)
          replace HL := hide l
          replace HV := HVn
          replace HU := HUn
          clear HVn HUn l fr
          clear HS a0 a1 a2 a3 a4 a5 a6
          go_wp2
          exact ⟨⟨i + 1, _, _, _, by omega, by simp, HV.out, HU.out, HL.out, HI.out, HB.out, by have h1 := HTL.out; unfold Hid; omega⟩, by simp [intOf]; omega⟩
    have e5 : (kd == 5) = false := beq_eq_false_iff_ne.2 k5
    clear k5
    by_cases k3 : kd = 3
    · subst k3
      by_cases hE : fE L N = 0
      · as_aux_lemma =>
          obtain rfl : th = true := by rw [HTH.out, decide_eq_true hE]
          clear HTH
          obtain ⟨k, hk, hk1, hk2, hk3⟩ := inv2_there HI.out HL.out.ok hE
          subst hk
          clear hk2 hk3
          have HS := hide (take_any (E := E) ((k : Int) + 1) HO.out.1.1 HO.out.1.2 HL.out (HV17.out _ HB.out))
          rw [show erv E (fE L ((k : Int) + 1)) = .nilIface by rw [hE]; rfl] at HS
          obtain ⟨⟨xf, xt, xs, xp⟩, hX⟩ : ∃ X, fv L ((k : Int) + 1) = X := ⟨_, rfl⟩
          rw [hX] at HS
          dsimp only [Lt.a] at HS
          clear hX
          go_wp2_with fail
          refine Calls.mono HS.out ?_
          rintro e w4 ⟨rfl, l, fr⟩
          have HI0 := HI
          have HVn := hide (step_keep ni HV.out HL.out fr)
          have HUn := hide (step_keep nb HU.out HL.out fr)
          replace K7 := hide (K7.out.frm2 fr (by have := HQ7.out; omega) (by have := HQ7.out; omega))
          replace HB := hide (frm_base HB.out fr (Nat.le_refl _) HP.out.1 HP.out.2)
          replace HL := hide l
          replace HV := HVn
          replace HU := HUn
          clear HVn HUn l fr
          clear HS a0 a1 a2 a3 a4 a5 a6
          obtain ⟨W4, hW, B8, D8⟩ := box1 w4 [.int .i64 xf, .int .i64 xt, .string xs] 41
          replace K7 := hide (K7.out.below D8)
          replace HL := hide (HL.out.below D8)
          replace HV := hide (HV.out.below D8)
          replace HU := hide (HU.out.below D8)
          replace HB := hide (chain HB.out D8)
          clear B8 D8
          go_upto_region 26 with fail
          try simp only [hW]
          clear hW
          have a0 := K7.out.cell 0 rfl
          have a1 := K7.out.cell 1 rfl
          have a2 := K7.out.cell 2 rfl
          have a3 := K7.out.cell 3 rfl
          have a4 := K7.out.cell 4 rfl
          have a5 := K7.out.cell 5 rfl
          have a6 := K7.out.cell 6 rfl
          have f4 : (k : Int) < (L.n : Int) := by omega
          have f5 : ¬ (k : Int) < 0 := by omega
          obtain ⟨gu, hgu⟩ := lown_some HU.out hk1
          subst hgu
          obtain ⟨z1, z2, z3, z4, z5⟩ := LOwn.put bl1 HU.out HI.out.lenU hk1 true
          obtain ⟨⟨u0, y0⟩, x0⟩ := z1 0 (by decide)
          simp only [Nat.mul_one, Nat.add_zero] at y0 x0
          rw [Nat.mul_one] at z2 z3
          have M1 := hide (show BlOwn (W4.setCell ⟨gu, k, none⟩ (.bool true)) w.heap.size (.slice (some ⟨gu, 0, none⟩) L.n uc) (U.set k true) from z2)
          have M3 := hide (show W4.grownBy (W4.setCell ⟨gu, k, none⟩ (.bool true)) (Value.slice (some ⟨gu, 0, none⟩) L.n uc).ownBlock from z3)
          have HA := step_grow nb HU.out HL.out HB.out M3.out
          have HL5 := hide HA.1
          have HB5 := hide HA.2
          have HV5 := hide (step_other nbi HU.out HV.out M3.out)
          clear HA z1 z2 z3 z4 z5 HL HB HV HU
          have HL := HL5
          have HB := HB5
          have HV := HV5
          have HU := M1
          clear HL5 HB5 HV5 M1 M3
          have HIn := hide (inv2_spend HI.out k)
          clear HI
          have HI := HIn
          clear HIn
          go_wp2
          exact ⟨⟨i + 1, _, _, _, by omega, by simp, HV.out, HU.out, HL.out, HI.out, HB.out, by have h1 := HTL.out; unfold Hid; unfold tL; dsimp only; omega⟩, by simp [intOf]; omega⟩
      · as_aux_lemma =>
          obtain rfl : th = false := by rw [HTH.out, decide_eq_false hE]
          clear HTH
          have HS := hide (take_any (E := E) N HO.out.1.1 HO.out.1.2 HL.out (HV17.out _ HB.out))
          rw [tL_none hE, show erv E (fE L N) = sent (E (fE L N)) by unfold erv; rw [if_neg hE]] at HS
          unfold sent at HS
          obtain ⟨⟨xf, xt, xs, xp⟩, hX⟩ : ∃ X, fv L N = X := ⟨_, rfl⟩
          rw [hX] at HS
          dsimp only [Lt.a] at HS
          clear hX
          go_wp2_with fail
          refine Calls.mono HS.out ?_
          rintro e w4 ⟨rfl, l, fr⟩
          have HVn := hide (step_keep ni HV.out HL.out fr)
          have HUn := hide (step_keep nb HU.out HL.out fr)
          replace K7 := hide (K7.out.frm2 fr (by have := HQ7.out; omega) (by have := HQ7.out; omega))
          replace HB := hide (frm_base HB.out fr (Nat.le_refl _) HP.out.1 HP.out.2)
          replace HL := hide l
          replace HV := HVn
          replace HU := HUn
          clear HVn HUn l fr
          clear HS a0 a1 a2 a3 a4 a5 a6
          obtain ⟨W4, hW, B8, D8⟩ := box1 w4 [.int .i64 xf, .int .i64 xt, .string xs] 41
          replace K7 := hide (K7.out.below D8)
          replace HL := hide (HL.out.below D8)
          replace HV := hide (HV.out.below D8)
          replace HU := hide (HU.out.below D8)
          replace HB := hide (chain HB.out D8)
          clear B8 D8
          go_upto_region 26 with fail
          try simp only [hW]
          clear hW
          go_wp2
          exact ⟨⟨i + 1, _, _, _, by omega, by simp, HV.out, HU.out, HL.out, HI.out, HB.out, by have h1 := HTL.out; unfold Hid; omega⟩, by simp [intOf]; omega⟩
    have e3 : (kd == 3) = false := beq_eq_false_iff_ne.2 k3
    clear k3
    by_cases k4 : kd = 4
    · subst k4
      by_cases hE : fE L N = 0
      · as_aux_lemma =>
          obtain rfl : th = true := by rw [HTH.out, decide_eq_true hE]
          clear HTH
          obtain ⟨k, hk, hk1, hk2, hk3⟩ := inv2_there HI.out HL.out.ok hE
          subst hk
          clear hk2 hk3
          have HS := hide (drop_any (E := E) ((k : Int) + 1) HO.out.1.1 HO.out.1.2 HL.out (HV17.out _ HB.out))
          rw [show erv E (fE L ((k : Int) + 1)) = .nilIface by rw [hE]; rfl] at HS
          go_wp2_with fail
          refine Calls.mono HS.out ?_
          rintro e w4 ⟨rfl, l, fr⟩
          have HI0 := HI
          have HVn := hide (step_keep ni HV.out HL.out fr)
          have HUn := hide (step_keep nb HU.out HL.out fr)
          replace K7 := hide (K7.out.frm2 fr (by have := HQ7.out; omega) (by have := HQ7.out; omega))
          replace HB := hide (frm_base HB.out fr (Nat.le_refl _) HP.out.1 HP.out.2)
          replace HL := hide l
          replace HV := HVn
          replace HU := HUn
          clear HVn HUn l fr
          clear HS a0 a1 a2 a3 a4 a5 a6
          have a0 := K7.out.cell 0 rfl
          have a1 := K7.out.cell 1 rfl
          have a2 := K7.out.cell 2 rfl
          have a3 := K7.out.cell 3 rfl
          have a4 := K7.out.cell 4 rfl
          have a5 := K7.out.cell 5 rfl
          have a6 := K7.out.cell 6 rfl
          have f4 : (k : Int) < (L.n : Int) := by omega
          have f5 : ¬ (k : Int) < 0 := by omega
          obtain ⟨gu, hgu⟩ := lown_some HU.out hk1
          subst hgu
          obtain ⟨z1, z2, z3, z4, z5⟩ := LOwn.put bl1 HU.out HI.out.lenU hk1 true
          obtain ⟨⟨u0, y0⟩, x0⟩ := z1 0 (by decide)
          simp only [Nat.mul_one, Nat.add_zero] at y0 x0
          rw [Nat.mul_one] at z2 z3
          have M1 := hide (show BlOwn (w4.setCell ⟨gu, k, none⟩ (.bool true)) w.heap.size (.slice (some ⟨gu, 0, none⟩) L.n uc) (U.set k true) from z2)
          have M3 := hide (show w4.grownBy (w4.setCell ⟨gu, k, none⟩ (.bool true)) (Value.slice (some ⟨gu, 0, none⟩) L.n uc).ownBlock from z3)
          have HA := step_grow nb HU.out HL.out HB.out M3.out
          have HL5 := hide HA.1
          have HB5 := hide HA.2
          have HV5 := hide (step_other nbi HU.out HV.out M3.out)
          clear HA z1 z2 z3 z4 z5 HL HB HV HU
          have HL := HL5
          have HB := HB5
          have HV := HV5
          have HU := M1
          clear HL5 HB5 HV5 M1 M3
          have HIn := hide (inv2_spend HI.out k)
          clear HI
          have HI := HIn
          clear HIn
          go_wp2
          exact ⟨⟨i + 1, _, _, _, by omega, by simp, HV.out, HU.out, HL.out, HI.out, HB.out, by have h1 := HTL.out; unfold Hid; unfold tL; dsimp only; omega⟩, by simp [intOf]; omega⟩
      · as_aux_lemma =>
          obtain rfl : th = false := by rw [HTH.out, decide_eq_false hE]
          clear HTH
          have HS := hide (drop_any (E := E) N HO.out.1.1 HO.out.1.2 HL.out (HV17.out _ HB.out))
          rw [tL_none hE, show erv E (fE L N) = sent (E (fE L N)) by unfold erv; rw [if_neg hE]] at HS
          unfold sent at HS
          go_wp2_with fail
          refine Calls.mono HS.out ?_
          rintro e w4 ⟨rfl, l, fr⟩
          have HVn := hide (step_keep ni HV.out HL.out fr)
          have HUn := hide (step_keep nb HU.out HL.out fr)
          replace K7 := hide (K7.out.frm2 fr (by have := HQ7.out; omega) (by have := HQ7.out; omega))
          replace HB := hide (frm_base HB.out fr (Nat.le_refl _) HP.out.1 HP.out.2)
          replace HL := hide l
          replace HV := HVn
          replace HU := HUn
          clear HVn HUn l fr
          clear HS a0 a1 a2 a3 a4 a5 a6
          go_wp2
          exact ⟨⟨i + 1, _, _, _, by omega, by simp, HV.out, HU.out, HL.out, HI.out, HB.out, by have h1 := HTL.out; unfold Hid; omega⟩, by simp [intOf]; omega⟩
    have e4 : (kd == 4) = false := beq_eq_false_iff_ne.2 k4
    clear k4
    by_cases k9 : kd = 9
    · subst k9
      as_aux_lemma =>
        go_upto_region 38 with fail
        generalize w3 = W3 at *
        go_loopw [15, 16] (fun nn s wr => ∃ (k : Nat) (V : List Bool), k ≤ L.n ∧ s = .int .i64 (k : Int) ∧ nn = .int .i64 ((cnt L N k : Nat) : Int) ∧ Hid (BlOwn wr w.heap.size (.slice ua L.n uc) V) ∧ Hid (Fl L N U V k) ∧ Hid (W3.grownBy wr (Value.slice ua L.n uc).ownBlock)) (fun _ s _ => L.n - (intOf s).toNat)
        case atStart => exact ⟨0, U, Nat.zero_le _, rfl, rfl, HU.out, fl_start _ _ _, grw_refl _ _⟩
        case round =>
        obtain ⟨k, V, hk, rfl, rfl, HM, HFl, HG⟩ := hrel
        have HVr := hide (step_other nbi HU.out HV.out HG.out)
        have K7r := hide (step_box nbo HU.out K7.out HG.out)
        by_cases hkL : k < L.n
        · --
          obtain ⟨t, s, ht, hs⟩ := inv2_get HI.out hkL
          have hw := wtP_at HI.out ht hs N
          have hv : V[k]? = some s := (fl_now HFl.out).trans hs
          have HVL : Hid (V.length = L.n) := by have h1 := HFl.out.len; have h2 := HI.out.lenU; unfold Hid; omega
          have hkU : k < U.length := by have h2 := HI.out.lenU; omega
          have hcs := cnt_succ L N k
          have hcl := cnt_le L N k
          have f1 : (k : Int) < (L.n : Int) := by omega
          have f2 : ¬ (k : Int) < 0 := by omega
          have f3 : ((cnt L N k : Nat) : Int) ≤ 2199023255552 := by omega
          obtain ⟨gu, hgu⟩ := lown_some HM.out hkL
          subst hgu
          obtain ⟨g, o0, ea, hc⟩ := (own_rcs HVr.out).at iv1 (by decide) ht
          subst ea
          have y0 := hc 0 _ rfl
          simp only [Nat.mul_one, Nat.add_zero] at y0
          clear hc
          obtain ⟨g', o', ea, hc⟩ := (own_rcs HM.out).at bl1 (by decide) hv
          simp only [Option.some.injEq, Addr.mk.injEq, and_true] at ea
          obtain ⟨rfl, rfl⟩ := ea
          have y1 := hc 0 _ rfl
          simp only [Nat.mul_one, Nat.add_zero, Nat.zero_add] at y1
          clear hc
          have b2 := K7r.out.cell 2 rfl
          have HMd := hide (HM.out.below (Below.refl wr.heap.size wr).drew)
          have HGd := hide (grw_trans HG.out (show wr.grownBy wr.drew (Value.slice (some ⟨gu, 0, none⟩) L.n uc).ownBlock from ⟨rfl, rfl, rfl, Nat.le_refl _, fun _ _ _ => rfl⟩))
          cases s with
          | true =>
            have hw0 : wtP L N ((k : Int) + 1) = false := by rw [hw]; simp
            rw [hw0] at hcs
            have HF2 := hide (fl_no HFl.out hw0)
            have HC : Hid (cnt L N (k + 1) = cnt L N k) := hide (by simpa using hcs)
            clear hw hw0 hcs hv hs
            by_cases htN : t = N
            · have e1 : (t == N) = true := beq_iff_eq.2 htN
              clear htN
              go_upto_region 40 with fail
              go_region
              go_wp2
              exact ⟨⟨k + 1, V, by omega, by simp, by rw [HC.out], HMd.out, HF2.out, HGd.out⟩, by simp [intOf]; omega⟩
            · have e1 : (t == N) = false := beq_eq_false_iff_ne.2 htN
              clear htN
              go_upto_region 40 with fail
              go_region
              go_wp2
              exact ⟨⟨k + 1, V, by omega, by simp, by rw [HC.out], HMd.out, HF2.out, HGd.out⟩, by simp [intOf]; omega⟩
          | false =>
            by_cases htN : t = N
            · have hw0 : wtP L N ((k : Int) + 1) = true := by rw [hw, decide_eq_true htN]; rfl
              rw [hw0] at hcs
              have HF2 := hide (fl_yes HFl.out hkU hw0)
              have HC : Hid (cnt L N (k + 1) = cnt L N k + 1) := hide (by simpa using hcs)
              have e1 : (t == N) = true := beq_iff_eq.2 htN
              clear hw hw0 hcs hv hs htN
              obtain ⟨z1, z2, z3, z4, z5⟩ := LOwn.put bl1 HMd.out HVL.out hkL true
              obtain ⟨-, x0⟩ := z1 0 (by decide)
              simp only [Nat.mul_one, Nat.add_zero] at x0
              rw [Nat.mul_one] at z2 z3
              have M1 := hide (show BlOwn (wr.drew.setCell ⟨gu, k, none⟩ (.bool true)) w.heap.size (.slice (some ⟨gu, 0, none⟩) L.n uc) (V.set k true) from z2)
              have M3 := hide (grw_trans HGd.out (show wr.drew.grownBy (wr.drew.setCell ⟨gu, k, none⟩ (.bool true)) (Value.slice (some ⟨gu, 0, none⟩) L.n uc).ownBlock from z3))
              clear z1 z2 z3 z4 z5
              go_upto_region 40 with fail
              go_region
              go_wp2
              exact ⟨⟨k + 1, V.set k true, by omega, by simp, by rw [HC.out]; simp, M1.out, HF2.out, M3.out⟩, by simp [intOf]; omega⟩
            · have hw0 : wtP L N ((k : Int) + 1) = false := by rw [hw, decide_eq_false htN]; rfl
              rw [hw0] at hcs
              have HF2 := hide (fl_no HFl.out hw0)
              have HC : Hid (cnt L N (k + 1) = cnt L N k) := hide (by simpa using hcs)
              have e1 : (t == N) = false := beq_eq_false_iff_ne.2 htN
              clear hw hw0 hcs hv hs htN
              go_upto_region 40 with fail
              go_region
              go_wp2
              exact ⟨⟨k + 1, V, by omega, by simp, by rw [HC.out], HMd.out, HF2.out, HGd.out⟩, by simp [intOf]; omega⟩
        obtain rfl : k = L.n := by omega
        have hnk : ¬ (L.n : Int) < (L.n : Int) := by omega
        have HA := step_grow nb HU.out HL.out HB.out HG.out
        have HLr := hide HA.1
        have HBr := hide HA.2
        have HI2 := hide (inv2_flush HI.out HL.out.ok HFl.out)
        rw [cnt_all]
        clear HA HV HU HL HB K7 HG HFl HI a0 a1 a2 a3 a4 a5 a6
        have HS := hide (flush_any N (by omega) HLr.out)
        have b2 := K7r.out.cell 2 rfl
        go_wp2_with fail
        refine Calls.mono HS.out ?_
        rintro e w4 ⟨rfl, l, fr⟩
        have HV := hide (step_keep ni HVr.out HLr.out fr)
        have HU := hide (step_keep nb HM.out HLr.out fr)
        have HB := hide (frm_base HBr.out fr (Nat.le_refl _) HP.out.1 HP.out.2)
        have HL := hide l
        have HI := HI2
        clear l fr HVr HM HLr HBr HI2 HS b2 K7r hnk
        go_wp2
        exact ⟨⟨i + 1, _, _, _, by omega, by simp, HV.out, HU.out, HL.out, HI.out, HB.out, by have h1 := HTL.out; unfold Hid fuL; dsimp only; omega⟩, by simp [intOf]; omega⟩
    have e9 : (kd == 9) = false := beq_eq_false_iff_ne.2 k9
    clear k9
    as_aux_lemma =>
      clear a1 a2 a3 a4 a5 a6
      go_wp2
      exact ⟨⟨i + 1, _, _, _, by omega, by simp, HV.out, HU.out, HL.out, HI.out, HB.out, by have h1 := HTL.out; unfold Hid; omega⟩, by simp [intOf]; omega⟩
  · --
    obtain rfl : n = i := by omega
    have hnk : ¬ (n : Int) < (n : Int) := by omega
    have hnL : L.n ≤ 2199023255552 := by have h2 := HTL.out; omega
    have hnL2 : (L.n : Int) ≤ 2199023255552 := by omega
    go_wp2_with fail
    refine Calls.mono (waiting_any 0 (by omega) HL.out sort_any) ?_
    rintro e w3 ⟨aa, na, ca, rfl, -, o, b⟩
    have HL1 := hide (HL.out.below b)
    have HV1 := hide (HV.out.below b)
    have HU1 := hide (HU.out.below b)
    have HB1 := hide (chain HB.out b)
    have HA := hide (own_rcs o)
    clear HL HV HU HB b o
    go_wp2_with fail
    refine Calls.mono (waiting_any 1 (by omega) HL1.out sort_any) ?_
    rintro e w4 ⟨ab, nb', cb, rfl, -, o, b⟩
    have HL := hide (HL1.out.below b)
    have HV := hide (HV1.out.below b)
    have HU := hide (HU1.out.below b)
    have HB := hide (chain HB1.out b)
    replace HA := hide (HA.out.below b)
    have HBs := hide (own_rcs o)
    clear HL1 HV1 HU1 HB1 b o
    rw [← rst_zero] at HA HBs
    go_upto_region 47 with fail
    go_loopw [17, 18, 19] (fun p q s wr => ∃ (k : Nat) (aa : Option Addr) (na ca : Nat) (ab : Option Addr) (nb' cb : Nat), k ≤ L.n ∧ s = .int .i64 (k : Int) ∧ p = .slice aa na ca ∧ q = .slice ab nb' cb ∧ Hid (Rcs iv 1 wr aa na ca (rst L 0 k)) ∧ Hid (Rcs iv 1 wr ab nb' cb (rst L 1 k)) ∧ Hid (Below w4.heap.size w4 wr)) (fun _ _ s _ => L.n - (intOf s).toNat)
    case atStart => exact ⟨0, aa, na, ca, ab, nb', cb, Nat.zero_le _, rfl, rfl, rfl, HA.out, HBs.out, Below.refl _ _⟩
    case round =>
    obtain ⟨k, pa, pn, pc, qa, qn, qc, hk, rfl, rfl, rfl, HPa, HQa, HBk⟩ := hrel
    clear HA HBs
    by_cases hkL : k < L.n
    · --
      obtain ⟨t, s, ht, hs⟩ := inv2_get HI.out hkL
      have hw0 := wtP_at HI.out ht hs 0
      have hw1 := wtP_at HI.out ht hs 1
      have hr0 := rst_step L 0 hkL
      have hr1 := rst_step L 1 hkL
      rw [hw0] at hr0
      rw [hw1] at hr1
      have f1 : (k : Int) < (L.n : Int) := by omega
      have f2 : ¬ (k : Int) < 0 := by omega
      obtain ⟨g, o0, ea, hc⟩ := (own_rcs (HV.out.below HBk.out)).at iv1 (by decide) ht
      subst ea
      have y0 := hc 0 _ rfl
      simp only [Nat.mul_one, Nat.add_zero] at y0
      clear hc
      obtain ⟨g', o', ea, hc⟩ := (own_rcs (HU.out.below HBk.out)).at bl1 (by decide) hs
      subst ea
      have y1 := hc 0 _ rfl
      simp only [Nat.mul_one, Nat.add_zero] at y1
      clear hc
      cases s with
      | true =>
        as_aux_lemma =>
          simp only [Bool.not_true, Bool.and_false, Bool.false_eq_true, if_false] at hr0 hr1
          rw [hr0] at HPa
          rw [hr1] at HQa
          clear hw0 hw1 hr0 hr1 ht hs
          go_wp2
          exact ⟨⟨k + 1, _, _, _, _, _, _, by omega, by simp, rfl, rfl, HPa.out, HQa.out, HBk.out⟩, by simp [intOf]; omega⟩
      | false =>
        rcases HI.out.rng t (List.mem_of_getElem? ht) with rfl | rfl
        · as_aux_lemma =>
            simp at hr0 hr1
            rw [hr0] at HPa
            rw [hr1] at HQa
            obtain ⟨m, rfl⟩ : ∃ m, pn = m + 1 := ⟨pn - 1, by have := HPa.out.size; rw [List.length_cons] at this; omega⟩
            obtain ⟨c', rfl⟩ : ∃ c', pc = c' + 1 := ⟨pc - 1, by have := HPa.out.row.fit; omega⟩
            obtain ⟨gp, op, ea, hc⟩ := HPa.out.at iv1 (by decide) (k := 0) rfl
            subst ea
            have y2 := hc 0 _ rfl
            simp only [Nat.zero_mul, Nat.add_zero] at y2
            clear hc
            have HT := hide (rcs_tail2 HPa.out)
            have hm := HPa.out.row.fit
            have hm0 : (m : Int) + 1 ≤ (c' : Int) + 1 := by omega
            clear hw0 hw1 hr0 hr1 ht hs
            go_wp2
            exact ⟨⟨k + 1, _, m, c', qa, qn, qc, by omega, by simp, rfl, rfl, HT.out, HQa.out, HBk.out⟩, by simp [intOf]; omega⟩
        · as_aux_lemma =>
            simp at hr0 hr1
            rw [hr0] at HPa
            rw [hr1] at HQa
            obtain ⟨m, rfl⟩ : ∃ m, qn = m + 1 := ⟨qn - 1, by have := HQa.out.size; rw [List.length_cons] at this; omega⟩
            obtain ⟨c', rfl⟩ : ∃ c', qc = c' + 1 := ⟨qc - 1, by have := HQa.out.row.fit; omega⟩
            obtain ⟨gp, op, ea, hc⟩ := HQa.out.at iv1 (by decide) (k := 0) rfl
            subst ea
            have y2 := hc 0 _ rfl
            simp only [Nat.zero_mul, Nat.add_zero] at y2
            clear hc
            have HT := hide (rcs_tail2 HQa.out)
            have hm := HQa.out.row.fit
            have hm0 : (m : Int) + 1 ≤ (c' : Int) + 1 := by omega
            clear hw0 hw1 hr0 hr1 ht hs
            go_wp2
            exact ⟨⟨k + 1, pa, pn, pc, _, m, c', by omega, by simp, rfl, rfl, HPa.out, HT.out, HBk.out⟩, by simp [intOf]; omega⟩
    · as_aux_lemma =>
        obtain rfl : k = L.n := by omega
        have hnk2 : ¬ (L.n : Int) < (L.n : Int) := by omega
        rw [rst_end] at HPa HQa
        obtain rfl : 0 = pn := HPa.out.size
        obtain rfl : 0 = qn := HQa.out.size
        have HM := hide (made_any (HL.out.below HBk.out))
        have HZ := hide (chain HB.out HBk.out)
        go_wp2_with fail
        refine Calls.mono HM.out ?_
        rintro e wz ⟨rfl, rfl⟩
        go_wp2
        go_ret
        exact ⟨rfl, HZ.out⟩
end Go.Proofs.YtgnkmenjjmfcfaaDoor.linkOnce
