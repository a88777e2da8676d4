/-
  ferrylaw21.LinkNear.
-/
import Derived.Test.YtgnkmenjjmfcfaaDoorLkNr
import Derived.Test.YtgnkmenjjmfcfaaDoorLkFixed
namespace Go.Proofs.YtgnkmenjjmfcfaaDoor.linkNear
open Go.Proofs.YtgnkmenjjmfcfaaDoor Go.RowKit FerryCrc Q
set_option linter.unusedVariables false
set_option linter.unusedSimpArgs false
theorem step_app {w0 w w' : World} {lb mb : Nat} {v : Value} {S : List Lt} {L : Lk} (hV : SOwn w w0.heap.size v S) (hL : LAt w lb mb L) (hB : Below w0.heap.size w0 w) (hg : w.grownBy w' v.ownBlock) : LAt w' lb mb L ∧ Below w0.heap.size w0 w' :=
  ⟨hL.frm (frm_grown hg) (fun e => (sown_apart hV hL e).1 rfl) (fun e => (sown_apart hV hL e).2 rfl), bel_grown hB hg (Nat.le_refl _) (fun b e => (World.ownsRow.lt hV b e).1)⟩
theorem step_call {w w' : World} {base lb mb : Nat} {v : Value} {S : List Lt} {L : Lk} (hV : SOwn w base v S) (hL : LAt w lb mb L) (hf : Frm (TwoB lb mb) w w') : SOwn w' base v S :=
  hV.frm hf (fun g e h => by rcases h with h | h; exact (sown_apart hV hL e).1 h; exact (sown_apart hV hL e).2 h)
theorem heldT {w : World} {q6 q11 g o0 k m c base : Nat} {c6 : List Value} {xf xt : Int} {xs ys : ByteArray} {yp : Bool} {S : List Lt} {t6 : TypeId} (h6 : Bk w q6 c6 t6) (h2 : c6[2]? = some (.int .i64 ((k : Int) + 1))) (h11 : Bk w q11 [.int .i64 xf, .int .i64 xt, .string xs] 41) (hS : SOwn w base (.slice (some ⟨g, o0, none⟩) m c) S) (hy : S[k]? = some ⟨xf, xt, ys, yp⟩) : w.cell? ⟨q6, 2, none⟩ = some (.int .i64 ((k : Int) + 1)) ∧ w.cell? ⟨q11, 0, none⟩ = some (.int .i64 xf) ∧ w.cell? ⟨q11, 1, none⟩ = some (.int .i64 xt) ∧ w.cell? ⟨q11, 2, none⟩ = some (.string xs) ∧ w.cell? ⟨g, o0 + k * 3, none⟩ = some (.int .i64 xf) ∧ w.cell? ⟨g, o0 + k * 3 + 1, none⟩ = some (.int .i64 xt) ∧ w.cell? ⟨g, o0 + k * 3 + 2, none⟩ = some (.string ys) := by
  obtain ⟨g', o', ea, hc⟩ := (own_rcs hS).at l33 (by decide) hy
  simp only [Option.some.injEq, Addr.mk.injEq, and_true] at ea
  obtain ⟨rfl, rfl⟩ := ea
  exact ⟨h6.cell 2 h2, h11.cell 0 rfl, h11.cell 1 rfl, h11.cell 2 rfl, hc 0 _ rfl, hc 1 _ rfl, hc 2 _ rfl⟩
set_option maxRecDepth 100000 in
set_option maxHeartbeats 4000000 in
theorem law (a : Option Addr) (n c : Nat) (R : List Kp) (w : World) {E : Nat → Addr} (he : Errs w E) (hs : Rcs kpC 7 w a n c R) (hok : ∀ o ∈ R, o.ok) (hn : n ≤ 2199023255552) :
    Calls Tryd.prog 4 #[.slice a n c] w fun e w' => e = .returned (.bool true) ∧ Below w.heap.size w w' := by
  have HF := hide (fixed_any w he)
  have HV12 := hide (fun (w' : World) (b : Below w.heap.size w w') => cell_below he.v12 b)
  have HV11 := hide (fun (w' : World) (b : Below w.heap.size w w') => cell_below he.v11 b)
  have HV17 := hide (fun (w' : World) (b : Below w.heap.size w w') => cell_below he.v17 b)
  have HR := hide (fun (w' : World) (b : Below w.heap.size w w') => hs.below b)
  have HOK := hide hok
  have HRN := hide hs.size
  clear he hs hok
  go_enter Tryd.func4, Tryd.ntmps4
  go_wp2_with fail
  refine Calls.mono HF.out ?_
  rintro e w1 ⟨rfl, b⟩
  have HB0 := hide b
  clear b HF
  go_wp2_with fail
  refine Calls.mono (new_any w1) ?_
  rintro e w2 ⟨lb, mb, rfl, l1, p1, p2, b1⟩
  have HL0 := hide l1
  have HP : Hid (w.heap.size ≤ lb ∧ w.heap.size ≤ mb) := by have := HB0.out.size; exact ⟨by omega, by omega⟩
  replace HB0 := hide (chain HB0.out b1)
  clear l1 b1 p1 p2
  go_upto_region 8 with fail
  go_loopw [4, 5] (fun v s wr => ∃ (i : Nat) (S : List Lt) (L : Lk), i ≤ n ∧ s = .int .i64 (i : Int) ∧ Hid (SOwn wr w.heap.size v S) ∧ Hid (LAt wr lb mb L) ∧ Hid (Inv L S) ∧ Hid (Below w.heap.size w wr) ∧ Hid (S.length ≤ i)) (fun _ s _ => n - (intOf s).toNat)
  case atStart =>
    exact ⟨0, [], ⟨0, fun _ => none⟩, Nat.zero_le _, rfl, World.ownsRow_nil _ _ _ _, HL0.out, inv_nil, HB0.out, Nat.le_refl _⟩
  case round =>
  obtain ⟨i, S, L, hi, rfl, HV, HL, HI, HB, HSL⟩ := hrel
  clear HL0 HB0
  obtain ⟨va, vc, rfl⟩ := own_len HV.out rfl
  by_cases hlt : i < n
  · --
    obtain ⟨⟨kd, sd, N, X, Y, mq, sb⟩, ho⟩ : ∃ o, R[i]? = some o := ⟨_, List.getElem?_eq_getElem (by have := HRN.out; omega)⟩
    have HO := hide (HOK.out _ (List.mem_of_getElem? ho))
    obtain ⟨b0, of0, ea, hc⟩ := (HR.out wr HB.out).at kp7 (by decide) ho
    subst ea
    have x0 := hc 0 _ rfl
    have x1 := hc 1 _ rfl
    have x2 := hc 2 _ rfl
    have x3 := hc 3 _ rfl
    have x4 := hc 4 _ rfl
    have x5 := hc 5 _ rfl
    have x6 := hc 6 _ rfl
    simp only [Nat.add_zero] at x0
    clear hc ho
    have hj1 : (i : Int) < (n : Int) := by omega
    have hj0 : ¬ (i : Int) < 0 := by omega
    obtain ⟨W, hW, B6, D6⟩ := box1 wr [.int .i64 kd, .bool sd, .int .i64 N, .int .i64 X, .int .i64 Y, .int .u32 (mq : Int), .string sb] 31
    obtain ⟨q6, hq⟩ : ∃ q, wr.heap.size = q := ⟨_, rfl⟩
    have HQ6 : Hid (lb < q6 ∧ mb < q6) := by have q1 := HL.out.lb_lt; have q2 := HL.out.mb_lt; rw [hq] at q1 q2; exact ⟨q1, q2⟩
    rw [hq] at B6
    have K6 := hide B6
    replace HL := hide (HL.out.below D6)
    replace HV := hide (HV.out.below D6)
    replace HB := hide (chain HB.out D6)
    clear B6 D6
    go_upto_region 11 with fail
    try simp only [hW, hq]
    clear hW hq x0 x1 x2 x3 x4 x5 x6

    have hnL : L.n ≤ 4611686018427387904 := by have h1 := HI.out.len; have h2 := HSL.out; omega
    have a0 := K6.out.cell 0 rfl
    have a1 := K6.out.cell 1 rfl
    have a2 := K6.out.cell 2 rfl
    have a3 := K6.out.cell 3 rfl
    have a4 := K6.out.cell 4 rfl
    have a5 := K6.out.cell 5 rfl
    have a6 := K6.out.cell 6 rfl
    by_cases k1 : kd = 1
    · subst k1
      by_cases hE : sE X Y sb = 0
      · as_aux_lemma =>
          have HS := hide (send_any (E := E) X Y sb hnL HO.out.2.2.2 HL.out (HV12.out _ HB.out) (HV11.out _ HB.out))
          have HI2 := hide (inv_send HI.out HL.out.ok X Y sb hE)
          rw [show sN L X Y sb = (S.length : Int) + 1 by unfold sN; rw [if_pos hE, HI.out.len], show erv E (sE X Y sb) = .nilIface by rw [hE]; rfl] at HS
          go_wp2_with fail
          refine Calls.mono HS.out ?_
          rintro e w3 ⟨rfl, l, fr⟩
          replace K6 := hide (K6.out.frm2 fr (by have := HQ6.out; omega) (by have := HQ6.out; omega))
          have HVn := hide (step_call HV.out HL.out fr)
          replace HB := hide (frm_base HB.out fr (Nat.le_refl _) HP.out.1 HP.out.2)
          replace HL := hide l
          replace HV := HVn
          clear HVn l fr
          clear HS HI a0 a1 a2 a3 a4 a5 a6
          have a0 := K6.out.cell 0 rfl
          have a1 := K6.out.cell 1 rfl
          have a2 := K6.out.cell 2 rfl
          have a3 := K6.out.cell 3 rfl
          have a4 := K6.out.cell 4 rfl
          have a5 := K6.out.cell 5 rfl
          have a6 := K6.out.cell 6 rfl
          have HI := HI2
          clear HI2
          go_upto_region 16 with (at_builtin; (refine append_l3 _ rfl (.tmp 50) (.tmp 58) rfl w.heap.size (.slice va S.length vc) S rfl (HV.out.below (xnew w3 _)) w3.heap.size 1 ⟨X, Y, sb, false⟩ rfl (Bk.new w3 _ _) (by have h1 := HSL.out; omega) (by have h1 := HB.out.size; have h2 := (xnew w3 (.cells #[.int .i64 X, .int .i64 Y, .string sb] 41)).size; omega) ?_; intro ga ca w4 k1 k2; have HV4 := hide k1; have HG4 := hide k2; clear k1 k2))
          have HA := step_app (HV.out.below (xnew w3 _)) (HL.out.below (xnew w3 _)) (chain HB.out (xnew w3 _)) HG4.out
          have HL4 := hide HA.1
          have HB4 := hide HA.2
          clear HA HL HB HV HG4 K6 a0 a1 a2 a3 a4 a5 a6
          have HL := HL4
          have HB := HB4
          have HV := HV4
          clear HL4 HB4 HV4
          go_upto_region 32 with fail
          have HM := hide (made_any HL.out)
          rw [← HI.out.len] at HM
          go_wp2_with fail
          refine Calls.mono HM.out ?_
          rintro e wz ⟨rfl, rfl⟩
          clear HM
          go_wp2
          exact ⟨⟨i + 1, _, _, by omega, by simp, HV.out, HL.out, HI.out, HB.out, by have h1 := HSL.out; unfold Hid; rw [List.length_append, List.length_singleton]; omega⟩, by simp [intOf]; omega⟩
      · as_aux_lemma =>
          have HS := hide (send_any (E := E) X Y sb hnL HO.out.2.2.2 HL.out (HV12.out _ HB.out) (HV11.out _ HB.out))
          rw [show sL L X Y sb = L by unfold sL; rw [if_neg hE], show erv E (sE X Y sb) = sent (E (sE X Y sb)) by unfold erv; rw [if_neg hE]] at HS
          unfold sent at HS
          go_wp2_with fail
          refine Calls.mono HS.out ?_
          rintro e w3 ⟨rfl, l, fr⟩
          have HVn := hide (step_call HV.out HL.out fr)
          replace HB := hide (frm_base HB.out fr (Nat.le_refl _) HP.out.1 HP.out.2)
          replace HL := hide l
          replace HV := HVn
          clear HVn l fr
          clear HS a0 a1 a2 a3 a4 a5 a6
          go_upto_region 32 with fail
          have HM := hide (made_any HL.out)
          rw [← HI.out.len] at HM
          go_wp2_with fail
          refine Calls.mono HM.out ?_
          rintro e wz ⟨rfl, rfl⟩
          clear HM
          go_wp2
          exact ⟨⟨i + 1, _, _, by omega, by simp, HV.out, HL.out, HI.out, HB.out, by have h1 := HSL.out; unfold Hid; omega⟩, by simp [intOf]; omega⟩
    have e1 : (kd == 1) = false := beq_eq_false_iff_ne.2 k1
    clear k1
    by_cases k5 : kd = 5
    · subst k5
      by_cases hE : fE L N = 0
      · as_aux_lemma =>
          obtain ⟨⟨g1, g2⟩, ⟨yf, yt, ys, yp⟩, hy, hI2⟩ := inv_copy HI.out HL.out.ok N hE
          have HI2 := hide hI2
          clear hI2
          obtain ⟨k, rfl⟩ : ∃ k : Nat, N = (k : Int) + 1 := ⟨(N - 1).toNat, by omega⟩
          rw [show ((k : Int) + 1 - 1).toNat = k by omega] at hy
          have HY := hide hy
          clear hy
          have HS := hide (copy_any (E := E) ((k : Int) + 1) HO.out.1.1 HO.out.1.2 hnL HL.out (HV17.out _ HB.out))
          rw [show cN L ((k : Int) + 1) = (S.length : Int) + 1 by unfold cN; rw [if_pos hE, HI.out.len], show erv E (fE L ((k : Int) + 1)) = .nilIface by rw [hE]; rfl] at HS
          go_wp2_with fail
          refine Calls.mono HS.out ?_
          rintro e w3 ⟨rfl, l, fr⟩
          replace K6 := hide (K6.out.frm2 fr (by have := HQ6.out; omega) (by have := HQ6.out; omega))
          have HVn := hide (step_call HV.out HL.out fr)
          replace HB := hide (frm_base HB.out fr (Nat.le_refl _) HP.out.1 HP.out.2)
          replace HL := hide l
          replace HV := HVn
          clear HVn l fr
          clear HS a0 a1 a2 a3 a4 a5 a6
          have a0 := K6.out.cell 0 rfl
          have a1 := K6.out.cell 1 rfl
          have a2 := K6.out.cell 2 rfl
          have a3 := K6.out.cell 3 rfl
          have a4 := K6.out.cell 4 rfl
          have a5 := K6.out.cell 5 rfl
          have a6 := K6.out.cell 6 rfl
          have hk1 : ¬ (k : Int) + 1 < 1 := by omega
          have hk2 : ¬ (S.length : Int) < (k : Int) + 1 := by have := HI.out.len; omega
          have hkS : k < S.length := (List.getElem?_eq_some_iff.1 HY.out).1
          have hk3 : (k : Int) < (S.length : Int) := by omega
          have hk4 : ¬ (k : Int) < 0 := by omega
          have hSb : (S.length : Int) ≤ 2199023255552 := by have := HSL.out; omega
          replace HI := HI2
          clear HI2
          go_upto_region 23 with fail
          obtain ⟨g, o0, ea, hc⟩ := (own_rcs HV.out).at l33 (by decide) HY.out
          subst ea
          have y0 := hc 0 _ rfl
          have y1 := hc 1 _ rfl
          have y2 := hc 2 _ rfl
          simp only [Nat.add_zero] at y0
          clear hc
          go_upto_region 24 with (at_builtin; (refine append_l3 _ rfl (.tmp 92) (.tmp 99) rfl w.heap.size (.slice (some ⟨g, o0, none⟩) S.length vc) S rfl (HV.out.below (xnew w3 _)) w3.heap.size 1 ⟨yf, yt, ys, yp⟩ rfl (Bk.new w3 _ _) (by have h1 := HSL.out; omega) (by have h1 := HB.out.size; have h2 := (xnew w3 (.cells #[.int .i64 yf, .int .i64 yt, .string ys] 41)).size; omega) ?_; intro ga ca w4 k1 k2; have HV4 := hide k1; have HG4 := hide k2; clear k1 k2))
          have HA := step_app (HV.out.below (xnew w3 _)) (HL.out.below (xnew w3 _)) (chain HB.out (xnew w3 _)) HG4.out
          have HL4 := hide HA.1
          have HB4 := hide HA.2
          clear HA HL HB HV HG4 K6 a0 a1 a2 a3 a4 a5 a6 y0 y1 y2
          have HL := HL4
          have HB := HB4
          have HV := HV4
          clear HL4 HB4 HV4
          go_upto_region 32 with fail
          have HM := hide (made_any HL.out)
          rw [← HI.out.len] at HM
          go_wp2_with fail
          refine Calls.mono HM.out ?_
          rintro e wz ⟨rfl, rfl⟩
          clear HM
          go_wp2
          exact ⟨⟨i + 1, _, _, by omega, by simp, HV.out, HL.out, HI.out, HB.out, by have h1 := HSL.out; unfold Hid; rw [List.length_append, List.length_singleton]; omega⟩, by simp [intOf]; omega⟩
      · as_aux_lemma =>
          have HS := hide (copy_any (E := E) N HO.out.1.1 HO.out.1.2 hnL HL.out (HV17.out _ HB.out))
          rw [show cL L N = L by unfold cL; rw [if_neg hE], show erv E (fE L N) = sent (E (fE L N)) by unfold erv; rw [if_neg hE]] at HS
          unfold sent at HS
          go_wp2_with fail
          refine Calls.mono HS.out ?_
          rintro e w3 ⟨rfl, l, fr⟩
          have HVn := hide (step_call HV.out HL.out fr)
          replace HB := hide (frm_base HB.out fr (Nat.le_refl _) HP.out.1 HP.out.2)
          replace HL := hide l
          replace HV := HVn
          clear HVn l fr
          clear HS a0 a1 a2 a3 a4 a5 a6
          go_upto_region 32 with fail
          have HM := hide (made_any HL.out)
          rw [← HI.out.len] at HM
          go_wp2_with fail
          refine Calls.mono HM.out ?_
          rintro e wz ⟨rfl, rfl⟩
          clear HM
          go_wp2
          exact ⟨⟨i + 1, _, _, by omega, by simp, HV.out, HL.out, HI.out, HB.out, by have h1 := HSL.out; unfold Hid; omega⟩, by simp [intOf]; omega⟩
    have e5 : (kd == 5) = false := beq_eq_false_iff_ne.2 k5
    clear k5
    by_cases k6 : kd = 6
    · subst k6
      as_aux_lemma =>
        have HS := hide (trim_any (E := E) N HO.out.1.1 HO.out.1.2 X hnL HL.out (HV17.out _ HB.out) (HV12.out _ HB.out))
        go_wp2_with fail
        refine Calls.mono HS.out ?_
        rintro e w3 ⟨rfl, l, fr⟩
        have HVn := hide (step_call HV.out HL.out fr)
        replace HB := hide (frm_base HB.out fr (Nat.le_refl _) HP.out.1 HP.out.2)
        replace HL := hide l
        replace HV := HVn
        clear HVn l fr
        replace HI := hide (inv_trim HI.out N X)
        clear HS a0 a1 a2 a3 a4 a5 a6
        go_upto_region 32 with fail
        have HM := hide (made_any HL.out)
        rw [← HI.out.len] at HM
        go_wp2_with fail
        refine Calls.mono HM.out ?_
        rintro e wz ⟨rfl, rfl⟩
        clear HM
        go_wp2
        exact ⟨⟨i + 1, _, _, by omega, by simp, HV.out, HL.out, HI.out, HB.out, by have h1 := HSL.out; unfold Hid; omega⟩, by simp [intOf]; omega⟩
    have e6 : (kd == 6) = false := beq_eq_false_iff_ne.2 k6
    clear k6
    by_cases k7 : kd = 7
    · subst k7
      as_aux_lemma =>
        have HS := hide (flip_any (E := E) N HO.out.1.1 HO.out.1.2 X mq HO.out.2.2.1 hnL HL.out (HV17.out _ HB.out) (HV12.out _ HB.out))
        go_wp2_with fail
        refine Calls.mono HS.out ?_
        rintro e w3 ⟨rfl, l, fr⟩
        have HVn := hide (step_call HV.out HL.out fr)
        replace HB := hide (frm_base HB.out fr (Nat.le_refl _) HP.out.1 HP.out.2)
        replace HL := hide l
        replace HV := HVn
        clear HVn l fr
        replace HI := hide (inv_flip HI.out N X mq HO.out.2.2.1)
        clear HS a0 a1 a2 a3 a4 a5 a6
        go_upto_region 32 with fail
        have HM := hide (made_any HL.out)
        rw [← HI.out.len] at HM
        go_wp2_with fail
        refine Calls.mono HM.out ?_
        rintro e wz ⟨rfl, rfl⟩
        clear HM
        go_wp2
        exact ⟨⟨i + 1, _, _, by omega, by simp, HV.out, HL.out, HI.out, HB.out, by have h1 := HSL.out; unfold Hid; omega⟩, by simp [intOf]; omega⟩
    have e7 : (kd == 7) = false := beq_eq_false_iff_ne.2 k7
    clear k7
    by_cases k3 : kd = 3
    · subst k3
      by_cases hE : fE L N = 0
      · as_aux_lemma =>
          obtain ⟨⟨g1, g2⟩, ⟨yf, yt, ys, yp⟩, hy, q1, q2, q3, q4, q5⟩ := inv_at HI.out HL.out.ok HL.out.sz N hE
          obtain ⟨k, rfl⟩ : ∃ k : Nat, N = (k : Int) + 1 := ⟨(N - 1).toNat, by omega⟩
          rw [show ((k : Int) + 1 - 1).toNat = k by omega] at hy
          have HY := hide hy
          clear hy
          have HS := hide (take_any (E := E) ((k : Int) + 1) HO.out.1.1 HO.out.1.2 HL.out (HV17.out _ HB.out))
          rw [show erv E (fE L ((k : Int) + 1)) = .nilIface by rw [hE]; rfl] at HS
          obtain ⟨⟨xf, xt, xs, xp⟩, hX⟩ : ∃ X, fv L ((k : Int) + 1) = X := ⟨_, rfl⟩
          rw [hX] at HS q1 q2 q4 q5
          dsimp only at q1 q2 q3 q4 q5
          subst q1 q2
          dsimp only [Lt.a] at HS
          have HNR := hide (fun w' : World => near_any ys xs _ (nr_bne2 q5) q3 q4 w')
          clear q3 q4 q5 hX
          go_wp2_with fail
          refine Calls.mono HS.out ?_
          rintro e w3 ⟨rfl, l, fr⟩
          replace K6 := hide (K6.out.frm2 fr (by have := HQ6.out; omega) (by have := HQ6.out; omega))
          have HVn := hide (step_call HV.out HL.out fr)
          replace HB := hide (frm_base HB.out fr (Nat.le_refl _) HP.out.1 HP.out.2)
          replace HL := hide l
          replace HV := HVn
          clear HVn l fr
          clear HS a0 a1 a2 a3 a4 a5 a6
          replace HI := hide (inv_take HI.out ((k : Int) + 1))
          obtain ⟨W4, hW, B8, D8⟩ := box1 w3 [.int .i64 xf, .int .i64 xt, .string xs] 41
          obtain ⟨q11, hq⟩ : ∃ q, w3.heap.size = q := ⟨_, rfl⟩
          rw [hq] at B8
          have K11 := hide B8
          replace K6 := hide (K6.out.below D8)
          replace HL := hide (HL.out.below D8)
          replace HV := hide (HV.out.below D8)
          replace HB := hide (chain HB.out D8)
          clear B8 D8
          go_upto_region 30 with fail
          try simp only [hW, hq]
          clear hW hq
          have hk1 : ¬ (k : Int) + 1 < 1 := by omega
          have hkS : k < S.length := (List.getElem?_eq_some_iff.1 HY.out).1
          have hk2 : ¬ (S.length : Int) < (k : Int) + 1 := by omega
          have hk3 : (k : Int) < (S.length : Int) := by omega
          have hk4 : ¬ (k : Int) < 0 := by omega
          have hSb : (S.length : Int) ≤ 2199023255552 := by have := HSL.out; omega
          obtain ⟨g, o0, ea, hc⟩ := (own_rcs HV.out).at l33 (by decide) HY.out
          subst ea
          clear hc
          have HCS : Hid (∀ w' : World, Below W4.heap.size W4 w' → w'.cell? ⟨g, o0 + k * 3, none⟩ = some (.int .i64 xf) ∧ w'.cell? ⟨g, o0 + k * 3 + 1, none⟩ = some (.int .i64 xt) ∧ w'.cell? ⟨g, o0 + k * 3 + 2, none⟩ = some (.string ys)) := fun w' D => by
            obtain ⟨_, _, _, _, h5, h6, h7⟩ := heldT (K6.out.below D) rfl (K11.out.below D) (HV.out.below D) HY.out
            exact ⟨h5, h6, h7⟩
          have hwk : IntKind.i64.wrap (k : Int) = (k : Int) := by rw [IntKind.wrap_i64]; omega
          refine wp_region_held_drew (S := fun wz => Hid (Below W4.heap.size W4 wz)) (by kernel_rfl) (hide ((Below.refl W4.heap.size W4).drew)) (fun hHeld => ?_)
          have X0 : Hid (Below W4.heap.size W4 W4.drew) := (Below.refl _ _).drew
          obtain ⟨wd, hwd⟩ : ∃ z, z = W4.drew := ⟨_, rfl⟩
          rw [← hwd] at X0 hHeld ⊢
          clear hwd
          refine wpAnyH_take (i := 0) (oi := { dst := some 128, op := Go.Op.move (Go.Operand.tmp 12), type := 37, pos := "law.go:189", after := #[], guard := none }) (v := ?_) rfl (by kernel_rfl) (by kernel_rfl) (by kernel_rfl) (fun _ _ _ h => h) (Or.inl ⟨by rfl, ?_⟩) (by assumption) ?_
          rotate_left
          · intro w hSw
            go_simp
            try with_reducible rfl
          try simp only [Act.put, List.setIfInBounds_toArray, List.set_cons_zero, List.set_cons_succ]
          refine wpAnyH_take (i := 1) (oi := { dst := some 129, op := Go.Op.binOp Go.BinOp.eql 37 (Go.Operand.tmp 128) (Go.Operand.const Go.Value.nilIface) 37, type := 4, pos := "law.go:189", after := #[{ on := 0, ground := Go.Ground.data }], guard := none }) (v := ?_) rfl (by kernel_rfl) (by kernel_rfl) (by kernel_rfl) (fun _ _ _ h => h) (Or.inl ⟨by rfl, ?_⟩) (by assumption) ?_
          rotate_left
          · intro w hSw
            go_simp
            try with_reducible rfl
          try simp only [Act.put, List.setIfInBounds_toArray, List.set_cons_zero, List.set_cons_succ]
          refine wpAnyH_take (i := 2) (oi := { dst := some 130, op := Go.Op.move (Go.Operand.tmp 129), type := 4, pos := "law.go:189", after := #[{ on := 1, ground := Go.Ground.data }], guard := none }) (v := ?_) rfl (by kernel_rfl) (by kernel_rfl) (by kernel_rfl) (fun _ _ _ h => h) (Or.inl ⟨by rfl, ?_⟩) (by assumption) ?_
          rotate_left
          · intro w hSw
            go_simp
            try with_reducible rfl
          try simp only [Act.put, List.setIfInBounds_toArray, List.set_cons_zero, List.set_cons_succ]
          refine wpAnyH_take (i := 3) (oi := { dst := some 131, op := Go.Op.fieldAddr 31 (Go.Operand.tmp 6) 2, type := 0, pos := "law.go:189", after := #[{ on := 2, ground := Go.Ground.guard }], guard := some (2, true) }) (v := ?_) rfl (by kernel_rfl) (by kernel_rfl) (by kernel_rfl) (fun _ _ _ h => h) (Or.inl ⟨by rfl, ?_⟩) (by assumption) ?_
          rotate_left
          · intro w hSw
            go_simp
            try with_reducible rfl
          try simp only [Act.put, List.setIfInBounds_toArray, List.set_cons_zero, List.set_cons_succ]
          refine wpAnyH_take (i := 4) (oi := { dst := some 132, op := Go.Op.load 3 (Go.Operand.tmp 131), type := 3, pos := "law.go:189", after := #[{ on := 3, ground := Go.Ground.data }, { on := 2, ground := Go.Ground.guard }], guard := some (2, true) }) (v := ?_) rfl (by kernel_rfl) (by kernel_rfl) (by kernel_rfl) (fun _ _ _ h => h) (Or.inl ⟨by rfl, ?_⟩) (by assumption) ?_
          rotate_left
          · intro w hSw
            have a2 := (K6.out.below hSw.out).cell 2 rfl
            go_simp
            try with_reducible rfl
          try simp only [Act.put, List.setIfInBounds_toArray, List.set_cons_zero, List.set_cons_succ]
          refine wpAnyH_take (i := 5) (oi := { dst := some 133, op := Go.Op.binOp Go.BinOp.lss 3 (Go.Operand.tmp 132) (Go.Operand.const (Go.Value.int Go.IntKind.i64 1)) 3, type := 4, pos := "law.go:189", after := #[{ on := 4, ground := Go.Ground.data }, { on := 2, ground := Go.Ground.guard }], guard := some (2, true) }) (v := ?_) rfl (by kernel_rfl) (by kernel_rfl) (by kernel_rfl) (fun _ _ _ h => h) (Or.inl ⟨by rfl, ?_⟩) (by assumption) ?_
          rotate_left
          · intro w hSw
            go_simp
            try with_reducible rfl
          try simp only [Act.put, List.setIfInBounds_toArray, List.set_cons_zero, List.set_cons_succ]
          refine wpAnyH_take (i := 6) (oi := { dst := some 134, op := Go.Op.move (Go.Operand.tmp 133), type := 4, pos := "law.go:189", after := #[{ on := 5, ground := Go.Ground.data }, { on := 2, ground := Go.Ground.chain }, { on := 2, ground := Go.Ground.guard }], guard := some (2, true) }) (v := ?_) rfl (by kernel_rfl) (by kernel_rfl) (by kernel_rfl) (fun _ _ _ h => h) (Or.inl ⟨by rfl, ?_⟩) (by assumption) ?_
          rotate_left
          · intro w hSw
            go_simp
            try with_reducible rfl
          try simp only [Act.put, List.setIfInBounds_toArray, List.set_cons_zero, List.set_cons_succ]
          refine wpAnyH_take (i := 7) (oi := { dst := some 135, op := Go.Op.fieldAddr 31 (Go.Operand.tmp 6) 2, type := 0, pos := "law.go:189", after := #[{ on := 6, ground := Go.Ground.guard }], guard := some (6, false) }) (v := ?_) rfl (by kernel_rfl) (by kernel_rfl) (by kernel_rfl) (fun _ _ _ h => h) (Or.inl ⟨by rfl, ?_⟩) (by assumption) ?_
          rotate_left
          · intro w hSw
            go_simp
            try with_reducible rfl
          try simp only [Act.put, List.setIfInBounds_toArray, List.set_cons_zero, List.set_cons_succ]
          refine wpAnyH_take (i := 8) (oi := { dst := some 136, op := Go.Op.load 3 (Go.Operand.tmp 135), type := 3, pos := "law.go:189", after := #[{ on := 7, ground := Go.Ground.data }, { on := 6, ground := Go.Ground.guard }], guard := some (6, false) }) (v := ?_) rfl (by kernel_rfl) (by kernel_rfl) (by kernel_rfl) (fun _ _ _ h => h) (Or.inl ⟨by rfl, ?_⟩) (by assumption) ?_
          rotate_left
          · intro w hSw
            have a2 := (K6.out.below hSw.out).cell 2 rfl
            go_simp
            try with_reducible rfl
          try simp only [Act.put, List.setIfInBounds_toArray, List.set_cons_zero, List.set_cons_succ]
          refine wpAnyH_take (i := 9) (oi := { dst := some 137, op := Go.Op.move (Go.Operand.tmp 4), type := 35, pos := "law.go:189", after := #[{ on := 6, ground := Go.Ground.guard }], guard := some (6, false) }) (v := ?_) rfl (by kernel_rfl) (by kernel_rfl) (by kernel_rfl) (fun _ _ _ h => h) (Or.inl ⟨by rfl, ?_⟩) (by assumption) ?_
          rotate_left
          · intro w hSw
            go_simp
            try with_reducible rfl
          try simp only [Act.put, List.setIfInBounds_toArray, List.set_cons_zero, List.set_cons_succ]
          refine wpAnyH_take (i := 10) (oi := { dst := some 138, op := Go.Op.call { callee := Go.Callee.builtin Go.Builtin.len, args := #[Go.Operand.tmp 137], argTypes := #[35] }, type := 3, pos := "law.go:189", after := #[{ on := 9, ground := Go.Ground.data }, { on := 6, ground := Go.Ground.guard }], guard := some (6, false) }) (v := ?_) rfl (by kernel_rfl) (by kernel_rfl) (by kernel_rfl) (fun _ _ _ h => h) (Or.inl ⟨by rfl, ?_⟩) (by assumption) ?_
          rotate_left
          · intro w hSw
            go_simp
            try with_reducible rfl
          try simp only [Act.put, List.setIfInBounds_toArray, List.set_cons_zero, List.set_cons_succ]
          refine wpAnyH_take (i := 11) (oi := { dst := some 139, op := Go.Op.binOp Go.BinOp.gtr 3 (Go.Operand.tmp 136) (Go.Operand.tmp 138) 3, type := 4, pos := "law.go:189", after := #[{ on := 8, ground := Go.Ground.data }, { on := 10, ground := Go.Ground.data }, { on := 6, ground := Go.Ground.guard }], guard := some (6, false) }) (v := ?_) rfl (by kernel_rfl) (by kernel_rfl) (by kernel_rfl) (fun _ _ _ h => h) (Or.inl ⟨by rfl, ?_⟩) (by assumption) ?_
          rotate_left
          · intro w hSw
            go_simp
            try with_reducible rfl
          try simp only [Act.put, List.setIfInBounds_toArray, List.set_cons_zero, List.set_cons_succ]
          refine wpAnyH_take (i := 12) (oi := { dst := some 140, op := Go.Op.pick (Go.Operand.tmp 134) (Go.Operand.const (Go.Value.bool true)) (Go.Operand.tmp 139), type := 4, pos := "law.go:189", after := #[{ on := 6, ground := Go.Ground.data }, { on := 11, ground := Go.Ground.data }, { on := 2, ground := Go.Ground.guard }], guard := some (2, true) }) (v := ?_) rfl (by kernel_rfl) (by kernel_rfl) (by kernel_rfl) (fun _ _ _ h => h) (Or.inl ⟨by rfl, ?_⟩) (by assumption) ?_
          rotate_left
          · intro w hSw
            go_simp
            try with_reducible rfl
          try simp only [Act.put, List.setIfInBounds_toArray, List.set_cons_zero, List.set_cons_succ]
          refine wpAnyH_take (i := 13) (oi := { dst := some 141, op := Go.Op.move (Go.Operand.tmp 140), type := 4, pos := "law.go:189", after := #[{ on := 12, ground := Go.Ground.data }, { on := 6, ground := Go.Ground.chain }, { on := 2, ground := Go.Ground.guard }], guard := some (2, true) }) (v := ?_) rfl (by kernel_rfl) (by kernel_rfl) (by kernel_rfl) (fun _ _ _ h => h) (Or.inl ⟨by rfl, ?_⟩) (by assumption) ?_
          rotate_left
          · intro w hSw
            go_simp
            try with_reducible rfl
          try simp only [Act.put, List.setIfInBounds_toArray, List.set_cons_zero, List.set_cons_succ]
          refine wpAnyH_take (i := 14) (oi := { dst := some 142, op := Go.Op.fieldAddr 41 (Go.Operand.tmp 11) 0, type := 0, pos := "law.go:189", after := #[{ on := 13, ground := Go.Ground.guard }], guard := some (13, false) }) (v := ?_) rfl (by kernel_rfl) (by kernel_rfl) (by kernel_rfl) (fun _ _ _ h => h) (Or.inl ⟨by rfl, ?_⟩) (by assumption) ?_
          rotate_left
          · intro w hSw
            go_simp
            try with_reducible rfl
          try simp only [Act.put, List.setIfInBounds_toArray, List.set_cons_zero, List.set_cons_succ]
          refine wpAnyH_take (i := 15) (oi := { dst := some 143, op := Go.Op.load 3 (Go.Operand.tmp 142), type := 3, pos := "law.go:189", after := #[{ on := 14, ground := Go.Ground.data }, { on := 13, ground := Go.Ground.guard }], guard := some (13, false) }) (v := ?_) rfl (by kernel_rfl) (by kernel_rfl) (by kernel_rfl) (fun _ _ _ h => h) (Or.inl ⟨by rfl, ?_⟩) (by assumption) ?_
          rotate_left
          · intro w hSw
            have b0 := (K11.out.below hSw.out).cell 0 rfl
            go_simp
            try with_reducible rfl
          try simp only [Act.put, List.setIfInBounds_toArray, List.set_cons_zero, List.set_cons_succ]
          refine wpAnyH_take (i := 16) (oi := { dst := some 144, op := Go.Op.move (Go.Operand.tmp 4), type := 35, pos := "law.go:189", after := #[{ on := 13, ground := Go.Ground.guard }], guard := some (13, false) }) (v := ?_) rfl (by kernel_rfl) (by kernel_rfl) (by kernel_rfl) (fun _ _ _ h => h) (Or.inl ⟨by rfl, ?_⟩) (by assumption) ?_
          rotate_left
          · intro w hSw
            go_simp
            try with_reducible rfl
          try simp only [Act.put, List.setIfInBounds_toArray, List.set_cons_zero, List.set_cons_succ]
          refine wpAnyH_take (i := 17) (oi := { dst := some 145, op := Go.Op.fieldAddr 31 (Go.Operand.tmp 6) 2, type := 0, pos := "law.go:189", after := #[{ on := 13, ground := Go.Ground.guard }], guard := some (13, false) }) (v := ?_) rfl (by kernel_rfl) (by kernel_rfl) (by kernel_rfl) (fun _ _ _ h => h) (Or.inl ⟨by rfl, ?_⟩) (by assumption) ?_
          rotate_left
          · intro w hSw
            go_simp
            try with_reducible rfl
          try simp only [Act.put, List.setIfInBounds_toArray, List.set_cons_zero, List.set_cons_succ]
          refine wpAnyH_take (i := 18) (oi := { dst := some 146, op := Go.Op.load 3 (Go.Operand.tmp 145), type := 3, pos := "law.go:189", after := #[{ on := 17, ground := Go.Ground.data }, { on := 13, ground := Go.Ground.guard }], guard := some (13, false) }) (v := ?_) rfl (by kernel_rfl) (by kernel_rfl) (by kernel_rfl) (fun _ _ _ h => h) (Or.inl ⟨by rfl, ?_⟩) (by assumption) ?_
          rotate_left
          · intro w hSw
            have a2 := (K6.out.below hSw.out).cell 2 rfl
            go_simp
            try with_reducible rfl
          try simp only [Act.put, List.setIfInBounds_toArray, List.set_cons_zero, List.set_cons_succ]
          refine wpAnyH_take (i := 19) (oi := { dst := some 147, op := Go.Op.binOp Go.BinOp.sub 3 (Go.Operand.tmp 146) (Go.Operand.const (Go.Value.int Go.IntKind.i64 1)) 3, type := 3, pos := "law.go:189", after := #[{ on := 18, ground := Go.Ground.data }, { on := 13, ground := Go.Ground.guard }], guard := some (13, false) }) (v := ?_) rfl (by kernel_rfl) (by kernel_rfl) (by kernel_rfl) (fun _ _ _ h => h) (Or.inl ⟨by rfl, ?_⟩) (by assumption) ?_
          rotate_left
          · intro w hSw
            go_simp
            try with_reducible rfl
          try simp only [Act.put, List.setIfInBounds_toArray, List.set_cons_zero, List.set_cons_succ]
          refine wpAnyH_take (i := 20) (oi := { dst := some 148, op := Go.Op.indexAddr 35 (Go.Operand.tmp 144) (Go.Operand.tmp 147), type := 0, pos := "law.go:189", after := #[{ on := 16, ground := Go.Ground.data }, { on := 19, ground := Go.Ground.data }, { on := 13, ground := Go.Ground.guard }], guard := some (13, false) }) (v := ?_) rfl (by kernel_rfl) (by kernel_rfl) (by kernel_rfl) (fun _ _ _ h => h) (Or.inl ⟨by rfl, ?_⟩) (by assumption) ?_
          rotate_left
          · intro w hSw
            go_simp
            try with_reducible rfl
          try simp only [Act.put, List.setIfInBounds_toArray, List.set_cons_zero, List.set_cons_succ]
          refine wpAnyH_take (i := 21) (oi := { dst := some 149, op := Go.Op.fieldAddr 41 (Go.Operand.tmp 148) 0, type := 0, pos := "law.go:189", after := #[{ on := 20, ground := Go.Ground.data }, { on := 13, ground := Go.Ground.guard }], guard := some (13, false) }) (v := ?_) rfl (by kernel_rfl) (by kernel_rfl) (by kernel_rfl) (fun _ _ _ h => h) (Or.inl ⟨by rfl, ?_⟩) (by assumption) ?_
          rotate_left
          · intro w hSw
            go_simp
            try with_reducible rfl
          try simp only [Act.put, List.setIfInBounds_toArray, List.set_cons_zero, List.set_cons_succ]
          refine wpAnyH_take (i := 22) (oi := { dst := some 150, op := Go.Op.load 3 (Go.Operand.tmp 149), type := 3, pos := "law.go:189", after := #[{ on := 21, ground := Go.Ground.data }, { on := 13, ground := Go.Ground.guard }], guard := some (13, false) }) (v := ?_) rfl (by kernel_rfl) (by kernel_rfl) (by kernel_rfl) (fun _ _ _ h => h) (Or.inl ⟨by rfl, ?_⟩) (by assumption) ?_
          rotate_left
          · intro w hSw
            have d0 := (HCS.out _ hSw.out).1
            go_simp
            try with_reducible rfl
          try simp only [Act.put, List.setIfInBounds_toArray, List.set_cons_zero, List.set_cons_succ]
          refine wpAnyH_take (i := 23) (oi := { dst := some 151, op := Go.Op.binOp Go.BinOp.neq 3 (Go.Operand.tmp 143) (Go.Operand.tmp 150) 3, type := 4, pos := "law.go:189", after := #[{ on := 15, ground := Go.Ground.data }, { on := 22, ground := Go.Ground.data }, { on := 13, ground := Go.Ground.guard }], guard := some (13, false) }) (v := ?_) rfl (by kernel_rfl) (by kernel_rfl) (by kernel_rfl) (fun _ _ _ h => h) (Or.inl ⟨by rfl, ?_⟩) (by assumption) ?_
          rotate_left
          · intro w hSw
            go_simp
            try with_reducible rfl
          try simp only [Act.put, List.setIfInBounds_toArray, List.set_cons_zero, List.set_cons_succ]
          refine wpAnyH_take (i := 24) (oi := { dst := some 152, op := Go.Op.pick (Go.Operand.tmp 141) (Go.Operand.const (Go.Value.bool true)) (Go.Operand.tmp 151), type := 4, pos := "law.go:189", after := #[{ on := 13, ground := Go.Ground.data }, { on := 23, ground := Go.Ground.data }, { on := 2, ground := Go.Ground.guard }], guard := some (2, true) }) (v := ?_) rfl (by kernel_rfl) (by kernel_rfl) (by kernel_rfl) (fun _ _ _ h => h) (Or.inl ⟨by rfl, ?_⟩) (by assumption) ?_
          rotate_left
          · intro w hSw
            go_simp
            try with_reducible rfl
          try simp only [Act.put, List.setIfInBounds_toArray, List.set_cons_zero, List.set_cons_succ]
          refine wpAnyH_take (i := 25) (oi := { dst := some 153, op := Go.Op.move (Go.Operand.tmp 152), type := 4, pos := "law.go:189", after := #[{ on := 24, ground := Go.Ground.data }, { on := 13, ground := Go.Ground.chain }, { on := 2, ground := Go.Ground.guard }], guard := some (2, true) }) (v := ?_) rfl (by kernel_rfl) (by kernel_rfl) (by kernel_rfl) (fun _ _ _ h => h) (Or.inl ⟨by rfl, ?_⟩) (by assumption) ?_
          rotate_left
          · intro w hSw
            go_simp
            try with_reducible rfl
          try simp only [Act.put, List.setIfInBounds_toArray, List.set_cons_zero, List.set_cons_succ]
          refine wpAnyH_take (i := 26) (oi := { dst := some 154, op := Go.Op.fieldAddr 41 (Go.Operand.tmp 11) 1, type := 0, pos := "law.go:189", after := #[{ on := 25, ground := Go.Ground.guard }], guard := some (25, false) }) (v := ?_) rfl (by kernel_rfl) (by kernel_rfl) (by kernel_rfl) (fun _ _ _ h => h) (Or.inl ⟨by rfl, ?_⟩) (by assumption) ?_
          rotate_left
          · intro w hSw
            go_simp
            try with_reducible rfl
          try simp only [Act.put, List.setIfInBounds_toArray, List.set_cons_zero, List.set_cons_succ]
          refine wpAnyH_take (i := 27) (oi := { dst := some 155, op := Go.Op.load 3 (Go.Operand.tmp 154), type := 3, pos := "law.go:189", after := #[{ on := 26, ground := Go.Ground.data }, { on := 25, ground := Go.Ground.guard }], guard := some (25, false) }) (v := ?_) rfl (by kernel_rfl) (by kernel_rfl) (by kernel_rfl) (fun _ _ _ h => h) (Or.inl ⟨by rfl, ?_⟩) (by assumption) ?_
          rotate_left
          · intro w hSw
            have b1 := (K11.out.below hSw.out).cell 1 rfl
            go_simp
            try with_reducible rfl
          try simp only [Act.put, List.setIfInBounds_toArray, List.set_cons_zero, List.set_cons_succ]
          refine wpAnyH_take (i := 28) (oi := { dst := some 156, op := Go.Op.move (Go.Operand.tmp 4), type := 35, pos := "law.go:189", after := #[{ on := 25, ground := Go.Ground.guard }], guard := some (25, false) }) (v := ?_) rfl (by kernel_rfl) (by kernel_rfl) (by kernel_rfl) (fun _ _ _ h => h) (Or.inl ⟨by rfl, ?_⟩) (by assumption) ?_
          rotate_left
          · intro w hSw
            go_simp
            try with_reducible rfl
          try simp only [Act.put, List.setIfInBounds_toArray, List.set_cons_zero, List.set_cons_succ]
          refine wpAnyH_take (i := 29) (oi := { dst := some 157, op := Go.Op.fieldAddr 31 (Go.Operand.tmp 6) 2, type := 0, pos := "law.go:189", after := #[{ on := 25, ground := Go.Ground.guard }], guard := some (25, false) }) (v := ?_) rfl (by kernel_rfl) (by kernel_rfl) (by kernel_rfl) (fun _ _ _ h => h) (Or.inl ⟨by rfl, ?_⟩) (by assumption) ?_
          rotate_left
          · intro w hSw
            go_simp
            try with_reducible rfl
          try simp only [Act.put, List.setIfInBounds_toArray, List.set_cons_zero, List.set_cons_succ]
          refine wpAnyH_take (i := 30) (oi := { dst := some 158, op := Go.Op.load 3 (Go.Operand.tmp 157), type := 3, pos := "law.go:189", after := #[{ on := 29, ground := Go.Ground.data }, { on := 25, ground := Go.Ground.guard }], guard := some (25, false) }) (v := ?_) rfl (by kernel_rfl) (by kernel_rfl) (by kernel_rfl) (fun _ _ _ h => h) (Or.inl ⟨by rfl, ?_⟩) (by assumption) ?_
          rotate_left
          · intro w hSw
            have a2 := (K6.out.below hSw.out).cell 2 rfl
            go_simp
            try with_reducible rfl
          try simp only [Act.put, List.setIfInBounds_toArray, List.set_cons_zero, List.set_cons_succ]
          refine wpAnyH_take (i := 31) (oi := { dst := some 159, op := Go.Op.binOp Go.BinOp.sub 3 (Go.Operand.tmp 158) (Go.Operand.const (Go.Value.int Go.IntKind.i64 1)) 3, type := 3, pos := "law.go:189", after := #[{ on := 30, ground := Go.Ground.data }, { on := 25, ground := Go.Ground.guard }], guard := some (25, false) }) (v := ?_) rfl (by kernel_rfl) (by kernel_rfl) (by kernel_rfl) (fun _ _ _ h => h) (Or.inl ⟨by rfl, ?_⟩) (by assumption) ?_
          rotate_left
          · intro w hSw
            go_simp
            try with_reducible rfl
          try simp only [Act.put, List.setIfInBounds_toArray, List.set_cons_zero, List.set_cons_succ]
          refine wpAnyH_take (i := 32) (oi := { dst := some 160, op := Go.Op.indexAddr 35 (Go.Operand.tmp 156) (Go.Operand.tmp 159), type := 0, pos := "law.go:189", after := #[{ on := 28, ground := Go.Ground.data }, { on := 31, ground := Go.Ground.data }, { on := 25, ground := Go.Ground.guard }], guard := some (25, false) }) (v := ?_) rfl (by kernel_rfl) (by kernel_rfl) (by kernel_rfl) (fun _ _ _ h => h) (Or.inl ⟨by rfl, ?_⟩) (by assumption) ?_
          rotate_left
          · intro w hSw
            go_simp
            try with_reducible rfl
          try simp only [Act.put, List.setIfInBounds_toArray, List.set_cons_zero, List.set_cons_succ]
          refine wpAnyH_take (i := 33) (oi := { dst := some 161, op := Go.Op.fieldAddr 41 (Go.Operand.tmp 160) 1, type := 0, pos := "law.go:189", after := #[{ on := 32, ground := Go.Ground.data }, { on := 25, ground := Go.Ground.guard }], guard := some (25, false) }) (v := ?_) rfl (by kernel_rfl) (by kernel_rfl) (by kernel_rfl) (fun _ _ _ h => h) (Or.inl ⟨by rfl, ?_⟩) (by assumption) ?_
          rotate_left
          · intro w hSw
            go_simp
            try with_reducible rfl
          try simp only [Act.put, List.setIfInBounds_toArray, List.set_cons_zero, List.set_cons_succ]
          refine wpAnyH_take (i := 34) (oi := { dst := some 162, op := Go.Op.load 3 (Go.Operand.tmp 161), type := 3, pos := "law.go:189", after := #[{ on := 33, ground := Go.Ground.data }, { on := 25, ground := Go.Ground.guard }], guard := some (25, false) }) (v := ?_) rfl (by kernel_rfl) (by kernel_rfl) (by kernel_rfl) (fun _ _ _ h => h) (Or.inl ⟨by rfl, ?_⟩) (by assumption) ?_
          rotate_left
          · intro w hSw
            have d1 := (HCS.out _ hSw.out).2.1
            go_simp
            try with_reducible rfl
          try simp only [Act.put, List.setIfInBounds_toArray, List.set_cons_zero, List.set_cons_succ]
          refine wpAnyH_take (i := 35) (oi := { dst := some 163, op := Go.Op.binOp Go.BinOp.neq 3 (Go.Operand.tmp 155) (Go.Operand.tmp 162) 3, type := 4, pos := "law.go:189", after := #[{ on := 27, ground := Go.Ground.data }, { on := 34, ground := Go.Ground.data }, { on := 25, ground := Go.Ground.guard }], guard := some (25, false) }) (v := ?_) rfl (by kernel_rfl) (by kernel_rfl) (by kernel_rfl) (fun _ _ _ h => h) (Or.inl ⟨by rfl, ?_⟩) (by assumption) ?_
          rotate_left
          · intro w hSw
            go_simp
            try with_reducible rfl
          try simp only [Act.put, List.setIfInBounds_toArray, List.set_cons_zero, List.set_cons_succ]
          refine wpAnyH_take (i := 36) (oi := { dst := some 164, op := Go.Op.pick (Go.Operand.tmp 153) (Go.Operand.const (Go.Value.bool true)) (Go.Operand.tmp 163), type := 4, pos := "law.go:189", after := #[{ on := 25, ground := Go.Ground.data }, { on := 35, ground := Go.Ground.data }, { on := 2, ground := Go.Ground.guard }], guard := some (2, true) }) (v := ?_) rfl (by kernel_rfl) (by kernel_rfl) (by kernel_rfl) (fun _ _ _ h => h) (Or.inl ⟨by rfl, ?_⟩) (by assumption) ?_
          rotate_left
          · intro w hSw
            go_simp
            try with_reducible rfl
          try simp only [Act.put, List.setIfInBounds_toArray, List.set_cons_zero, List.set_cons_succ]
          refine wpAnyH_take (i := 37) (oi := { dst := some 165, op := Go.Op.move (Go.Operand.tmp 164), type := 4, pos := "law.go:189", after := #[{ on := 36, ground := Go.Ground.data }, { on := 25, ground := Go.Ground.chain }, { on := 2, ground := Go.Ground.guard }], guard := some (2, true) }) (v := ?_) rfl (by kernel_rfl) (by kernel_rfl) (by kernel_rfl) (fun _ _ _ h => h) (Or.inl ⟨by rfl, ?_⟩) (by assumption) ?_
          rotate_left
          · intro w hSw
            go_simp
            try with_reducible rfl
          try simp only [Act.put, List.setIfInBounds_toArray, List.set_cons_zero, List.set_cons_succ]
          refine wpAnyH_take (i := 38) (oi := { dst := some 166, op := Go.Op.move (Go.Operand.tmp 4), type := 35, pos := "law.go:189", after := #[{ on := 37, ground := Go.Ground.guard }], guard := some (37, false) }) (v := ?_) rfl (by kernel_rfl) (by kernel_rfl) (by kernel_rfl) (fun _ _ _ h => h) (Or.inl ⟨by rfl, ?_⟩) (by assumption) ?_
          rotate_left
          · intro w hSw
            go_simp
            try with_reducible rfl
          try simp only [Act.put, List.setIfInBounds_toArray, List.set_cons_zero, List.set_cons_succ]
          refine wpAnyH_take (i := 39) (oi := { dst := some 167, op := Go.Op.fieldAddr 31 (Go.Operand.tmp 6) 2, type := 0, pos := "law.go:189", after := #[{ on := 37, ground := Go.Ground.guard }], guard := some (37, false) }) (v := ?_) rfl (by kernel_rfl) (by kernel_rfl) (by kernel_rfl) (fun _ _ _ h => h) (Or.inl ⟨by rfl, ?_⟩) (by assumption) ?_
          rotate_left
          · intro w hSw
            go_simp
            try with_reducible rfl
          try simp only [Act.put, List.setIfInBounds_toArray, List.set_cons_zero, List.set_cons_succ]
          refine wpAnyH_take (i := 40) (oi := { dst := some 168, op := Go.Op.load 3 (Go.Operand.tmp 167), type := 3, pos := "law.go:189", after := #[{ on := 39, ground := Go.Ground.data }, { on := 37, ground := Go.Ground.guard }], guard := some (37, false) }) (v := ?_) rfl (by kernel_rfl) (by kernel_rfl) (by kernel_rfl) (fun _ _ _ h => h) (Or.inl ⟨by rfl, ?_⟩) (by assumption) ?_
          rotate_left
          · intro w hSw
            have a2 := (K6.out.below hSw.out).cell 2 rfl
            go_simp
            try with_reducible rfl
          try simp only [Act.put, List.setIfInBounds_toArray, List.set_cons_zero, List.set_cons_succ]
          refine wpAnyH_take (i := 41) (oi := { dst := some 169, op := Go.Op.binOp Go.BinOp.sub 3 (Go.Operand.tmp 168) (Go.Operand.const (Go.Value.int Go.IntKind.i64 1)) 3, type := 3, pos := "law.go:189", after := #[{ on := 40, ground := Go.Ground.data }, { on := 37, ground := Go.Ground.guard }], guard := some (37, false) }) (v := ?_) rfl (by kernel_rfl) (by kernel_rfl) (by kernel_rfl) (fun _ _ _ h => h) (Or.inl ⟨by rfl, ?_⟩) (by assumption) ?_
          rotate_left
          · intro w hSw
            go_simp
            try with_reducible rfl
          try simp only [Act.put, List.setIfInBounds_toArray, List.set_cons_zero, List.set_cons_succ]
          refine wpAnyH_take (i := 42) (oi := { dst := some 170, op := Go.Op.indexAddr 35 (Go.Operand.tmp 166) (Go.Operand.tmp 169), type := 0, pos := "law.go:189", after := #[{ on := 38, ground := Go.Ground.data }, { on := 41, ground := Go.Ground.data }, { on := 37, ground := Go.Ground.guard }], guard := some (37, false) }) (v := ?_) rfl (by kernel_rfl) (by kernel_rfl) (by kernel_rfl) (fun _ _ _ h => h) (Or.inl ⟨by rfl, ?_⟩) (by assumption) ?_
          rotate_left
          · intro w hSw
            go_simp
            try with_reducible rfl
          try simp only [Act.put, List.setIfInBounds_toArray, List.set_cons_zero, List.set_cons_succ]
          refine wpAnyH_take (i := 43) (oi := { dst := some 171, op := Go.Op.fieldAddr 41 (Go.Operand.tmp 170) 2, type := 0, pos := "law.go:189", after := #[{ on := 42, ground := Go.Ground.data }, { on := 37, ground := Go.Ground.guard }], guard := some (37, false) }) (v := ?_) rfl (by kernel_rfl) (by kernel_rfl) (by kernel_rfl) (fun _ _ _ h => h) (Or.inl ⟨by rfl, ?_⟩) (by assumption) ?_
          rotate_left
          · intro w hSw
            go_simp
            try with_reducible rfl
          try simp only [Act.put, List.setIfInBounds_toArray, List.set_cons_zero, List.set_cons_succ]
          refine wpAnyH_take (i := 44) (oi := { dst := some 172, op := Go.Op.load 9 (Go.Operand.tmp 171), type := 9, pos := "law.go:189", after := #[{ on := 43, ground := Go.Ground.data }, { on := 37, ground := Go.Ground.guard }], guard := some (37, false) }) (v := ?_) rfl (by kernel_rfl) (by kernel_rfl) (by kernel_rfl) (fun _ _ _ h => h) (Or.inl ⟨by rfl, ?_⟩) (by assumption) ?_
          rotate_left
          · intro w hSw
            have d2 := (HCS.out _ hSw.out).2.2
            go_simp
            try with_reducible rfl
          try simp only [Act.put, List.setIfInBounds_toArray, List.set_cons_zero, List.set_cons_succ]
          refine wpAnyH_take (i := 45) (oi := { dst := some 173, op := Go.Op.fieldAddr 41 (Go.Operand.tmp 11) 2, type := 0, pos := "law.go:189", after := #[{ on := 37, ground := Go.Ground.guard }], guard := some (37, false) }) (v := ?_) rfl (by kernel_rfl) (by kernel_rfl) (by kernel_rfl) (fun _ _ _ h => h) (Or.inl ⟨by rfl, ?_⟩) (by assumption) ?_
          rotate_left
          · intro w hSw
            go_simp
            try with_reducible rfl
          try simp only [Act.put, List.setIfInBounds_toArray, List.set_cons_zero, List.set_cons_succ]
          refine wpAnyH_take (i := 46) (oi := { dst := some 174, op := Go.Op.load 9 (Go.Operand.tmp 173), type := 9, pos := "law.go:189", after := #[{ on := 45, ground := Go.Ground.data }, { on := 37, ground := Go.Ground.guard }], guard := some (37, false) }) (v := ?_) rfl (by kernel_rfl) (by kernel_rfl) (by kernel_rfl) (fun _ _ _ h => h) (Or.inl ⟨by rfl, ?_⟩) (by assumption) ?_
          rotate_left
          · intro w hSw
            have b2 := (K11.out.below hSw.out).cell 2 rfl
            go_simp
            try with_reducible rfl
          try simp only [Act.put, List.setIfInBounds_toArray, List.set_cons_zero, List.set_cons_succ]
          refine wpAnyH_take (i := 47) (oi := { dst := some 175, op := Go.Op.fieldAddr 41 (Go.Operand.tmp 11) 2, type := 0, pos := "law.go:189", after := #[{ on := 37, ground := Go.Ground.guard }], guard := some (37, false) }) (v := ?_) rfl (by kernel_rfl) (by kernel_rfl) (by kernel_rfl) (fun _ _ _ h => h) (Or.inl ⟨by rfl, ?_⟩) (by assumption) ?_
          rotate_left
          · intro w hSw
            go_simp
            try with_reducible rfl
          try simp only [Act.put, List.setIfInBounds_toArray, List.set_cons_zero, List.set_cons_succ]
          refine wpAnyH_take (i := 48) (oi := { dst := some 176, op := Go.Op.load 9 (Go.Operand.tmp 175), type := 9, pos := "law.go:189", after := #[{ on := 47, ground := Go.Ground.data }, { on := 37, ground := Go.Ground.guard }], guard := some (37, false) }) (v := ?_) rfl (by kernel_rfl) (by kernel_rfl) (by kernel_rfl) (fun _ _ _ h => h) (Or.inl ⟨by rfl, ?_⟩) (by assumption) ?_
          rotate_left
          · intro w hSw
            have b2 := (K11.out.below hSw.out).cell 2 rfl
            go_simp
            try with_reducible rfl
          try simp only [Act.put, List.setIfInBounds_toArray, List.set_cons_zero, List.set_cons_succ]
          refine wpAnyH_take (i := 49) (oi := { dst := some 177, op := Go.Op.move (Go.Operand.tmp 4), type := 35, pos := "law.go:189", after := #[{ on := 37, ground := Go.Ground.guard }], guard := some (37, false) }) (v := ?_) rfl (by kernel_rfl) (by kernel_rfl) (by kernel_rfl) (fun _ _ _ h => h) (Or.inl ⟨by rfl, ?_⟩) (by assumption) ?_
          rotate_left
          · intro w hSw
            go_simp
            try with_reducible rfl
          try simp only [Act.put, List.setIfInBounds_toArray, List.set_cons_zero, List.set_cons_succ]
          refine wpAnyH_take (i := 50) (oi := { dst := some 178, op := Go.Op.fieldAddr 31 (Go.Operand.tmp 6) 2, type := 0, pos := "law.go:189", after := #[{ on := 37, ground := Go.Ground.guard }], guard := some (37, false) }) (v := ?_) rfl (by kernel_rfl) (by kernel_rfl) (by kernel_rfl) (fun _ _ _ h => h) (Or.inl ⟨by rfl, ?_⟩) (by assumption) ?_
          rotate_left
          · intro w hSw
            go_simp
            try with_reducible rfl
          try simp only [Act.put, List.setIfInBounds_toArray, List.set_cons_zero, List.set_cons_succ]
          refine wpAnyH_take (i := 51) (oi := { dst := some 179, op := Go.Op.load 3 (Go.Operand.tmp 178), type := 3, pos := "law.go:189", after := #[{ on := 50, ground := Go.Ground.data }, { on := 37, ground := Go.Ground.guard }], guard := some (37, false) }) (v := ?_) rfl (by kernel_rfl) (by kernel_rfl) (by kernel_rfl) (fun _ _ _ h => h) (Or.inl ⟨by rfl, ?_⟩) (by assumption) ?_
          rotate_left
          · intro w hSw
            have a2 := (K6.out.below hSw.out).cell 2 rfl
            go_simp
            try with_reducible rfl
          try simp only [Act.put, List.setIfInBounds_toArray, List.set_cons_zero, List.set_cons_succ]
          refine wpAnyH_take (i := 52) (oi := { dst := some 180, op := Go.Op.binOp Go.BinOp.sub 3 (Go.Operand.tmp 179) (Go.Operand.const (Go.Value.int Go.IntKind.i64 1)) 3, type := 3, pos := "law.go:189", after := #[{ on := 51, ground := Go.Ground.data }, { on := 37, ground := Go.Ground.guard }], guard := some (37, false) }) (v := ?_) rfl (by kernel_rfl) (by kernel_rfl) (by kernel_rfl) (fun _ _ _ h => h) (Or.inl ⟨by rfl, ?_⟩) (by assumption) ?_
          rotate_left
          · intro w hSw
            go_simp
            try with_reducible rfl
          try simp only [Act.put, List.setIfInBounds_toArray, List.set_cons_zero, List.set_cons_succ]
          refine wpAnyH_take (i := 53) (oi := { dst := some 181, op := Go.Op.indexAddr 35 (Go.Operand.tmp 177) (Go.Operand.tmp 180), type := 0, pos := "law.go:189", after := #[{ on := 49, ground := Go.Ground.data }, { on := 52, ground := Go.Ground.data }, { on := 37, ground := Go.Ground.guard }], guard := some (37, false) }) (v := ?_) rfl (by kernel_rfl) (by kernel_rfl) (by kernel_rfl) (fun _ _ _ h => h) (Or.inl ⟨by rfl, ?_⟩) (by assumption) ?_
          rotate_left
          · intro w hSw
            go_simp
            try with_reducible rfl
          try simp only [Act.put, List.setIfInBounds_toArray, List.set_cons_zero, List.set_cons_succ]
          refine wpAnyH_take (i := 54) (oi := { dst := some 182, op := Go.Op.fieldAddr 41 (Go.Operand.tmp 181) 2, type := 0, pos := "law.go:189", after := #[{ on := 53, ground := Go.Ground.data }, { on := 37, ground := Go.Ground.guard }], guard := some (37, false) }) (v := ?_) rfl (by kernel_rfl) (by kernel_rfl) (by kernel_rfl) (fun _ _ _ h => h) (Or.inl ⟨by rfl, ?_⟩) (by assumption) ?_
          rotate_left
          · intro w hSw
            go_simp
            try with_reducible rfl
          try simp only [Act.put, List.setIfInBounds_toArray, List.set_cons_zero, List.set_cons_succ]
          refine wpAnyH_take (i := 55) (oi := { dst := some 183, op := Go.Op.load 9 (Go.Operand.tmp 182), type := 9, pos := "law.go:189", after := #[{ on := 54, ground := Go.Ground.data }, { on := 37, ground := Go.Ground.guard }], guard := some (37, false) }) (v := ?_) rfl (by kernel_rfl) (by kernel_rfl) (by kernel_rfl) (fun _ _ _ h => h) (Or.inl ⟨by rfl, ?_⟩) (by assumption) ?_
          rotate_left
          · intro w hSw
            have d2 := (HCS.out _ hSw.out).2.2
            go_simp
            try with_reducible rfl
          try simp only [Act.put, List.setIfInBounds_toArray, List.set_cons_zero, List.set_cons_succ]
          refine wpAnyH_take (i := 56) (oi := { dst := some 184, op := Go.Op.binOp Go.BinOp.neq 9 (Go.Operand.tmp 176) (Go.Operand.tmp 183) 9, type := 4, pos := "law.go:189", after := #[{ on := 48, ground := Go.Ground.data }, { on := 55, ground := Go.Ground.data }, { on := 37, ground := Go.Ground.guard }], guard := some (37, false) }) (v := ?_) rfl (by kernel_rfl) (by kernel_rfl) (by kernel_rfl) (fun _ _ _ h => h) (Or.inl ⟨by rfl, ?_⟩) (by assumption) ?_
          rotate_left
          · intro w hSw
            go_simp
            try with_reducible rfl
          try simp only [Act.put, List.setIfInBounds_toArray, List.set_cons_zero, List.set_cons_succ]
          refine wpAnyH_ready (rs := [57]) (by kernel_rfl) (by simp) ?_
          refine AllReadyH.cons (o := { dst := some 185, op := Go.Op.call { callee := Go.Callee.value (Go.Operand.func 15), args := #[Go.Operand.tmp 172, Go.Operand.tmp 174, Go.Operand.tmp 184], argTypes := #[9, 9, 4] }, type := 4, pos := "law.go:189", after := #[{ on := 44, ground := Go.Ground.data }, { on := 46, ground := Go.Ground.data }, { on := 56, ground := Go.Ground.data }, { on := 37, ground := Go.Ground.chain }, { on := 37, ground := Go.Ground.guard }], guard := some (37, false) }) rfl (fun K hK => ?_) AllReadyH.nil
          go_simp
          go_at_call 15
          with_reducible refine Calls.mono (HNR.out wd) ?_
          rintro e y1 ⟨rfl, D1⟩
          have X1 := hide (chain X0.out D1)
          clear D1 hHeld
          try dsimp only
          refine hK.out _ _ X1 (fun hHeld => ?_)
          clear hK K
          try simp only [Act.put, List.setIfInBounds_toArray, List.set_cons_zero, List.set_cons_succ]
          refine wpAnyH_take (i := 58) (oi := { dst := some 186, op := Go.Op.unOp Go.UnOp.not 4 (Go.Operand.tmp 185), type := 4, pos := "law.go:189", after := #[{ on := 57, ground := Go.Ground.data }, { on := 37, ground := Go.Ground.guard }], guard := some (37, false) }) (v := ?_) rfl (by kernel_rfl) (by kernel_rfl) (by kernel_rfl) (fun _ _ _ h => h) (Or.inl ⟨by rfl, ?_⟩) (by assumption) ?_
          rotate_left
          · intro w hSw
            go_simp
            try with_reducible rfl
          try simp only [Act.put, List.setIfInBounds_toArray, List.set_cons_zero, List.set_cons_succ]
          refine wpAnyH_take (i := 59) (oi := { dst := some 187, op := Go.Op.pick (Go.Operand.tmp 165) (Go.Operand.const (Go.Value.bool true)) (Go.Operand.tmp 186), type := 4, pos := "law.go:189", after := #[{ on := 37, ground := Go.Ground.data }, { on := 58, ground := Go.Ground.data }, { on := 2, ground := Go.Ground.guard }], guard := some (2, true) }) (v := ?_) rfl (by kernel_rfl) (by kernel_rfl) (by kernel_rfl) (fun _ _ _ h => h) (Or.inl ⟨by rfl, ?_⟩) (by assumption) ?_
          rotate_left
          · intro w hSw
            go_simp
            try with_reducible rfl
          try simp only [Act.put, List.setIfInBounds_toArray, List.set_cons_zero, List.set_cons_succ]
          refine wpAnyH_take (i := 60) (oi := { dst := some 188, op := Go.Op.pick (Go.Operand.tmp 130) (Go.Operand.tmp 187) (Go.Operand.const (Go.Value.bool false)), type := 4, pos := "law.go:189", after := #[{ on := 2, ground := Go.Ground.data }, { on := 59, ground := Go.Ground.data }], guard := none }) (v := ?_) rfl (by kernel_rfl) (by kernel_rfl) (by kernel_rfl) (fun _ _ _ h => h) (Or.inl ⟨by rfl, ?_⟩) (by assumption) ?_
          rotate_left
          · intro w hSw
            go_simp
            try with_reducible rfl
          try simp only [Act.put, List.setIfInBounds_toArray, List.set_cons_zero, List.set_cons_succ]
          refine wpAnyH_done (by kernel_rfl) ?_ _
          have HLd := hide (HL.out.below X1.out)
          have HVd := hide (HV.out.below X1.out)
          have HBd := hide (chain HB.out X1.out)
          clear HL HV HB X0 X1 hHeld K6 K11
          have HL := HLd
          have HV := HVd
          have HB := HBd
          clear HLd HVd HBd
          go_upto_region 32 with fail
          have HM := hide (made_any HL.out)
          rw [← HI.out.len] at HM
          go_wp2_with fail
          refine Calls.mono HM.out ?_
          rintro e wz ⟨rfl, rfl⟩
          clear HM
          go_wp2
          exact ⟨⟨i + 1, _, _, by omega, by simp, HV.out, HL.out, HI.out, HB.out, by have h1 := HSL.out; unfold Hid; omega⟩, by simp [intOf]; omega⟩
      · as_aux_lemma =>
          have HS := hide (take_any (E := E) N HO.out.1.1 HO.out.1.2 HL.out (HV17.out _ HB.out))
          rw [show erv E (fE L N) = sent (E (fE L N)) by unfold erv; rw [if_neg hE]] at HS
          unfold sent at HS
          obtain ⟨⟨xf, xt, xs, xp⟩, hX⟩ : ∃ X, fv L N = X := ⟨_, rfl⟩
          rw [hX] at HS
          dsimp only [Lt.a] at HS
          clear hX
          go_wp2_with fail
          refine Calls.mono HS.out ?_
          rintro e w3 ⟨rfl, l, fr⟩
          have HVn := hide (step_call HV.out HL.out fr)
          replace HB := hide (frm_base HB.out fr (Nat.le_refl _) HP.out.1 HP.out.2)
          replace HL := hide l
          replace HV := HVn
          clear HVn l fr
          clear HS a0 a1 a2 a3 a4 a5 a6
          replace HI := hide (inv_take HI.out N)
          obtain ⟨W4, hW, B8, D8⟩ := box1 w3 [.int .i64 xf, .int .i64 xt, .string xs] 41
          obtain ⟨q11, hq⟩ : ∃ q, w3.heap.size = q := ⟨_, rfl⟩
          replace HL := hide (HL.out.below D8)
          replace HV := hide (HV.out.below D8)
          replace HB := hide (chain HB.out D8)
          clear B8 D8
          go_upto_region 30 with fail
          try simp only [hW, hq]
          clear hW hq
          have HLd := hide (HL.out.below (Below.refl W4.heap.size W4).drew)
          have HVd := hide (HV.out.below (Below.refl W4.heap.size W4).drew)
          have HBd := hide (chain HB.out (Below.refl W4.heap.size W4).drew)
          clear HL HV HB
          have HL := HLd
          have HV := HVd
          have HB := HBd
          clear HLd HVd HBd
          go_region
          go_upto_region 32 with fail
          have HM := hide (made_any HL.out)
          rw [← HI.out.len] at HM
          go_wp2_with fail
          refine Calls.mono HM.out ?_
          rintro e wz ⟨rfl, rfl⟩
          clear HM
          go_wp2
          exact ⟨⟨i + 1, _, _, by omega, by simp, HV.out, HL.out, HI.out, HB.out, by have h1 := HSL.out; unfold Hid; omega⟩, by simp [intOf]; omega⟩
    have e3 : (kd == 3) = false := beq_eq_false_iff_ne.2 k3
    clear k3
    as_aux_lemma =>
      go_upto_region 32 with fail
      have HM := hide (made_any HL.out)
      rw [← HI.out.len] at HM
      go_wp2_with fail
      refine Calls.mono HM.out ?_
      rintro e wz ⟨rfl, rfl⟩
      clear HM
      go_wp2
      exact ⟨⟨i + 1, _, _, by omega, by simp, HV.out, HL.out, HI.out, HB.out, by have h1 := HSL.out; unfold Hid; omega⟩, by simp [intOf]; omega⟩
  · --
    obtain rfl : n = i := by omega
    have hnk : ¬ (n : Int) < (n : Int) := by omega
    have hSb : (S.length : Int) ≤ 2199023255552 := by have := HSL.out; omega
    go_upto_region 35 with fail
    generalize wr = W1 at *
    go_loopw [13] (fun s wr => ∃ k : Nat, k ≤ S.length ∧ s = .int .i64 ((k : Int) + 1) ∧ Hid (Below W1.heap.size W1 wr)) (fun s _ => S.length + 1 - (intOf s).toNat)
    case atStart => exact ⟨0, Nat.zero_le _, rfl, Below.refl _ _⟩
    case round =>
    obtain ⟨k, hk, rfl, HBj⟩ := hrel
    by_cases hkS : k < S.length
    · have hk1 : (k : Int) + 1 ≤ (S.length : Int) := by omega
      by_cases hE : fE L ((k : Int) + 1) = 0
      · as_aux_lemma =>
          obtain ⟨⟨g1, g2⟩, ⟨yf, yt, ys, yp⟩, hy, q1, q2, q3, q4, q5⟩ := inv_at HI.out HL.out.ok HL.out.sz ((k : Int) + 1) hE
          rw [show ((k : Int) + 1 - 1).toNat = k by omega] at hy
          have HY := hide hy
          clear hy
          have HS := hide (look_any (E := E) ((k : Int) + 1) (by omega) (by omega) (HL.out.below HBj.out) (HV17.out _ (chain HB.out HBj.out)))
          rw [show erv E (fE L ((k : Int) + 1)) = .nilIface by rw [hE]; rfl] at HS
          obtain ⟨⟨xf, xt, xs, xp⟩, hX⟩ : ∃ X, fv L ((k : Int) + 1) = X := ⟨_, rfl⟩
          rw [hX] at HS q1 q2 q4 q5
          dsimp only at q1 q2 q3 q4 q5
          subst q1 q2
          dsimp only [Lt.a] at HS
          have HNR := hide (fun w' : World => near_any ys xs _ q5 q3 q4 w')
          clear q3 q4 q5 hX
          go_wp2_with fail
          refine Calls.mono HS.out ?_
          rintro e w3 ⟨rfl, b⟩
          replace HBj := hide (chain HBj.out b)
          clear b HS
          obtain ⟨W4, hW, B8, D8⟩ := box1 w3 [.int .i64 xf, .int .i64 xt, .string xs] 41
          obtain ⟨q14, hq⟩ : ∃ q, w3.heap.size = q := ⟨_, rfl⟩
          rw [hq] at B8
          have K14 := hide B8
          replace HBj := hide (chain HBj.out D8)
          clear B8 D8
          go_upto_region 38 with fail
          try simp only [hW, hq]
          clear hW hq
          have hk3 : (k : Int) < (S.length : Int) := by omega
          have hk4 : ¬ (k : Int) < 0 := by omega
          have hwk : IntKind.i64.wrap (k : Int) = (k : Int) := by rw [IntKind.wrap_i64]; omega
          obtain ⟨g, o0, ea, hc⟩ := (own_rcs HV.out).at l33 (by decide) HY.out
          subst ea
          have HCS : Hid (∀ w' : World, Below W4.heap.size W4 w' → w'.cell? ⟨g, o0 + k * 3, none⟩ = some (.int .i64 xf) ∧ w'.cell? ⟨g, o0 + k * 3 + 1, none⟩ = some (.int .i64 xt) ∧ w'.cell? ⟨g, o0 + k * 3 + 2, none⟩ = some (.string ys)) := fun w' D => by
            have D1 := chain HBj.out D
            exact ⟨cell_below (hc 0 _ rfl) D1, cell_below (hc 1 _ rfl) D1, cell_below (hc 2 _ rfl) D1⟩
          clear hc
          refine wp_region_held_drew (S := fun wz => Hid (Below W4.heap.size W4 wz)) (by kernel_rfl) (hide ((Below.refl W4.heap.size W4).drew)) (fun hHeld => ?_)
          have X0 : Hid (Below W4.heap.size W4 W4.drew) := (Below.refl _ _).drew
          obtain ⟨wd, hwd⟩ : ∃ z, z = W4.drew := ⟨_, rfl⟩
          rw [← hwd] at X0 hHeld ⊢
          clear hwd
          refine wpAnyH_take (i := 0) (oi := { dst := some 207, op := Go.Op.move (Go.Operand.tmp 16), type := 37, pos := "law.go:199", after := #[], guard := none }) (v := ?_) rfl (by kernel_rfl) (by kernel_rfl) (by kernel_rfl) (fun _ _ _ h => h) (Or.inl ⟨by rfl, ?_⟩) (by assumption) ?_
          rotate_left
          · intro w hSw
            go_simp
            try with_reducible rfl
          try simp only [Act.put, List.setIfInBounds_toArray, List.set_cons_zero, List.set_cons_succ]
          refine wpAnyH_take (i := 1) (oi := { dst := some 208, op := Go.Op.binOp Go.BinOp.eql 37 (Go.Operand.tmp 207) (Go.Operand.const Go.Value.nilIface) 37, type := 4, pos := "law.go:199", after := #[{ on := 0, ground := Go.Ground.data }], guard := none }) (v := ?_) rfl (by kernel_rfl) (by kernel_rfl) (by kernel_rfl) (fun _ _ _ h => h) (Or.inl ⟨by rfl, ?_⟩) (by assumption) ?_
          rotate_left
          · intro w hSw
            go_simp
            try with_reducible rfl
          try simp only [Act.put, List.setIfInBounds_toArray, List.set_cons_zero, List.set_cons_succ]
          refine wpAnyH_take (i := 2) (oi := { dst := some 209, op := Go.Op.move (Go.Operand.tmp 208), type := 4, pos := "law.go:199", after := #[{ on := 1, ground := Go.Ground.data }], guard := none }) (v := ?_) rfl (by kernel_rfl) (by kernel_rfl) (by kernel_rfl) (fun _ _ _ h => h) (Or.inl ⟨by rfl, ?_⟩) (by assumption) ?_
          rotate_left
          · intro w hSw
            go_simp
            try with_reducible rfl
          try simp only [Act.put, List.setIfInBounds_toArray, List.set_cons_zero, List.set_cons_succ]
          refine wpAnyH_take (i := 3) (oi := { dst := some 210, op := Go.Op.fieldAddr 41 (Go.Operand.tmp 14) 0, type := 0, pos := "law.go:199", after := #[{ on := 2, ground := Go.Ground.guard }], guard := some (2, true) }) (v := ?_) rfl (by kernel_rfl) (by kernel_rfl) (by kernel_rfl) (fun _ _ _ h => h) (Or.inl ⟨by rfl, ?_⟩) (by assumption) ?_
          rotate_left
          · intro w hSw
            go_simp
            try with_reducible rfl
          try simp only [Act.put, List.setIfInBounds_toArray, List.set_cons_zero, List.set_cons_succ]
          refine wpAnyH_take (i := 4) (oi := { dst := some 211, op := Go.Op.load 3 (Go.Operand.tmp 210), type := 3, pos := "law.go:199", after := #[{ on := 3, ground := Go.Ground.data }, { on := 2, ground := Go.Ground.guard }], guard := some (2, true) }) (v := ?_) rfl (by kernel_rfl) (by kernel_rfl) (by kernel_rfl) (fun _ _ _ h => h) (Or.inl ⟨by rfl, ?_⟩) (by assumption) ?_
          rotate_left
          · intro w hSw
            have b0 := (K14.out.below hSw.out).cell 0 rfl
            go_simp
            try with_reducible rfl
          try simp only [Act.put, List.setIfInBounds_toArray, List.set_cons_zero, List.set_cons_succ]
          refine wpAnyH_take (i := 5) (oi := { dst := some 212, op := Go.Op.move (Go.Operand.tmp 4), type := 35, pos := "law.go:199", after := #[{ on := 2, ground := Go.Ground.guard }], guard := some (2, true) }) (v := ?_) rfl (by kernel_rfl) (by kernel_rfl) (by kernel_rfl) (fun _ _ _ h => h) (Or.inl ⟨by rfl, ?_⟩) (by assumption) ?_
          rotate_left
          · intro w hSw
            go_simp
            try with_reducible rfl
          try simp only [Act.put, List.setIfInBounds_toArray, List.set_cons_zero, List.set_cons_succ]
          refine wpAnyH_take (i := 6) (oi := { dst := some 213, op := Go.Op.move (Go.Operand.tmp 13), type := 3, pos := "law.go:199", after := #[{ on := 2, ground := Go.Ground.guard }], guard := some (2, true) }) (v := ?_) rfl (by kernel_rfl) (by kernel_rfl) (by kernel_rfl) (fun _ _ _ h => h) (Or.inl ⟨by rfl, ?_⟩) (by assumption) ?_
          rotate_left
          · intro w hSw
            go_simp
            try with_reducible rfl
          try simp only [Act.put, List.setIfInBounds_toArray, List.set_cons_zero, List.set_cons_succ]
          refine wpAnyH_take (i := 7) (oi := { dst := some 214, op := Go.Op.binOp Go.BinOp.sub 3 (Go.Operand.tmp 213) (Go.Operand.const (Go.Value.int Go.IntKind.i64 1)) 3, type := 3, pos := "law.go:199", after := #[{ on := 6, ground := Go.Ground.data }, { on := 2, ground := Go.Ground.guard }], guard := some (2, true) }) (v := ?_) rfl (by kernel_rfl) (by kernel_rfl) (by kernel_rfl) (fun _ _ _ h => h) (Or.inl ⟨by rfl, ?_⟩) (by assumption) ?_
          rotate_left
          · intro w hSw
            go_simp
            try with_reducible rfl
          try simp only [Act.put, List.setIfInBounds_toArray, List.set_cons_zero, List.set_cons_succ]
          refine wpAnyH_take (i := 8) (oi := { dst := some 215, op := Go.Op.indexAddr 35 (Go.Operand.tmp 212) (Go.Operand.tmp 214), type := 0, pos := "law.go:199", after := #[{ on := 5, ground := Go.Ground.data }, { on := 7, ground := Go.Ground.data }, { on := 2, ground := Go.Ground.guard }], guard := some (2, true) }) (v := ?_) rfl (by kernel_rfl) (by kernel_rfl) (by kernel_rfl) (fun _ _ _ h => h) (Or.inl ⟨by rfl, ?_⟩) (by assumption) ?_
          rotate_left
          · intro w hSw
            go_simp
            try with_reducible rfl
          try simp only [Act.put, List.setIfInBounds_toArray, List.set_cons_zero, List.set_cons_succ]
          refine wpAnyH_take (i := 9) (oi := { dst := some 216, op := Go.Op.fieldAddr 41 (Go.Operand.tmp 215) 0, type := 0, pos := "law.go:199", after := #[{ on := 8, ground := Go.Ground.data }, { on := 2, ground := Go.Ground.guard }], guard := some (2, true) }) (v := ?_) rfl (by kernel_rfl) (by kernel_rfl) (by kernel_rfl) (fun _ _ _ h => h) (Or.inl ⟨by rfl, ?_⟩) (by assumption) ?_
          rotate_left
          · intro w hSw
            go_simp
            try with_reducible rfl
          try simp only [Act.put, List.setIfInBounds_toArray, List.set_cons_zero, List.set_cons_succ]
          refine wpAnyH_take (i := 10) (oi := { dst := some 217, op := Go.Op.load 3 (Go.Operand.tmp 216), type := 3, pos := "law.go:199", after := #[{ on := 9, ground := Go.Ground.data }, { on := 2, ground := Go.Ground.guard }], guard := some (2, true) }) (v := ?_) rfl (by kernel_rfl) (by kernel_rfl) (by kernel_rfl) (fun _ _ _ h => h) (Or.inl ⟨by rfl, ?_⟩) (by assumption) ?_
          rotate_left
          · intro w hSw
            have d0 := (HCS.out _ hSw.out).1
            go_simp
            try with_reducible rfl
          try simp only [Act.put, List.setIfInBounds_toArray, List.set_cons_zero, List.set_cons_succ]
          refine wpAnyH_take (i := 11) (oi := { dst := some 218, op := Go.Op.binOp Go.BinOp.neq 3 (Go.Operand.tmp 211) (Go.Operand.tmp 217) 3, type := 4, pos := "law.go:199", after := #[{ on := 4, ground := Go.Ground.data }, { on := 10, ground := Go.Ground.data }, { on := 2, ground := Go.Ground.guard }], guard := some (2, true) }) (v := ?_) rfl (by kernel_rfl) (by kernel_rfl) (by kernel_rfl) (fun _ _ _ h => h) (Or.inl ⟨by rfl, ?_⟩) (by assumption) ?_
          rotate_left
          · intro w hSw
            go_simp
            try with_reducible rfl
          try simp only [Act.put, List.setIfInBounds_toArray, List.set_cons_zero, List.set_cons_succ]
          refine wpAnyH_take (i := 12) (oi := { dst := some 219, op := Go.Op.move (Go.Operand.tmp 218), type := 4, pos := "law.go:199", after := #[{ on := 11, ground := Go.Ground.data }, { on := 2, ground := Go.Ground.chain }, { on := 2, ground := Go.Ground.guard }], guard := some (2, true) }) (v := ?_) rfl (by kernel_rfl) (by kernel_rfl) (by kernel_rfl) (fun _ _ _ h => h) (Or.inl ⟨by rfl, ?_⟩) (by assumption) ?_
          rotate_left
          · intro w hSw
            go_simp
            try with_reducible rfl
          try simp only [Act.put, List.setIfInBounds_toArray, List.set_cons_zero, List.set_cons_succ]
          refine wpAnyH_take (i := 13) (oi := { dst := some 220, op := Go.Op.fieldAddr 41 (Go.Operand.tmp 14) 1, type := 0, pos := "law.go:199", after := #[{ on := 12, ground := Go.Ground.guard }], guard := some (12, false) }) (v := ?_) rfl (by kernel_rfl) (by kernel_rfl) (by kernel_rfl) (fun _ _ _ h => h) (Or.inl ⟨by rfl, ?_⟩) (by assumption) ?_
          rotate_left
          · intro w hSw
            go_simp
            try with_reducible rfl
          try simp only [Act.put, List.setIfInBounds_toArray, List.set_cons_zero, List.set_cons_succ]
          refine wpAnyH_take (i := 14) (oi := { dst := some 221, op := Go.Op.load 3 (Go.Operand.tmp 220), type := 3, pos := "law.go:199", after := #[{ on := 13, ground := Go.Ground.data }, { on := 12, ground := Go.Ground.guard }], guard := some (12, false) }) (v := ?_) rfl (by kernel_rfl) (by kernel_rfl) (by kernel_rfl) (fun _ _ _ h => h) (Or.inl ⟨by rfl, ?_⟩) (by assumption) ?_
          rotate_left
          · intro w hSw
            have b1 := (K14.out.below hSw.out).cell 1 rfl
            go_simp
            try with_reducible rfl
          try simp only [Act.put, List.setIfInBounds_toArray, List.set_cons_zero, List.set_cons_succ]
          refine wpAnyH_take (i := 15) (oi := { dst := some 222, op := Go.Op.move (Go.Operand.tmp 4), type := 35, pos := "law.go:199", after := #[{ on := 12, ground := Go.Ground.guard }], guard := some (12, false) }) (v := ?_) rfl (by kernel_rfl) (by kernel_rfl) (by kernel_rfl) (fun _ _ _ h => h) (Or.inl ⟨by rfl, ?_⟩) (by assumption) ?_
          rotate_left
          · intro w hSw
            go_simp
            try with_reducible rfl
          try simp only [Act.put, List.setIfInBounds_toArray, List.set_cons_zero, List.set_cons_succ]
          refine wpAnyH_take (i := 16) (oi := { dst := some 223, op := Go.Op.move (Go.Operand.tmp 13), type := 3, pos := "law.go:199", after := #[{ on := 12, ground := Go.Ground.guard }], guard := some (12, false) }) (v := ?_) rfl (by kernel_rfl) (by kernel_rfl) (by kernel_rfl) (fun _ _ _ h => h) (Or.inl ⟨by rfl, ?_⟩) (by assumption) ?_
          rotate_left
          · intro w hSw
            go_simp
            try with_reducible rfl
          try simp only [Act.put, List.setIfInBounds_toArray, List.set_cons_zero, List.set_cons_succ]
          refine wpAnyH_take (i := 17) (oi := { dst := some 224, op := Go.Op.binOp Go.BinOp.sub 3 (Go.Operand.tmp 223) (Go.Operand.const (Go.Value.int Go.IntKind.i64 1)) 3, type := 3, pos := "law.go:199", after := #[{ on := 16, ground := Go.Ground.data }, { on := 12, ground := Go.Ground.guard }], guard := some (12, false) }) (v := ?_) rfl (by kernel_rfl) (by kernel_rfl) (by kernel_rfl) (fun _ _ _ h => h) (Or.inl ⟨by rfl, ?_⟩) (by assumption) ?_
          rotate_left
          · intro w hSw
            go_simp
            try with_reducible rfl
          try simp only [Act.put, List.setIfInBounds_toArray, List.set_cons_zero, List.set_cons_succ]
          refine wpAnyH_take (i := 18) (oi := { dst := some 225, op := Go.Op.indexAddr 35 (Go.Operand.tmp 222) (Go.Operand.tmp 224), type := 0, pos := "law.go:199", after := #[{ on := 15, ground := Go.Ground.data }, { on := 17, ground := Go.Ground.data }, { on := 12, ground := Go.Ground.guard }], guard := some (12, false) }) (v := ?_) rfl (by kernel_rfl) (by kernel_rfl) (by kernel_rfl) (fun _ _ _ h => h) (Or.inl ⟨by rfl, ?_⟩) (by assumption) ?_
          rotate_left
          · intro w hSw
            go_simp
            try with_reducible rfl
          try simp only [Act.put, List.setIfInBounds_toArray, List.set_cons_zero, List.set_cons_succ]
          refine wpAnyH_take (i := 19) (oi := { dst := some 226, op := Go.Op.fieldAddr 41 (Go.Operand.tmp 225) 1, type := 0, pos := "law.go:199", after := #[{ on := 18, ground := Go.Ground.data }, { on := 12, ground := Go.Ground.guard }], guard := some (12, false) }) (v := ?_) rfl (by kernel_rfl) (by kernel_rfl) (by kernel_rfl) (fun _ _ _ h => h) (Or.inl ⟨by rfl, ?_⟩) (by assumption) ?_
          rotate_left
          · intro w hSw
            go_simp
            try with_reducible rfl
          try simp only [Act.put, List.setIfInBounds_toArray, List.set_cons_zero, List.set_cons_succ]
          refine wpAnyH_take (i := 20) (oi := { dst := some 227, op := Go.Op.load 3 (Go.Operand.tmp 226), type := 3, pos := "law.go:199", after := #[{ on := 19, ground := Go.Ground.data }, { on := 12, ground := Go.Ground.guard }], guard := some (12, false) }) (v := ?_) rfl (by kernel_rfl) (by kernel_rfl) (by kernel_rfl) (fun _ _ _ h => h) (Or.inl ⟨by rfl, ?_⟩) (by assumption) ?_
          rotate_left
          · intro w hSw
            have d1 := (HCS.out _ hSw.out).2.1
            go_simp
            try with_reducible rfl
          try simp only [Act.put, List.setIfInBounds_toArray, List.set_cons_zero, List.set_cons_succ]
          refine wpAnyH_take (i := 21) (oi := { dst := some 228, op := Go.Op.binOp Go.BinOp.neq 3 (Go.Operand.tmp 221) (Go.Operand.tmp 227) 3, type := 4, pos := "law.go:199", after := #[{ on := 14, ground := Go.Ground.data }, { on := 20, ground := Go.Ground.data }, { on := 12, ground := Go.Ground.guard }], guard := some (12, false) }) (v := ?_) rfl (by kernel_rfl) (by kernel_rfl) (by kernel_rfl) (fun _ _ _ h => h) (Or.inl ⟨by rfl, ?_⟩) (by assumption) ?_
          rotate_left
          · intro w hSw
            go_simp
            try with_reducible rfl
          try simp only [Act.put, List.setIfInBounds_toArray, List.set_cons_zero, List.set_cons_succ]
          refine wpAnyH_take (i := 22) (oi := { dst := some 229, op := Go.Op.pick (Go.Operand.tmp 219) (Go.Operand.const (Go.Value.bool true)) (Go.Operand.tmp 228), type := 4, pos := "law.go:199", after := #[{ on := 12, ground := Go.Ground.data }, { on := 21, ground := Go.Ground.data }, { on := 2, ground := Go.Ground.guard }], guard := some (2, true) }) (v := ?_) rfl (by kernel_rfl) (by kernel_rfl) (by kernel_rfl) (fun _ _ _ h => h) (Or.inl ⟨by rfl, ?_⟩) (by assumption) ?_
          rotate_left
          · intro w hSw
            go_simp
            try with_reducible rfl
          try simp only [Act.put, List.setIfInBounds_toArray, List.set_cons_zero, List.set_cons_succ]
          refine wpAnyH_take (i := 23) (oi := { dst := some 230, op := Go.Op.move (Go.Operand.tmp 229), type := 4, pos := "law.go:199", after := #[{ on := 22, ground := Go.Ground.data }, { on := 12, ground := Go.Ground.chain }, { on := 2, ground := Go.Ground.guard }], guard := some (2, true) }) (v := ?_) rfl (by kernel_rfl) (by kernel_rfl) (by kernel_rfl) (fun _ _ _ h => h) (Or.inl ⟨by rfl, ?_⟩) (by assumption) ?_
          rotate_left
          · intro w hSw
            go_simp
            try with_reducible rfl
          try simp only [Act.put, List.setIfInBounds_toArray, List.set_cons_zero, List.set_cons_succ]
          refine wpAnyH_take (i := 24) (oi := { dst := some 231, op := Go.Op.move (Go.Operand.tmp 4), type := 35, pos := "law.go:199", after := #[{ on := 23, ground := Go.Ground.guard }], guard := some (23, false) }) (v := ?_) rfl (by kernel_rfl) (by kernel_rfl) (by kernel_rfl) (fun _ _ _ h => h) (Or.inl ⟨by rfl, ?_⟩) (by assumption) ?_
          rotate_left
          · intro w hSw
            go_simp
            try with_reducible rfl
          try simp only [Act.put, List.setIfInBounds_toArray, List.set_cons_zero, List.set_cons_succ]
          refine wpAnyH_take (i := 25) (oi := { dst := some 232, op := Go.Op.move (Go.Operand.tmp 13), type := 3, pos := "law.go:199", after := #[{ on := 23, ground := Go.Ground.guard }], guard := some (23, false) }) (v := ?_) rfl (by kernel_rfl) (by kernel_rfl) (by kernel_rfl) (fun _ _ _ h => h) (Or.inl ⟨by rfl, ?_⟩) (by assumption) ?_
          rotate_left
          · intro w hSw
            go_simp
            try with_reducible rfl
          try simp only [Act.put, List.setIfInBounds_toArray, List.set_cons_zero, List.set_cons_succ]
          refine wpAnyH_take (i := 26) (oi := { dst := some 233, op := Go.Op.binOp Go.BinOp.sub 3 (Go.Operand.tmp 232) (Go.Operand.const (Go.Value.int Go.IntKind.i64 1)) 3, type := 3, pos := "law.go:199", after := #[{ on := 25, ground := Go.Ground.data }, { on := 23, ground := Go.Ground.guard }], guard := some (23, false) }) (v := ?_) rfl (by kernel_rfl) (by kernel_rfl) (by kernel_rfl) (fun _ _ _ h => h) (Or.inl ⟨by rfl, ?_⟩) (by assumption) ?_
          rotate_left
          · intro w hSw
            go_simp
            try with_reducible rfl
          try simp only [Act.put, List.setIfInBounds_toArray, List.set_cons_zero, List.set_cons_succ]
          refine wpAnyH_take (i := 27) (oi := { dst := some 234, op := Go.Op.indexAddr 35 (Go.Operand.tmp 231) (Go.Operand.tmp 233), type := 0, pos := "law.go:199", after := #[{ on := 24, ground := Go.Ground.data }, { on := 26, ground := Go.Ground.data }, { on := 23, ground := Go.Ground.guard }], guard := some (23, false) }) (v := ?_) rfl (by kernel_rfl) (by kernel_rfl) (by kernel_rfl) (fun _ _ _ h => h) (Or.inl ⟨by rfl, ?_⟩) (by assumption) ?_
          rotate_left
          · intro w hSw
            go_simp
            try with_reducible rfl
          try simp only [Act.put, List.setIfInBounds_toArray, List.set_cons_zero, List.set_cons_succ]
          refine wpAnyH_take (i := 28) (oi := { dst := some 235, op := Go.Op.fieldAddr 41 (Go.Operand.tmp 234) 2, type := 0, pos := "law.go:199", after := #[{ on := 27, ground := Go.Ground.data }, { on := 23, ground := Go.Ground.guard }], guard := some (23, false) }) (v := ?_) rfl (by kernel_rfl) (by kernel_rfl) (by kernel_rfl) (fun _ _ _ h => h) (Or.inl ⟨by rfl, ?_⟩) (by assumption) ?_
          rotate_left
          · intro w hSw
            go_simp
            try with_reducible rfl
          try simp only [Act.put, List.setIfInBounds_toArray, List.set_cons_zero, List.set_cons_succ]
          refine wpAnyH_take (i := 29) (oi := { dst := some 236, op := Go.Op.load 9 (Go.Operand.tmp 235), type := 9, pos := "law.go:199", after := #[{ on := 28, ground := Go.Ground.data }, { on := 23, ground := Go.Ground.guard }], guard := some (23, false) }) (v := ?_) rfl (by kernel_rfl) (by kernel_rfl) (by kernel_rfl) (fun _ _ _ h => h) (Or.inl ⟨by rfl, ?_⟩) (by assumption) ?_
          rotate_left
          · intro w hSw
            have d2 := (HCS.out _ hSw.out).2.2
            go_simp
            try with_reducible rfl
          try simp only [Act.put, List.setIfInBounds_toArray, List.set_cons_zero, List.set_cons_succ]
          refine wpAnyH_take (i := 30) (oi := { dst := some 237, op := Go.Op.fieldAddr 41 (Go.Operand.tmp 14) 2, type := 0, pos := "law.go:199", after := #[{ on := 23, ground := Go.Ground.guard }], guard := some (23, false) }) (v := ?_) rfl (by kernel_rfl) (by kernel_rfl) (by kernel_rfl) (fun _ _ _ h => h) (Or.inl ⟨by rfl, ?_⟩) (by assumption) ?_
          rotate_left
          · intro w hSw
            go_simp
            try with_reducible rfl
          try simp only [Act.put, List.setIfInBounds_toArray, List.set_cons_zero, List.set_cons_succ]
          refine wpAnyH_take (i := 31) (oi := { dst := some 238, op := Go.Op.load 9 (Go.Operand.tmp 237), type := 9, pos := "law.go:199", after := #[{ on := 30, ground := Go.Ground.data }, { on := 23, ground := Go.Ground.guard }], guard := some (23, false) }) (v := ?_) rfl (by kernel_rfl) (by kernel_rfl) (by kernel_rfl) (fun _ _ _ h => h) (Or.inl ⟨by rfl, ?_⟩) (by assumption) ?_
          rotate_left
          · intro w hSw
            have b2 := (K14.out.below hSw.out).cell 2 rfl
            go_simp
            try with_reducible rfl
          try simp only [Act.put, List.setIfInBounds_toArray, List.set_cons_zero, List.set_cons_succ]
          refine wpAnyH_take (i := 32) (oi := { dst := some 239, op := Go.Op.move (Go.Operand.tmp 15), type := 4, pos := "law.go:199", after := #[{ on := 23, ground := Go.Ground.guard }], guard := some (23, false) }) (v := ?_) rfl (by kernel_rfl) (by kernel_rfl) (by kernel_rfl) (fun _ _ _ h => h) (Or.inl ⟨by rfl, ?_⟩) (by assumption) ?_
          rotate_left
          · intro w hSw
            go_simp
            try with_reducible rfl
          try simp only [Act.put, List.setIfInBounds_toArray, List.set_cons_zero, List.set_cons_succ]
          refine wpAnyH_ready (rs := [33]) (by kernel_rfl) (by simp) ?_
          refine AllReadyH.cons (o := { dst := some 240, op := Go.Op.call { callee := Go.Callee.value (Go.Operand.func 15), args := #[Go.Operand.tmp 236, Go.Operand.tmp 238, Go.Operand.tmp 239], argTypes := #[9, 9, 4] }, type := 4, pos := "law.go:199", after := #[{ on := 29, ground := Go.Ground.data }, { on := 31, ground := Go.Ground.data }, { on := 32, ground := Go.Ground.data }, { on := 23, ground := Go.Ground.chain }, { on := 23, ground := Go.Ground.guard }], guard := some (23, false) }) rfl (fun K hK => ?_) AllReadyH.nil
          go_simp
          go_at_call 15
          with_reducible refine Calls.mono (HNR.out wd) ?_
          rintro e y1 ⟨rfl, D1⟩
          have X1 := hide (chain X0.out D1)
          clear D1 hHeld
          try dsimp only
          refine hK.out _ _ X1 (fun hHeld => ?_)
          clear hK K
          try simp only [Act.put, List.setIfInBounds_toArray, List.set_cons_zero, List.set_cons_succ]
          refine wpAnyH_take (i := 34) (oi := { dst := some 241, op := Go.Op.unOp Go.UnOp.not 4 (Go.Operand.tmp 240), type := 4, pos := "law.go:199", after := #[{ on := 33, ground := Go.Ground.data }, { on := 23, ground := Go.Ground.guard }], guard := some (23, false) }) (v := ?_) rfl (by kernel_rfl) (by kernel_rfl) (by kernel_rfl) (fun _ _ _ h => h) (Or.inl ⟨by rfl, ?_⟩) (by assumption) ?_
          rotate_left
          · intro w hSw
            go_simp
            try with_reducible rfl
          try simp only [Act.put, List.setIfInBounds_toArray, List.set_cons_zero, List.set_cons_succ]
          refine wpAnyH_take (i := 35) (oi := { dst := some 242, op := Go.Op.pick (Go.Operand.tmp 230) (Go.Operand.const (Go.Value.bool true)) (Go.Operand.tmp 241), type := 4, pos := "law.go:199", after := #[{ on := 23, ground := Go.Ground.data }, { on := 34, ground := Go.Ground.data }, { on := 2, ground := Go.Ground.guard }], guard := some (2, true) }) (v := ?_) rfl (by kernel_rfl) (by kernel_rfl) (by kernel_rfl) (fun _ _ _ h => h) (Or.inl ⟨by rfl, ?_⟩) (by assumption) ?_
          rotate_left
          · intro w hSw
            go_simp
            try with_reducible rfl
          try simp only [Act.put, List.setIfInBounds_toArray, List.set_cons_zero, List.set_cons_succ]
          refine wpAnyH_take (i := 36) (oi := { dst := some 243, op := Go.Op.pick (Go.Operand.tmp 209) (Go.Operand.tmp 242) (Go.Operand.const (Go.Value.bool false)), type := 4, pos := "law.go:199", after := #[{ on := 2, ground := Go.Ground.data }, { on := 35, ground := Go.Ground.data }], guard := none }) (v := ?_) rfl (by kernel_rfl) (by kernel_rfl) (by kernel_rfl) (fun _ _ _ h => h) (Or.inl ⟨by rfl, ?_⟩) (by assumption) ?_
          rotate_left
          · intro w hSw
            go_simp
            try with_reducible rfl
          try simp only [Act.put, List.setIfInBounds_toArray, List.set_cons_zero, List.set_cons_succ]
          refine wpAnyH_done (by kernel_rfl) ?_ _
          replace HBj := hide (chain HBj.out X1.out)
          clear X0 X1 hHeld K14
          go_wp2
          refine ⟨⟨k + 1, by omega, by simp, HBj.out⟩, by simp [intOf]; omega⟩
      · as_aux_lemma =>
          have HS := hide (look_any (E := E) ((k : Int) + 1) (by omega) (by omega) (HL.out.below HBj.out) (HV17.out _ (chain HB.out HBj.out)))
          rw [show erv E (fE L ((k : Int) + 1)) = sent (E (fE L ((k : Int) + 1))) by unfold erv; rw [if_neg hE]] at HS
          unfold sent at HS
          obtain ⟨⟨xf, xt, xs, xp⟩, hX⟩ : ∃ X, fv L ((k : Int) + 1) = X := ⟨_, rfl⟩
          rw [hX] at HS
          dsimp only [Lt.a] at HS
          clear hX
          go_wp2_with fail
          refine Calls.mono HS.out ?_
          rintro e w3 ⟨rfl, b⟩
          replace HBj := hide (chain HBj.out b)
          clear b HS
          obtain ⟨W4, hW, B8, D8⟩ := box1 w3 [.int .i64 xf, .int .i64 xt, .string xs] 41
          obtain ⟨q14, hq⟩ : ∃ q, w3.heap.size = q := ⟨_, rfl⟩
          rw [hq] at B8
          have K14 := hide B8
          replace HBj := hide (chain HBj.out D8)
          clear B8 D8
          go_upto_region 38 with fail
          try simp only [hW, hq]
          clear hW hq
          have HBd := hide (chain HBj.out (Below.refl W4.heap.size W4).drew)
          clear HBj K14
          go_region
          go_wp2
          refine ⟨⟨k + 1, by omega, by simp, HBd.out⟩, by simp [intOf]; omega⟩
    · obtain rfl : k = S.length := by omega
      have hk1 : ¬ (S.length : Int) + 1 ≤ (S.length : Int) := by omega
      have HZ := hide (chain HB.out HBj.out)
      go_wp2
      go_ret
      exact ⟨rfl, HZ.out⟩
end Go.Proofs.YtgnkmenjjmfcfaaDoor.linkNear
