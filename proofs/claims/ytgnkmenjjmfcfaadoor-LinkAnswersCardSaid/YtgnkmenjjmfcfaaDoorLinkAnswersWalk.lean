/-
  ferrylaw21.LinkAnswers.
-/
import Derived.Test.YtgnkmenjjmfcfaaDoorLkAns
namespace Go.Proofs.YtgnkmenjjmfcfaaDoor.linkAnswers
open Go.Proofs.YtgnkmenjjmfcfaaDoor Go.RowKit FerryCrc
set_option linter.unusedVariables false
set_option linter.unusedSimpArgs false
set_option maxRecDepth 100000 in
set_option maxHeartbeats 40000000 in
theorem law (a : Option Addr) (n c : Nat) (R : List Kp) (w : World) {E : Nat → Addr} (he : Errs w E) (hs : Rcs kpC 7 w a n c R) (hok : ∀ o ∈ R, o.ok2) (hn : n ≤ 2199023255488) :
    Calls Tryd.prog 3 #[.slice a n c] w fun e w' => e = .returned (.bool true) ∧ Below w.heap.size w w' := by
  have HF := hide (fixed_any w he.toQ)
  have HE := hide he
  have HR := hide (fun (w' : World) (b : Below w.heap.size w w') => hs.below b)
  have HOK := hide hok
  have HRN := hide hs.size
  clear he hs hok
  go_enter Tryd.func3, Tryd.ntmps3
  go_wp2_with fail
  refine Calls.mono HF.out ?_
  rintro e w1 ⟨rfl, b⟩
  have HB0 := hide b
  clear b HF
  go_wp2_with fail
  refine Calls.mono (new_any w1) ?_
  rintro e w2 ⟨lb, mb, rfl, l1, p1, p2, b1⟩
  have HL1 := hide l1
  have HP1 : Hid (w.heap.size ≤ lb ∧ w.heap.size ≤ mb) := by have := HB0.out.size; exact ⟨by omega, by omega⟩
  have HB1 := hide (chain HB0.out b1)
  clear l1 b1 p1 p2
  go_wp2_with fail
  refine Calls.mono (new_any w2) ?_
  rintro e w3 ⟨lc, mc, rfl, l1, p1, p2, b1⟩
  have HL2 := hide l1
  have HP2 : Hid (w.heap.size ≤ lc ∧ w.heap.size ≤ mc ∧ w2.heap.size ≤ lc ∧ w2.heap.size ≤ mc) := by have := HB1.out.size; exact ⟨by omega, by omega, by omega, by omega⟩
  have HL1b := hide (HL1.out.below b1)
  have HB2 := hide (chain HB1.out b1)
  have HX : Hid (lb < w2.heap.size ∧ mb < w2.heap.size ∧ w2.heap.size ≤ w3.heap.size) := ⟨HL1.out.lb_lt, HL1.out.mb_lt, b1.size⟩
  clear l1 b1 p1 p2 HL1
  obtain ⟨w4, hW, X1, X2, DD⟩ := box2 w3 [.slice none 0 0] 28 [.slice none 0 0] 28
  obtain ⟨r1, hq⟩ : ∃ q, w3.heap.size = q := ⟨_, rfl⟩
  have HRR : Hid (w3.heap.size = r1) := hq
  rw [hq] at X1 X2
  have T1 := hide (tw_new (wb := w) (w' := w) HL1b.out DD X1 (chain HB2.out DD) HP1.out (by have h1 := HB2.out.size; omega))
  have T2 := hide (tw_new (wb := w) (w' := w) HL2.out DD X2 (chain HB2.out DD) ⟨HP2.out.1, HP2.out.2.1⟩ (by have h1 := HB2.out.size; omega))
  have HA : Hid (Apt lb mb r1 none lc mc (r1 + 1) none) := by
    intro k h1 h2
    have h3 := HX.out
    have h4 := HP2.out
    have h5 := HL2.out.lb_lt
    have h6 := HL2.out.mb_lt
    have h7 := HRR.out
    rcases h1 with (rfl | rfl) | (rfl | h1) <;> rcases h2 with (h2 | h2) | (h2 | h2) <;> first | omega | cases h1 | cases h2
  clear X1 X2 DD HL1b HL2 HB0 HB1 HB2 HP1 HP2 HX
  go_upto_region 5 with fail
  try simp only [hW, hq]
  clear hW hq HRR
  go_upto_region 8 with fail
  go_loopw [7] (fun s wr => ∃ (i : Nat) (va : Option Addr) (vc : Nat) (L : Lk) (D : List Md) (vb : Option Addr) (vd : Nat) (M : Lk) (F : List Md), i ≤ n ∧ s = .int .i64 (i : Int) ∧ Hid (Tw2 w wr lb mb r1 va vc L D) ∧ Hid (Tw2 w wr lc mc (r1 + 1) vb vd M F) ∧ Hid (Apt lb mb r1 va lc mc (r1 + 1) vb) ∧ Hid (L.n ≤ i ∧ M.n ≤ i)) (fun s _ => n - (intOf s).toNat)
  case atStart =>
    exact ⟨0, none, 0, _, [], none, 0, _, [], Nat.zero_le _, rfl, T1.out, T2.out, HA.out, Nat.le_refl _, Nat.le_refl _⟩
  case round =>
  obtain ⟨i, va, vc, L, D, vb, vd, M, F, hi, rfl, S1, S2, HAp, HLe⟩ := hrel
  clear T1 T2 HA
  by_cases hlt : i < n
  · as_aux_lemma =>
      obtain ⟨⟨kd, sd, N, X, Y, mq, sb⟩, ho⟩ : ∃ o, R[i]? = some o := ⟨_, List.getElem?_eq_getElem (by have := HRN.out; omega)⟩
      have HO := hide (HOK.out _ (List.mem_of_getElem? ho))
      obtain ⟨b0, of0, ea, hc⟩ := (HR.out wr S1.out.b).at kp7 (by decide) ho
      subst ea
      have x0 := hc 0 _ rfl
      have x1 := hc 1 _ rfl
      have x2 := hc 2 _ rfl
      have x3 := hc 3 _ rfl
      have x4 := hc 4 _ rfl
      have x5 := hc 5 _ rfl
      have x6 := hc 6 _ rfl
      simp only [Nat.add_zero] at x0
      clear hc ho
      have hj1 : (i : Int) < (n : Int) := by omega
      have hj0 : ¬ (i : Int) < 0 := by omega
      cases sd with
      | true =>
        have HC := hide (lkPlays.plays_any (HE.out) S2.out (by have := HLe.out; omega) kd true N X Y mq sb HO.out.1.1 HO.out.1.2.1 HO.out.2 HO.out.1.2.2.1 HO.out.1.2.2.2)
        go_wp2_with fail
        refine Calls.mono HC.out ?_
        rintro e wz ⟨rfl, M', F', vb', vd', T2, fr, nb, hle, -⟩
        have Z2 := hide T2
        have Z1 := hide (tw_frm S1.out fr HAp.out T2.b)
        have HA2 := hide ((apt_step HAp.out.sym S1.out nb).sym)
        have HLE := hide hle
        clear HC T2 fr nb hle S1 S2 HAp x0 x1 x2 x3 x4 x5 x6
        go_wp2
        exact ⟨⟨i + 1, _, _, _, _, _, _, _, _, by omega, by simp, Z1.out, Z2.out, HA2.out, by have h1 := HLe.out; have h2 := HLE.out; exact ⟨by omega, by omega⟩⟩, by simp [intOf]; omega⟩
      | false =>
        have HC := hide (lkPlays.plays_any (HE.out) S1.out (by have := HLe.out; omega) kd false N X Y mq sb HO.out.1.1 HO.out.1.2.1 HO.out.2 HO.out.1.2.2.1 HO.out.1.2.2.2)
        go_wp2_with fail
        refine Calls.mono HC.out ?_
        rintro e wz ⟨rfl, L', D', va', vc', T1, fr, nb, hle, -⟩
        have Z1 := hide T1
        have Z2 := hide (tw_frm S2.out fr HAp.out.sym T1.b)
        have HA2 := hide (apt_step HAp.out S2.out nb)
        have HLE := hide hle
        clear HC T1 fr nb hle S1 S2 HAp x0 x1 x2 x3 x4 x5 x6
        go_wp2
        exact ⟨⟨i + 1, _, _, _, _, _, _, _, _, by omega, by simp, Z1.out, Z2.out, HA2.out, by have h1 := HLe.out; have h2 := HLE.out; exact ⟨by omega, by omega⟩⟩, by simp [intOf]; omega⟩
  · --
    obtain rfl : n = i := by omega
    have hnk : ¬ (n : Int) < (n : Int) := by omega
    go_upto_region 17 with fail
    generalize wr = W1 at *
    go_loopw [9] (fun s wr => ∃ (j : Nat) (va : Option Addr) (vc : Nat) (D : List Md), j ≤ L.n + 3 ∧ s = .int .i64 ((j : Int) - 1) ∧ Hid (Tw2 w wr lb mb r1 va vc L D) ∧ Hid (Tw2 w wr lc mc (r1 + 1) vb vd M F) ∧ Hid (Apt lb mb r1 va lc mc (r1 + 1) vb)) (fun s _ => L.n + 4 - (intOf s + 1).toNat)
    case atStart => exact ⟨0, va, vc, D, Nat.zero_le _, rfl, S1.out, S2.out, HAp.out⟩
    case round =>
    obtain ⟨j, va, vc, D, hj, rfl, S1, S2, HAp⟩ := hrel
    have r0 := S1.out.r.bk.cell 0 rfl
    rw [S1.out.s.len] at r0
    have hLn : (L.n : Int) ≤ 2199023255488 := by have := HLe.out; omega
    have hjb : (j : Int) ≤ (L.n : Int) + 3 := by omega
    by_cases hlt2 : j ≤ L.n + 2
    · as_aux_lemma =>
        have hj1 : (j : Int) - 1 ≤ (L.n : Int) + 1 := by omega
        have HC := hide (lkPlays.plays_any (HE.out) S1.out (by have := HLe.out; omega) 2 false ((j : Int) - 1) 0 0 0 ⟨#[]⟩ ⟨by omega, by omega⟩ ⟨by decide, by decide⟩ ⟨by decide, by decide⟩ (by decide) (by decide))
        go_wp2_with fail
        refine Calls.mono HC.out ?_
        rintro e wz ⟨rfl, L', D', va', vc', T1, fr, nb, hle, hq⟩
        obtain rfl := hq (.inl rfl)
        have Z1 := hide T1
        have Z2 := hide (tw_frm S2.out fr HAp.out.sym T1.b)
        have HA2 := hide (apt_step HAp.out S2.out nb)
        clear HC T1 fr nb hle hq S1 S2 HAp r0
        have HC := hide (lkPlays.plays_any (HE.out) Z1.out (by have := HLe.out; omega) 8 false ((j : Int) - 1) 0 0 0 ⟨#[]⟩ ⟨by omega, by omega⟩ ⟨by decide, by decide⟩ ⟨by decide, by decide⟩ (by decide) (by decide))
        go_wp2_with fail
        refine Calls.mono HC.out ?_
        rintro e wy ⟨rfl, L', D', va', vc', T1, fr, nb, hle, hq⟩
        obtain rfl := hq (.inr rfl)
        have Y1 := hide T1
        have Y2 := hide (tw_frm Z2.out fr HA2.out.sym T1.b)
        have HA3 := hide (apt_step HA2.out Z2.out nb)
        clear HC T1 fr nb hle hq Z1 Z2 HA2
        go_wp2
        exact ⟨⟨j + 1, _, _, _, by omega, by simp, Y1.out, Y2.out, HA3.out⟩, by simp [intOf]; omega⟩
    · as_aux_lemma =>
        have hj1 : ¬ (j : Int) - 1 ≤ (L.n : Int) + 1 := by omega
        have HC := hide (lkPlays.plays_any (HE.out) S2.out (by have := HLe.out; omega) 8 false 0 0 0 0 ⟨#[]⟩ ⟨by decide, by decide⟩ ⟨by decide, by decide⟩ ⟨by decide, by decide⟩ (by decide) (by decide))
        go_wp2_with fail
        refine Calls.mono HC.out ?_
        rintro e wz ⟨rfl, M', F', vb', vd', T2, fr, nb, hle, hq⟩
        obtain rfl := hq (.inr rfl)
        have Z2 := hide T2
        clear HC T2 fr nb hle hq S1 S2 HAp r0
        have HC := hide (lkPlays.plays_any (HE.out) Z2.out (by have := HLe.out; omega) 8 false 1 0 0 0 ⟨#[]⟩ ⟨by decide, by decide⟩ ⟨by decide, by decide⟩ ⟨by decide, by decide⟩ (by decide) (by decide))
        go_wp2_with fail
        refine Calls.mono HC.out ?_
        rintro e wy ⟨rfl, M', F', vb', vd', T2, fr, nb, hle, hq⟩
        have HZ := hide T2.b
        clear HC T2 fr nb hle hq Z2
        go_wp2
        go_ret
        exact ⟨rfl, HZ.out⟩
end Go.Proofs.YtgnkmenjjmfcfaaDoor.linkAnswers
