/-
  Walk of the law PortLoses.
-/
import Derived.Test.YtgcodajiehfloaaDoorPortFramesWalk
import Derived.Test.YtgcodajiehfloaaDoorPlLose
namespace Go.Proofs.YtgcodajiehfloaaDoor.portLoses
open Go.RowKit portFrames
set_option linter.unusedVariables false
set_option linter.unusedSimpArgs false

theorem rcs_none (w : World) : Rcs Mgv.cells 2 w none 0 0 [] := ⟨rfl, rfl, Nat.le_refl _, fun _ => ⟨rfl, rfl⟩, fun j v hv => by simp at hv⟩

set_option maxRecDepth 100000 in
set_option maxHeartbeats 8000000 in
theorem law {E : Nat → Addr} (k s d r : Int) (a : Option Addr) (len cap : Nat) (age : Int) (D : ByteArray) (a7 : Option Addr) (n7 c7 : Nat) (ps : List Plv) (a8 : Option Addr) (n8 c8 : Nat) (l : List Pr) (a9 : Option Addr) (n9 c9 : Nat) (ms : List Mgv) (w : World) (he : Errs w E)
    (hs7 : Rcs Plv.cells 4 w a7 n7 c7 ps) (hs8 : Prs w a8 n8 c8 l) (hs9 : Rcs Mgv.cells 2 w a9 n9 c9 ms) (hm7 : n7 ≤ 1048576) (hm8 : n8 ≤ 1048576) (hm9 : n9 ≤ 1048576) (hD : ∀ m ∈ ms, m.data.size ≤ 9223372036854775807) :
    Calls Tryd.prog 4 #[.agg #[.int .i64 k, .int .i64 s, .int .i64 d, .int .i64 r, .slice a len cap, .int .i64 age, .string D, .slice a7 n7 c7, .slice a8 n8 c8, .slice a9 n9 c9]] w fun e w' => e = .returned (.bool true) ∧ Below w.heap.size w w' := by
  have HE := hide he
  have H7 := hide hs7
  have H8 := hide hs8
  have H9 := hide hs9
  have HD := hide hD
  have CZ := hide (cz_alloc w k s d r (.slice a len cap) age D (.slice a7 n7 c7) (.slice a8 n8 c8) (.slice a9 n9 c9))
  have DC := hide (cx_below w k s d r (.slice a len cap) age D (.slice a7 n7 c7) (.slice a8 n8 c8) (.slice a9 n9 c9))
  clear he hs7 hs8 hs9 hD
  go_enter Tryd.func4, Tryd.ntmps4
  go_wp2_with fail
  generalize w.alloc (.cells #[.int .i64 k, .int .i64 s, .int .i64 d, .int .i64 r, .slice a len cap, .int .i64 age, .string D, .slice a7 n7 c7, .slice a8 n8 c8, .slice a9 n9 c9] 31) = W0 at *
  refine Calls.mono (fixed_yes (HE.out.below DC.out)) ?_
  rintro e w1 ⟨rfl, b1⟩
  have CZ := hide (CZ.out.below b1)
  have DC := hide (chain DC.out b1)
  clear b1
  go_wp2_with fail
  have HH : Hid (∀ wz, Below w1.heap.size w1 wz → wz.cell? ⟨w.heap.size, 7, none⟩ = some (.slice a7 n7 c7) ∧ wz.cell? ⟨w.heap.size, 8, none⟩ = some (.slice a8 n8 c8) ∧ wz.cell? ⟨w.heap.size, 9, none⟩ = some (.slice a9 n9 c9)) := fun wz hz => by have q := CZ.out.below hz; exact ⟨q.c7, q.c8, q.c9⟩
  have J7 := hide (H7.out.below DC.out)
  have J8 := hide (H8.out.below DC.out)
  have J9 := hide (H9.out.below DC.out)
  have JE := hide (HE.out.below DC.out)
  go_cut [3, 4, 5] (fun v3 v4 v5 wx => IsErr wx E v5 (allE ps (l.map Pr.key)).1 (allE ps (l.map Pr.key)).2 ∧ (∃ l', PrOwn wx w1.heap.size v3 l' ∧ l'.map Pr.key = (arrK ps (l.map Pr.key) ms).1) ∧ wx.ownsRow w1.heap.size 65 4 v4 (arrK ps (l.map Pr.key) ms).2.length ((arrK ps (l.map Pr.key) ms).2.flatMap repc) ∧ Below w1.heap.size w1 wx)
  case first =>
    as_aux_lemma =>
      go_region_held3 (fun wz => wz.cell? ⟨w.heap.size, 7, none⟩ = some (.slice a7 n7 c7) ∧ wz.cell? ⟨w.heap.size, 8, none⟩ = some (.slice a8 n8 c8) ∧ wz.cell? ⟨w.heap.size, 9, none⟩ = some (.slice a9 n9 c9))
        (first | exact HH.out _ ((Below.refl _ _).drew) | exact HH.out _ B8.out | exact HH.out _ B6.out)
        (first
          | (go_at_call 7; refine (copiedAll_any a8 n8 c8 l (J8.out.below ((Below.refl _ _).drew)) hm8).mono ?_; rintro e w6 ⟨x6, l6, rfl, h6, k6, b6⟩; have O6 := hide h6; have K6 := hide k6; have B6 : Hid (Below w1.heap.size w1 w6) := undrew b6; clear h6 k6 b6)
          | (go_at_call 6; obtain ⟨a6, c6, rfl, pr6⟩ := O6.out.prs; have hl6 : l6.length = n8 := by { have h := congrArg List.length K6.out; rw [List.length_map, List.length_map, H8.out.rcs.size] at h; exact h }; refine (arrive_any (JE.out.below B6.out) a7 n7 c7 ps a6 l6.length c6 l6 a9 n9 c9 ms (J7.out.below B6.out) pr6 (J9.out.below B6.out) hm7 (by rw [hl6]; exact hm8) hm9 HD.out).mono ?_; rintro e w8 ⟨x8, r8, v8, rfl, hv8, hx8, hr8, b8⟩; rw [K6.out] at hv8 hx8 hr8; have B8 : Hid (Below w1.heap.size w1 w8) := chain B6.out b8; have V8 := hide hv8; have X8 := hide hx8; have R8 := hide hr8; have Z8 := hide B6.out.size; clear hv8 hx8 hr8 b8))
      all_goals go_wp2
      all_goals go_meet
      all_goals (obtain ⟨l', hx1, hx2⟩ := X8.out; exact ⟨V8.out, ⟨l', hx1.weaken Z8.out, hx2⟩, ownsRow_weaken R8.out Z8.out, B8.out⟩)
  case rest =>
    obtain ⟨hv, ⟨l1, ho1, hk1⟩, hr1, b2⟩ := hcut
    have V1 := hide hv
    have O1 := hide ho1
    have K1 := hide hk1
    have R1 := hide hr1
    have D2 := hide (chain DC.out b2)
    have C2 := hide (CZ.out.below b2)
    clear hv ho1 hk1 hr1 b2 CZ DC J7 J8 J9 JE HH
    have q7 := C2.out.c7
    have q8 := C2.out.c8
    go_wp2_with fail
    refine Calls.mono (refArrive_any a7 n7 c7 ps a8 n8 c8 l none 0 0 [] (H7.out.below D2.out) (H8.out.below D2.out) (rcs_none _) hm7 hm8 (by decide) (fun m hm => by simp at hm)) ?_
    rintro e w3 ⟨x3, r3, rfl, _, _, b3⟩
    have V3 := hide (V1.out.below b3)
    have O1 := hide (O1.out.below b3)
    have R1 := hide (ownsRow_below R1.out b3)
    have D3 := hide (chain D2.out b3)
    have C3 := hide (C2.out.below b3)
    clear b3 q7 q8 V1 D2 C2
    obtain ⟨cc, hcc⟩ : ∃ cc, (allE ps (l.map Pr.key)).1 = cc := ⟨_, rfl⟩
    obtain ⟨pp, hpp⟩ : ∃ pp, (allE ps (l.map Pr.key)).2 = pp := ⟨_, rfl⟩
    rw [hcc, hpp] at V3 ⊢
    have HCC := hide hcc
    have HPP := hide hpp
    clear hcc hpp
    have TE := hide (two_alloc w3 (.int .i64 (cc : Int)) (.int .i64 pp) 40)
    have BE := hide (new_below' w3 (.cells #[.int .i64 (cc : Int), .int .i64 pp] 40))
    obtain ⟨ra, rc, e1, _⟩ := own_rcs R1.out
    subst e1
    obtain ⟨oa, oc, eo, po⟩ := O1.out.prs
    subst eo
    have hl1 : l1.length = (arrK ps (l.map Pr.key) ms).1.length := by rw [← K1.out, List.length_map]
    by_cases h0 : cc = 0
    case neg =>
      as_aux_lemma =>
        have hne : ((cc : Int) != 0) = true := by simp; omega
        have HA : Hid (arrK ps (l.map Pr.key) ms = ([], [])) := by unfold Hid arrK; rw [if_neg (by rw [HCC.out]; exact h0)]
        rw [HA.out] at hl1
        have hz1 : l1.length = 0 := hl1
        have hz2 : (arrK ps (l.map Pr.key) ms).2.length = 0 := by rw [HA.out]; rfl
        rw [hz1, hz2]
        have t0 := TE.out.c0
        have t1 := TE.out.c1
        clear h0 hl1 hz1 hz2
        go_wp2_with fail
        generalize w3.alloc (.cells #[.int .i64 (cc : Int), .int .i64 pp] 40) = W3 at *
        have D4 := hide (chain D3.out BE.out)
        refine Calls.mono (told_yes (HE.out.below D4.out) u5 cc pp (V3.out.below BE.out)) ?_
        rintro e w4 ⟨rfl, b4⟩
        have D5 := hide (chain D4.out b4)
        clear b4 t0 t1
        go_wp2
        go_ret
        exact ⟨rfl, D5.out⟩
    subst h0
    rw [show ((0 : Nat) : Int) = 0 from rfl] at TE BE
    obtain ⟨hu5, hp1⟩ : u5 = .nilIface ∧ pp = -1 := by
      rcases V3.out with ⟨h, _, h'⟩ | ⟨h, _, _, _⟩ | ⟨h, _, _⟩
      · exact ⟨h, h'⟩
      · simp at h
      · simp at h
    subst hu5 hp1
    have OK0 := hide (okK_of HCC.out)
    have HAR : Hid (arrK ps (l.map Pr.key) ms = arrive ps (l.map Pr.key) ms) := by unfold Hid arrK; rw [if_pos HCC.out]
    obtain ⟨hOA, hcnt⟩ := arrive_count ms OK0.out
    have hn78 : n7 = n8 := by
      have h := OK0.out.len
      rw [List.length_map, H7.out.size, H8.out.rcs.size] at h
      exact h
    subst hn78
    have h7l := H7.out.size
    have h8l := H8.out.rcs.size
    have h9l := H9.out.size
    rw [HAR.out] at K1 R1 hl1 ⊢
    rw [← HAR.out] at hOA hcnt
    rw [HAR.out] at hOA hcnt
    generalize hAA : (arrive ps (l.map Pr.key) ms).1 = A at *
    generalize hRR : (arrive ps (l.map Pr.key) ms).2 = Rr at *
    have hAl : A.length = n7 := by rw [← hOA.len]; exact h7l
    rw [h7l, h9l] at hcnt
    rw [hAl] at hl1
    rw [hl1] at po ⊢
    have HOA := hide hOA
    have HCN := hide hcnt
    have hRl : Rr.length ≤ n9 := by
      have h := (arrK_len ps (l.map Pr.key) ms).2
      rw [HAR.out, hRR, h9l] at h
      exact h
    have PO := hide (po.below BE.out)
    have D4 := hide (chain D3.out BE.out)
    have C4 := hide (C3.out.below BE.out)
    clear hOA hcnt po C3 D3 O1 R1 V3 hAA hRR HAR
    have t0 := TE.out.c0
    have q8 := C4.out.c8
    go_upto_region 8 with fail
    generalize w3.alloc (.cells #[.int .i64 0, .int .i64 (-1)] 40) = W3 at *
    clear t0 q8 TE BE
    have F7 := hide (H7.out.below D4.out)
    have F8 := hide (H8.out.below D4.out)
    have F9 := hide (H9.out.below D4.out)
    have LEN8 : Hid (∀ (j : Nat) (p : Plv) (x : Pr), ps[j]? = some p → l[j]? = some x → x.msgs.length ≤ 8) := fun j p x hp hx => by
      have hc := OK0.out.each j p x.key hp (by rw [List.getElem?_map, hx]; rfl)
      exact (fit_len (chk0 hc).1 (chk0 hc).2).1
    have LENA : Hid (∀ (j : Nat) (p : Plv) (x : Pr), ps[j]? = some p → l1[j]? = some x → x.msgs.length ≤ 8) := fun j p x hp hx => by
      have hc := HOA.out.each j p x.key hp (by rw [← K1.out, List.getElem?_map, hx]; rfl)
      exact (fit_len (chk0 hc).1 (chk0 hc).2).1
    go_loopw [9, 10, 12] (fun v9 v10 v12 wx => ∃ (j : Nat) (c h : Int), j ≤ n7 ∧ v12 = .int .i64 (j : Int) ∧ v9 = .int .i64 c ∧ v10 = .int .i64 h ∧ -(8 * (j : Int)) ≤ c ∧ c ≤ 8 * (j : Int) ∧ 0 ≤ h ∧ h ≤ 8 * (j : Int) ∧ Hid (c = sumTo (fun i => que ps A i - que ps (l.map Pr.key) i) j) ∧ Hid (h = sumTo (lenAt A) j) ∧ Hid (Below W3.heap.size W3 wx)) (fun _ _ i _ => n7 - (intOf i).toNat)
    case atStart => exact ⟨0, 0, 0, by omega, rfl, rfl, rfl, by omega, by omega, by omega, by omega, rfl, rfl, Below.refl _ _⟩
    case round =>
      obtain ⟨j, c, h, hj, rfl, rfl, rfl, hc1, hc2, hh1, hh2, hc, hh, hb⟩ := hrel
      have q7 := (C4.out.below hb.out).c7
      have q8 := (C4.out.below hb.out).c8
      have q9 := (C4.out.below hb.out).c9
      by_cases hlt : j < n7
      · obtain ⟨p, hp⟩ : ∃ p, ps[j]? = some p := ⟨_, List.getElem?_eq_getElem (by rw [h7l]; exact hlt)⟩
        obtain ⟨x, hx⟩ : ∃ x, l[j]? = some x := ⟨_, List.getElem?_eq_getElem (by rw [h8l]; exact hlt)⟩
        obtain ⟨y, hy⟩ : ∃ y, l1[j]? = some y := ⟨_, List.getElem?_eq_getElem (by rw [hl1]; exact hlt)⟩
        have hx8 := LEN8.out j p x hp hx
        have hy8 := LENA.out j p y hp hy
        have HLA : Hid (lenAt A j = (y.msgs.length : Int)) := lenAt_is (x := y.key) (by rw [← K1.out, List.getElem?_map, hy]; rfl)
        have HLX : Hid (lenAt (l.map Pr.key) j = (x.msgs.length : Int)) := lenAt_is (x := x.key) (by rw [List.getElem?_map, hx]; rfl)
        have HKD := hide (kindAt_is hp)
        obtain ⟨b, off, rfl, hr⟩ := (F7.out.below hb.out).at plv4 (by decide) hp
        obtain ⟨b', off', rfl, hr'⟩ := (F8.out.below hb.out).rcs.at pr2 (by decide) hx
        obtain ⟨b2, off2, rfl, hr2⟩ := (PO.out.below hb.out).rcs.at pr2 (by decide) hy
        have r0 := hr 0 _ rfl
        have s0 := hr' 0 _ rfl
        have t0 := hr2 0 _ rfl
        simp only [Nat.add_zero] at r0 s0 t0
        clear hr hr' hr2 hp hx hy
        generalize p.k = kk at *
        generalize hxn : x.msgs.length = xn at *
        generalize hyn : y.msgs.length = yn at *
        clear hxn hyn
        have hq1 : (j : Int) < (n7 : Int) := by omega
        have w1h : IntKind.i64.wrap ((yn : Int) - (xn : Int)) = (yn : Int) - (xn : Int) := by rw [IntKind.wrap_i64]; omega
        have w2h : IntKind.i64.wrap (c + ((yn : Int) - (xn : Int))) = c + ((yn : Int) - (xn : Int)) := by rw [IntKind.wrap_i64]; omega
        have w3h : IntKind.i64.wrap (h + (yn : Int)) = h + (yn : Int) := by rw [IntKind.wrap_i64]; omega
        have HHN : Hid (h + (yn : Int) = sumTo (lenAt A) (j + 1)) := by
          unfold Hid
          show _ = sumTo (lenAt A) j + lenAt A j
          rw [HLA.out, ← hh.out]
        as_aux_lemma =>
          by_cases hk3 : kk = 3
          · subst hk3
            have HCN2 : Hid (c + ((yn : Int) - (xn : Int)) = sumTo (fun i => que ps A i - que ps (l.map Pr.key) i) (j + 1)) := by
              unfold Hid
              show _ = sumTo (fun i => que ps A i - que ps (l.map Pr.key) i) j + (que ps A j - que ps (l.map Pr.key) j)
              rw [← hc.out]
              unfold que
              rw [HKD.out, HLA.out, HLX.out]
              simp
            go_wp2_with fail
            go_quiet (fail)
            go_wp2
            go_roundw
            case rel => exact ⟨j + 1, _, _, by omega, by go_num, rfl, rfl, by omega, by omega, by omega, by omega, HCN2.out, HHN.out, drewN_below hb.out nq⟩
            case measure => simp [intOf]; omega
          · have e3 : (kk == 3) = false := by simp [hk3]
            have HCN2 : Hid (c = sumTo (fun i => que ps A i - que ps (l.map Pr.key) i) (j + 1)) := by
              unfold Hid
              show _ = sumTo (fun i => que ps A i - que ps (l.map Pr.key) i) j + (que ps A j - que ps (l.map Pr.key) j)
              rw [← hc.out]
              unfold que
              rw [HKD.out, if_neg hk3, if_neg hk3]
              omega
            clear hk3
            go_wp2
            go_roundw
            case rel => exact ⟨j + 1, _, _, by omega, by go_num, rfl, rfl, by omega, by omega, by omega, by omega, HCN2.out, HHN.out, hb.out⟩
            case measure => simp [intOf]; omega
      · obtain rfl : n7 = j := by omega
        clear hlt
        go_wp2
        go_loopw [11, 13] (fun v11 v13 wx => ∃ (i : Nat) (q : Int), i ≤ n9 ∧ v13 = .int .i64 (i : Int) ∧ v11 = .int .i64 q ∧ 0 ≤ q ∧ q ≤ (i : Int) ∧ Hid (q = sumTo (smpAt ps ms) i) ∧ Hid (Below W3.heap.size W3 wx)) (fun _ i _ => n9 - (intOf i).toNat)
        case atStart => exact ⟨0, 0, by omega, rfl, rfl, by omega, by omega, rfl, hb.out⟩
        case round =>
          clear q7 q8 q9 hb
          obtain ⟨i, q, hi, rfl, rfl, hq1, hq2, hq, hb⟩ := hrel
          have q7 := (C4.out.below hb.out).c7
          have q9 := (C4.out.below hb.out).c9
          by_cases hlt : i < n9
          · obtain ⟨m, hm⟩ : ∃ m, ms[i]? = some m := ⟨_, List.getElem?_eq_getElem (by rw [h9l]; exact hlt)⟩
            obtain ⟨bm, om, rfl, hr⟩ := (F9.out.below hb.out).at mgv2 (by decide) hm
            have hDm := HD.out m (List.mem_of_getElem? hm)
            have r0 := hr 0 _ rfl
            have r1 := hr 1 _ rfl
            simp only [Nat.add_zero] at r0
            have HSM : Hid (sumTo (smpAt ps ms) (i + 1) = q + (if smp ps m = true then 1 else 0)) := by
              unfold Hid
              show sumTo (smpAt ps ms) i + smpAt ps ms i = _
              rw [← hq.out]
              unfold smpAt
              rw [hm]
            have BM := hide (new_below' wr (.cells #[.int .i64 m.port, .string m.data] 53))
            have TM := hide (two_alloc wr (.int .i64 m.port) (.string m.data) 53)
            have CM := hide ((C4.out.below hb.out).below BM.out)
            have hqi : (i : Int) < (n9 : Int) := by omega
            have w1h : IntKind.i64.wrap (q + 1) = q + 1 := by rw [IntKind.wrap_i64]; omega
            clear hr hm
            go_upto_region 21 with fail
            clear r0 r1 q7 q9
            generalize wr.alloc (.cells #[.int .i64 m.port, .string m.data] 53) = WM at *
            have DM := hide (chain hb.out BM.out)
            have t0 := TM.out.c0
            have t1 := TM.out.c1
            have q7 := CM.out.c7
            as_aux_lemma =>
              by_cases hlow : m.port < 0
              · have d1 : decide (0 ≤ m.port) = false := decide_eq_false (by omega)
                have hs : smp ps m = false := by unfold smp; rw [d1]; rfl
                rw [hs] at HSM
                clear hs
                go_wp2_with fail
                go_quiet (fail)
                go_wp2
                go_roundw
                case rel => exact ⟨i + 1, _, by omega, by go_num, rfl, by omega, by omega, by unfold Hid; rw [HSM.out]; simp, drewN_below DM.out nq⟩
                case measure => simp [intOf]; omega
              by_cases hhigh : (n7 : Int) ≤ m.port
              · have d1 : decide (0 ≤ m.port) = true := decide_eq_true (by omega)
                have d2 : decide (m.port < (n7 : Int)) = false := decide_eq_false (by omega)
                have hs : smp ps m = false := by
                  unfold smp
                  rw [List.getElem?_eq_none (by rw [h7l]; omega)]
                  simp
                rw [hs] at HSM
                clear hs
                go_wp2_with fail
                go_quiet (fail)
                go_wp2
                go_roundw
                case rel => exact ⟨i + 1, _, by omega, by go_num, rfl, by omega, by omega, by unfold Hid; rw [HSM.out]; simp, drewN_below DM.out nq⟩
                case measure => simp [intOf]; omega
              obtain ⟨t, ht⟩ : ∃ t : Nat, m.port = (t : Int) := ⟨m.port.toNat, by omega⟩
              have htl : t < n7 := by omega
              obtain ⟨p, hp⟩ : ∃ p, ps[t]? = some p := ⟨_, List.getElem?_eq_getElem (by rw [h7l]; exact htl)⟩
              obtain ⟨b, off, rfl, hr⟩ := (F7.out.below DM.out).at plv4 (by decide) hp
              have r0 := hr 0 _ rfl
              have r1 := hr 1 _ rfl
              simp only [Nat.add_zero] at r0
              have hsm : smp ps m = (decide (p.k = 1) && decide ((m.data.size : Int) ≤ p.s)) := by
                unfold smp
                rw [show m.port.toNat = t by omega, hp]
                simp only
                rw [decide_eq_true (show 0 ≤ m.port by omega)]
                simp
              rw [ht] at t0 hlow hhigh
              have d1 : decide (0 ≤ (t : Int)) = true := decide_eq_true (by omega)
              have d2 : decide ((t : Int) < (n7 : Int)) = true := decide_eq_true (by omega)
              have hqt : (t : Int) < (n7 : Int) := by omega
              clear hr hp ht
              generalize p.k = kk at *
              generalize p.s = ss at *
              generalize hdz : m.data.size = dz at *
              by_cases hk1 : kk = 1
              · subst hk1
                by_cases hds : (dz : Int) ≤ ss
                · have d3 : decide ((dz : Int) ≤ ss) = true := decide_eq_true hds
                  rw [hsm, d3] at HSM
                  clear hsm
                  go_wp2_with fail
                  go_quiet (fail)
                  go_wp2
                  go_roundw
                  case rel => exact ⟨i + 1, _, by omega, by go_num, rfl, by omega, by omega, by unfold Hid; rw [HSM.out]; simp, drewN_below DM.out nq⟩
                  case measure => simp [intOf]; omega
                · have d3 : decide ((dz : Int) ≤ ss) = false := decide_eq_false hds
                  rw [hsm, d3] at HSM
                  clear hsm
                  go_wp2_with fail
                  go_quiet (fail)
                  go_wp2
                  go_roundw
                  case rel => exact ⟨i + 1, _, by omega, by go_num, rfl, by omega, by omega, by unfold Hid; rw [HSM.out]; simp, drewN_below DM.out nq⟩
                  case measure => simp [intOf]; omega
              · have e1 : (kk == 1) = false := by simp [hk1]
                rw [hsm, decide_eq_false hk1] at HSM
                clear hsm hk1
                go_wp2_with fail
                go_quiet (fail)
                go_wp2
                go_roundw
                case rel => exact ⟨i + 1, _, by omega, by go_num, rfl, by omega, by omega, by unfold Hid; rw [HSM.out]; simp, drewN_below DM.out nq⟩
                case measure => simp [intOf]; omega
          · obtain rfl : i = n9 := by omega
            clear hlt
            have w1h : IntKind.i64.wrap (c + q) = c + q := by rw [IntKind.wrap_i64]; omega
            have w2h : IntKind.i64.wrap (c + q + (Rr.length : Int)) = c + q + (Rr.length : Int) := by rw [IntKind.wrap_i64]; omega
            have hsum : c + q + (Rr.length : Int) = (i : Int) := by rw [hc.out, hq.out]; exact HCN.out
            go_wp2_with fail
            have HH : Hid (∀ wz, Below wr.heap.size wr wz → wz.cell? ⟨w.heap.size, 7, none⟩ = some (.slice a7 n7 c7)) := fun wz hz => ((C4.out.below hb.out).below hz).c7
            have G7 := hide (F7.out.below hb.out)
            have GO := hide (PO.out.below hb.out)
            have DG := hide (chain D4.out hb.out)
            have OKA : Hid (allE ps A = (0, -1)) := HOA.out.all
            clear w1h w2h hsum q7 q9
            go_cut [15, 16, 5] (fun v3 v9 v5 wx => v5 = .nilIface ∧ (∃ l', PrOwn wx wr.heap.size v3 l' ∧ l'.map Pr.key = endAll ps A) ∧ wx.ownsRow wr.heap.size 53 2 v9 (emit ps A n7).length ((emit ps A n7).flatMap Mgv.cells) ∧ Below wr.heap.size wr wx)
            case first =>
              as_aux_lemma =>
                go_region_held3 (fun wz => wz.cell? ⟨w.heap.size, 7, none⟩ = some (.slice a7 n7 c7))
                  (first | exact HH.out _ ((Below.refl _ _).drew) | exact HH.out _ B8.out | exact HH.out _ B6.out)
                  (first
                    | (go_at_call 7; refine (copiedAll_any oa n7 oc l1 (GO.out.below ((Below.refl _ _).drew)) hm8).mono ?_; rintro e w6 ⟨x6, l6, rfl, h6, k6, b6⟩; have O6 := hide h6; have K6 := hide k6; have B6 : Hid (Below wr.heap.size wr w6) := undrew b6; clear h6 k6 b6)
                    | (go_at_call 12; obtain ⟨a6, c6, rfl, pr6⟩ := O6.out.prs; have hl6 : l6.length = n7 := by { have h := congrArg List.length K6.out; rw [List.length_map, List.length_map, hl1] at h; exact h }; refine (emit_any (HE.out.below (chain DG.out B6.out)) a7 n7 c7 ps a6 l6.length c6 l6 (G7.out.below B6.out) pr6 hm7 (by rw [hl6]; exact hm8)).mono ?_; rintro e w8 ⟨x8, r8, v8, rfl, hv8, hx8, hr8, b8⟩; rw [K6.out, K1.out] at hv8 hx8 hr8; rw [OKA.out] at hv8; have hv9 : v8 = .nilIface := by { rcases hv8 with ⟨h, _, _⟩ | ⟨h, _, _, _⟩ | ⟨h, _, _⟩; { exact h }; { simp at h }; { simp at h } }; have hee : endsK ps A = endAll ps A := by { unfold endsK; rw [if_pos (by rw [OKA.out])] }; have hem : emitK ps A = emit ps A n7 := by { unfold emitK; rw [if_pos (by rw [OKA.out]), h7l] }; rw [hee] at hx8; rw [hem] at hr8; have B8 : Hid (Below wr.heap.size wr w8) := chain B6.out b8; have V8 := hide hv9; have X8 := hide hx8; have R8 := hide hr8; have Z8 := hide B6.out.size; clear hv8 hv9 hx8 hr8 b8 hee hem))
                all_goals go_wp2
                all_goals go_meet
                all_goals (obtain ⟨l', hx1, hx2⟩ := X8.out; exact ⟨V8.out, ⟨l', hx1.weaken Z8.out, hx2⟩, ownsRow_weaken R8.out Z8.out, B8.out⟩)
            case rest =>
              rename World => WE
              obtain ⟨rfl, ⟨l2, ho2, hk2⟩, hr2, b2⟩ := hcut
              obtain ⟨ea, ec, ee, pe⟩ := ho2.prs
              obtain ⟨ma, mc, em, pm⟩ := own_rcs hr2
              subst ee em
              have hl2 : l2.length = n7 := by
                have h := congrArg List.length hk2
                rw [List.length_map, endAll_len HOA.out.len, h7l] at h
                exact h
              rw [hl2] at pe ⊢
              have PE := hide pe
              have PM := hide pm
              have K2 := hide hk2
              have D5 := hide (chain DG.out b2)
              have C5 := hide ((C4.out.below hb.out).below b2)
              have G7 := hide (G7.out.below b2)
              have GO := hide (GO.out.below b2)
              have hml : (emit ps A n7).length ≤ 8 * n7 := by
                have h := allE_zero (ps := ps) (ks := A) (by rw [OKA.out])
                exact emit_len h.2.1 h.2.2 n7
              clear ho2 hk2 hr2 b2 pe pm HH DG
              have HCE : Hid (sumTo (lenAt (endAll ps A)) n7 + ((emit ps A n7).length : Int) = sumTo (lenAt A) n7) := emit_count HOA.out.len n7 (by omega)
              have HEM : Hid (∀ (j k : Nat) (p : Plv) (x : Pr) (d : ByteArray), j < n7 → ps[j]? = some p → l1[j]? = some x → kin p.k = false → x.msgs[k]? = some d → (emit ps A n7)[(emit ps A j).length + k]? = some ⟨(j : Int), d⟩) := fun j k p x d hj hp hx hk hd => emit_place (x := x.key) hj hp (by rw [← K1.out, List.getElem?_map, hx]; rfl) hk hd
              have HLE : Hid (∀ (j : Nat) (p : Plv) (x y : Pr), ps[j]? = some p → l1[j]? = some x → l2[j]? = some y → y.key = endK p x.key) := fun j p x y hp hx hy => by
                have h1 : (l2.map Pr.key)[j]? = some y.key := by rw [List.getElem?_map, hy]; rfl
                rw [K2.out, endAll_at (x := x.key) hp (by rw [← K1.out, List.getElem?_map, hx]; rfl)] at h1
                exact (Option.some.inj h1).symm
              have HEN : Hid (∀ (j : Nat) (p : Plv) (x : Pr), ps[j]? = some p → l1[j]? = some x → (emit ps A (j + 1)).length = (emit ps A j).length + (if kin p.k = true then 0 else x.msgs.length)) := fun j p x hp hx => by
                rw [emit_at (x := x.key) hp (by rw [← K1.out, List.getElem?_map, hx]; rfl), List.length_append]
                unfold emK
                split
                · rfl
                · rw [List.length_map]; rfl
              clear HD LEN8 F9 C4 F7 F8 PO HCN OK0 H7 H8 H9 hm9 hq hq1 hq2
              go_wp2
              go_loopw [17, 18, 19] (fun v17 v18 v19 wx => ∃ (j t : Nat) (f : Int), j ≤ n7 ∧ v19 = .int .i64 (j : Int) ∧ v18 = .int .i64 (t : Int) ∧ v17 = .int .i64 f ∧ 0 ≤ f ∧ f ≤ 8 * (j : Int) ∧ t ≤ 8 * j ∧ Hid (t = (emit ps A j).length) ∧ Hid (f = sumTo (lenAt (endAll ps A)) j) ∧ Hid (Below WE.heap.size WE wx)) (fun _ _ i _ => n7 - (intOf i).toNat)
              case atStart => exact ⟨0, 0, 0, by omega, rfl, rfl, rfl, by omega, by omega, by omega, rfl, rfl, Below.refl _ _⟩
              case round =>
                obtain ⟨j, t, f, hj, rfl, rfl, rfl, hf1, hf2, ht1, ht, hf, hb⟩ := hrel
                have q7 := (C5.out.below hb.out).c7
                by_cases hlt : j < n7
                · obtain ⟨p, hp⟩ : ∃ p, ps[j]? = some p := ⟨_, List.getElem?_eq_getElem (by rw [h7l]; exact hlt)⟩
                  obtain ⟨x, hx⟩ : ∃ x, l1[j]? = some x := ⟨_, List.getElem?_eq_getElem (by rw [hl1]; exact hlt)⟩
                  obtain ⟨y, hy⟩ : ∃ y, l2[j]? = some y := ⟨_, List.getElem?_eq_getElem (by rw [hl2]; exact hlt)⟩
                  have hx8 := LENA.out j p x hp hx
                  have hyk := HLE.out j p x y hp hx hy
                  have HPL := hide (fun k d hk hd => HEM.out j k p x d hlt hp hx hk hd)
                  have HN := hide (HEN.out j p x hp hx)
                  have HLN : Hid (lenAt (endAll ps A) j = (y.msgs.length : Int)) := by
                    have h1 : (endAll ps A)[j]? = some y.key := by rw [← K2.out, List.getElem?_map, hy]; rfl
                    exact lenAt_is h1
                  have HYI : Hid (kin p.k = true → y.key = x.key) := fun h => by rw [hyk]; unfold endK; rw [if_pos h]
                  have HYO : Hid (kin p.k = false → y.key = ([], 0)) := fun h => by rw [hyk]; unfold endK; rw [if_neg (by rw [h]; decide)]
                  have hy8 : y.msgs.length ≤ 8 := by
                    have h1 : y.msgs = (endK p x.key).1 := congrArg Prod.fst hyk
                    rw [h1]
                    unfold endK
                    split
                    · exact hx8
                    · exact Nat.zero_le _
                  have HSX := hide ((GO.out.below hb.out).shows_ x (List.mem_of_getElem? hx))
                  have HSY := hide ((PE.out.below hb.out).shows_ y (List.mem_of_getElem? hy))
                  obtain ⟨b, off, rfl, hr⟩ := (G7.out.below hb.out).at plv4 (by decide) hp
                  obtain ⟨b', off', rfl, hr'⟩ := (GO.out.below hb.out).rcs.at pr2 (by decide) hx
                  obtain ⟨b2, off2, rfl, hr2⟩ := (PE.out.below hb.out).rcs.at pr2 (by decide) hy
                  have r0 := hr 0 _ rfl
                  have s0 := hr' 0 _ rfl
                  have s1 := hr' 1 _ rfl
                  have t0 := hr2 0 _ rfl
                  have t1 := hr2 1 _ rfl
                  simp only [Nat.add_zero] at r0 s0 t0
                  clear hr hr' hr2 hp hx hy hyk
                  generalize p.k = kk at *
                  have hq1 : (j : Int) < (n7 : Int) := by omega
                  have w1h : IntKind.i64.wrap (f + (y.msgs.length : Int)) = f + (y.msgs.length : Int) := by rw [IntKind.wrap_i64]; omega
                  have HFN : Hid (f + (y.msgs.length : Int) = sumTo (lenAt (endAll ps A)) (j + 1)) := by
                    unfold Hid
                    show _ = sumTo (lenAt (endAll ps A)) j + lenAt (endAll ps A) j
                    rw [HLN.out, ← hf.out]
                  go_upto_region 33 with fail
                  go_cut [20] (fun v wx => v = .bool (kin kk) ∧ Below wr.heap.size wr wx)
                  case first =>
                    by_cases h1 : kk = 1
                    · subst h1
                      go_wp2
                      go_meet
                      exact ⟨rfl, Below.refl _ _⟩
                    · have e1 : (kk == 1) = false := by simp [h1]
                      by_cases h3 : kk = 3
                      · subst h3
                        clear h1
                        go_wp2
                        go_meet
                        exact ⟨rfl, Below.refl _ _⟩
                      · have e3 : (kk == 3) = false := by simp [h3]
                        have HK0 : Hid (kin kk = false) := by unfold Hid kin; rw [e1, e3]; rfl
                        clear h1 h3
                        go_wp2
                        go_meet
                        exact ⟨by rw [HK0.out], Below.refl _ _⟩
                  case rest =>
                    rename World => WF
                    obtain ⟨rfl, b9⟩ := hcut
                    have BF := hide (chain hb.out b9)
                    have s0 := cell_below s0 b9
                    have s1 := cell_below s1 b9
                    have t0 := cell_below t0 b9
                    have t1 := cell_below t1 b9
                    have HSX := hide (HSX.out.below b9)
                    have HSY := hide (HSY.out.below b9)
                    clear b9 r0 q7 hb w1h
                    by_cases hk : kin kk = true
                    · rw [hk]
                      go_wp2_with fail
                      go_cut [248] (fun v wx => v = .bool false ∧ Below WF.heap.size WF wx)
                      case first =>
                        as_aux_lemma =>
                          have hyk := HYI.out hk
                          have hmsg : y.msgs = x.msgs := congrArg Prod.fst hyk
                          have hage : y.age = x.age := congrArg Prod.snd hyk
                          rw [hmsg] at t0
                          rw [hage] at t1
                          have hsy : Sts WF y.a y.msgs.length y.cap y.msgs := HSY.out
                          have hsx : Sts WF x.a x.msgs.length x.cap x.msgs := HSX.out
                          rw [hmsg] at hsy
                          have HSA := hide hsx
                          have HSB := hide hsy
                          clear HN hmsg hage hyk hsx hsy HSX HSY HYI HYO HPL HLN HFN hk
                          refine wp_region_held_drew (S := fun wz => wz.cell? ⟨b2, off2 + j * 2, none⟩ = some (.slice y.a x.msgs.length y.cap) ∧ wz.cell? ⟨b2, off2 + j * 2 + 1, none⟩ = some (.int .i64 x.age) ∧ wz.cell? ⟨b', off' + j * 2, none⟩ = some (.slice x.a x.msgs.length x.cap) ∧ wz.cell? ⟨b', off' + j * 2 + 1, none⟩ = some (.int .i64 x.age)) (by kernel_rfl) ⟨t0, t1, s0, s1⟩ (fun hHeld => ?_)
                          refine wpAnyH_take (i := 0) (oi := { dst := some 215, op := Op.move (Operand.tmp 20), type := 4, pos := "law.go:245", after := #[], guard := none }) (v := ?_) rfl (by kernel_rfl) (by kernel_rfl) (by kernel_rfl) (fun _ _ _ h => h) (Or.inl ⟨by rfl, ?_⟩) (by assumption) ?_
                          rotate_left
                          · intro w hSw
                            try dsimp only at hSw
                            go_simp
                            try with_reducible rfl
                          simp only [Act.put, List.setIfInBounds_toArray, List.set_cons_zero, List.set_cons_succ]
                          refine wpAnyH_take (i := 1) (oi := { dst := some 216, op := Op.move (Operand.tmp 215), type := 4, pos := "law.go:245", after := #[{ on := 0, ground := Ground.data }], guard := none }) (v := ?_) rfl (by kernel_rfl) (by kernel_rfl) (by kernel_rfl) (fun _ _ _ h => h) (Or.inl ⟨by rfl, ?_⟩) (by assumption) ?_
                          rotate_left
                          · intro w hSw
                            try dsimp only at hSw
                            go_simp
                            try with_reducible rfl
                          simp only [Act.put, List.setIfInBounds_toArray, List.set_cons_zero, List.set_cons_succ]
                          refine wpAnyH_take (i := 2) (oi := { dst := some 217, op := Op.move (Operand.tmp 15), type := 28, pos := "law.go:245", after := #[{ on := 1, ground := Ground.guard }], guard := some (1, true) }) (v := ?_) rfl (by kernel_rfl) (by kernel_rfl) (by kernel_rfl) (fun _ _ _ h => h) (Or.inl ⟨by rfl, ?_⟩) (by assumption) ?_
                          rotate_left
                          · intro w hSw
                            try dsimp only at hSw
                            go_simp
                            try with_reducible rfl
                          simp only [Act.put, List.setIfInBounds_toArray, List.set_cons_zero, List.set_cons_succ]
                          refine wpAnyH_take (i := 3) (oi := { dst := some 218, op := Op.move (Operand.tmp 19), type := 3, pos := "law.go:245", after := #[{ on := 1, ground := Ground.guard }], guard := some (1, true) }) (v := ?_) rfl (by kernel_rfl) (by kernel_rfl) (by kernel_rfl) (fun _ _ _ h => h) (Or.inl ⟨by rfl, ?_⟩) (by assumption) ?_
                          rotate_left
                          · intro w hSw
                            try dsimp only at hSw
                            go_simp
                            try with_reducible rfl
                          simp only [Act.put, List.setIfInBounds_toArray, List.set_cons_zero, List.set_cons_succ]
                          refine wpAnyH_take (i := 4) (oi := { dst := some 219, op := Op.indexAddr 28 (Operand.tmp 217) (Operand.tmp 218), type := 0, pos := "law.go:245", after := #[{ on := 2, ground := Ground.data }, { on := 3, ground := Ground.data }, { on := 1, ground := Ground.guard }], guard := some (1, true) }) (v := ?_) rfl (by kernel_rfl) (by kernel_rfl) (by kernel_rfl) (fun _ _ _ h => h) (Or.inl ⟨by rfl, ?_⟩) (by assumption) ?_
                          rotate_left
                          · intro w hSw
                            try dsimp only at hSw
                            go_simp
                            try with_reducible rfl
                          simp only [Act.put, List.setIfInBounds_toArray, List.set_cons_zero, List.set_cons_succ]
                          refine wpAnyH_take (i := 5) (oi := { dst := some 220, op := Op.load 26 (Operand.tmp 219), type := 26, pos := "law.go:245", after := #[{ on := 4, ground := Ground.data }, { on := 1, ground := Ground.guard }], guard := some (1, true) }) (v := ?_) rfl (by kernel_rfl) (by kernel_rfl) (by kernel_rfl) (fun _ _ _ h => h) (Or.inl ⟨by rfl, ?_⟩) (by assumption) ?_
                          rotate_left
                          · intro w hSw
                            try dsimp only at hSw
                            go_simp
                            try with_reducible rfl
                          simp only [Act.put, List.setIfInBounds_toArray, List.set_cons_zero, List.set_cons_succ]
                          refine wpAnyH_take (i := 6) (oi := { dst := some 221, op := Op.move (Operand.tmp 3), type := 28, pos := "law.go:245", after := #[{ on := 1, ground := Ground.guard }], guard := some (1, true) }) (v := ?_) rfl (by kernel_rfl) (by kernel_rfl) (by kernel_rfl) (fun _ _ _ h => h) (Or.inl ⟨by rfl, ?_⟩) (by assumption) ?_
                          rotate_left
                          · intro w hSw
                            try dsimp only at hSw
                            go_simp
                            try with_reducible rfl
                          simp only [Act.put, List.setIfInBounds_toArray, List.set_cons_zero, List.set_cons_succ]
                          refine wpAnyH_take (i := 7) (oi := { dst := some 222, op := Op.move (Operand.tmp 19), type := 3, pos := "law.go:245", after := #[{ on := 1, ground := Ground.guard }], guard := some (1, true) }) (v := ?_) rfl (by kernel_rfl) (by kernel_rfl) (by kernel_rfl) (fun _ _ _ h => h) (Or.inl ⟨by rfl, ?_⟩) (by assumption) ?_
                          rotate_left
                          · intro w hSw
                            try dsimp only at hSw
                            go_simp
                            try with_reducible rfl
                          simp only [Act.put, List.setIfInBounds_toArray, List.set_cons_zero, List.set_cons_succ]
                          refine wpAnyH_take (i := 8) (oi := { dst := some 223, op := Op.indexAddr 28 (Operand.tmp 221) (Operand.tmp 222), type := 0, pos := "law.go:245", after := #[{ on := 6, ground := Ground.data }, { on := 7, ground := Ground.data }, { on := 1, ground := Ground.guard }], guard := some (1, true) }) (v := ?_) rfl (by kernel_rfl) (by kernel_rfl) (by kernel_rfl) (fun _ _ _ h => h) (Or.inl ⟨by rfl, ?_⟩) (by assumption) ?_
                          rotate_left
                          · intro w hSw
                            try dsimp only at hSw
                            go_simp
                            try with_reducible rfl
                          simp only [Act.put, List.setIfInBounds_toArray, List.set_cons_zero, List.set_cons_succ]
                          refine wpAnyH_take (i := 9) (oi := { dst := some 224, op := Op.load 26 (Operand.tmp 223), type := 26, pos := "law.go:245", after := #[{ on := 8, ground := Ground.data }, { on := 1, ground := Ground.guard }], guard := some (1, true) }) (v := ?_) rfl (by kernel_rfl) (by kernel_rfl) (by kernel_rfl) (fun _ _ _ h => h) (Or.inl ⟨by rfl, ?_⟩) (by assumption) ?_
                          rotate_left
                          · intro w hSw
                            try dsimp only at hSw
                            go_simp
                            try with_reducible rfl
                          simp only [Act.put, List.setIfInBounds_toArray, List.set_cons_zero, List.set_cons_succ]
                          refine wpAnyH_ready (rs := [10]) (by kernel_rfl) (by simp) ?_
                          refine AllReadyH.cons (o := { dst := some 225, op := Op.call { callee := Callee.value (Operand.func 15), args := #[Operand.tmp 220, Operand.tmp 224], argTypes := #[26, 26] }, type := 4, pos := "law.go:245", after := #[{ on := 5, ground := Ground.data }, { on := 9, ground := Ground.data }, { on := 1, ground := Ground.chain }, { on := 1, ground := Ground.guard }], guard := some (1, true) }) rfl (fun K hK => ?_) AllReadyH.nil
                          go_simp
                          go_at_call 15
                          refine (refSame_yes y.a x.a x.msgs.length y.cap x.cap x.msgs x.age _ (HSB.out.below ((Below.refl _ _).drew)) (HSA.out.below ((Below.refl _ _).drew))).mono ?_
                          rintro e w5 ⟨rfl, b5⟩
                          have B5 := hide (undrew b5)
                          clear b5
                          try go_wp2_with fail
                          refine hK.out _ _ ⟨cell_below t0 B5.out, cell_below t1 B5.out, cell_below s0 B5.out, cell_below s1 B5.out⟩ (fun hHeld2 => ?_)
                          clear hK K hHeld t0 t1 s0 s1
                          try simp only [Act.put, List.setIfInBounds_toArray, List.set_cons_zero, List.set_cons_succ]
                          refine wpAnyH_take (i := 11) (oi := { dst := some 226, op := Op.unOp UnOp.not 4 (Operand.tmp 225), type := 4, pos := "law.go:245", after := #[{ on := 10, ground := Ground.data }, { on := 1, ground := Ground.guard }], guard := some (1, true) }) (v := ?_) rfl (by kernel_rfl) (by kernel_rfl) (by kernel_rfl) (fun _ _ _ h => h) (Or.inl ⟨by rfl, ?_⟩) (by assumption) ?_
                          rotate_left
                          · intro w hSw
                            try dsimp only at hSw
                            go_simp
                            try with_reducible rfl
                          simp only [Act.put, List.setIfInBounds_toArray, List.set_cons_zero, List.set_cons_succ]
                          refine wpAnyH_take (i := 12) (oi := { dst := some 227, op := Op.pick (Operand.tmp 216) (Operand.tmp 226) (Operand.const (Value.bool false)), type := 4, pos := "law.go:245", after := #[{ on := 1, ground := Ground.data }, { on := 11, ground := Ground.data }], guard := none }) (v := ?_) rfl (by kernel_rfl) (by kernel_rfl) (by kernel_rfl) (fun _ _ _ h => h) (Or.inl ⟨by rfl, ?_⟩) (by assumption) ?_
                          rotate_left
                          · intro w hSw
                            try dsimp only at hSw
                            go_simp
                            try with_reducible rfl
                          simp only [Act.put, List.setIfInBounds_toArray, List.set_cons_zero, List.set_cons_succ]
                          refine wpAnyH_take (i := 13) (oi := { dst := some 228, op := Op.move (Operand.tmp 227), type := 4, pos := "law.go:245", after := #[{ on := 12, ground := Ground.data }, { on := 10, ground := Ground.chain }], guard := none }) (v := ?_) rfl (by kernel_rfl) (by kernel_rfl) (by kernel_rfl) (fun _ _ _ h => h) (Or.inl ⟨by rfl, ?_⟩) (by assumption) ?_
                          rotate_left
                          · intro w hSw
                            try dsimp only at hSw
                            go_simp
                            try with_reducible rfl
                          simp only [Act.put, List.setIfInBounds_toArray, List.set_cons_zero, List.set_cons_succ]
                          refine wpAnyH_take (i := 14) (oi := { dst := some 229, op := Op.move (Operand.tmp 20), type := 4, pos := "law.go:245", after := #[{ on := 13, ground := Ground.guard }], guard := some (13, false) }) (v := ?_) rfl (by kernel_rfl) (by kernel_rfl) (by kernel_rfl) (fun _ _ _ h => h) (Or.inl ⟨by rfl, ?_⟩) (by assumption) ?_
                          rotate_left
                          · intro w hSw
                            try dsimp only at hSw
                            go_simp
                            try with_reducible rfl
                          simp only [Act.put, List.setIfInBounds_toArray, List.set_cons_zero, List.set_cons_succ]
                          refine wpAnyH_take (i := 15) (oi := { dst := some 230, op := Op.unOp UnOp.not 4 (Operand.tmp 229), type := 4, pos := "law.go:245", after := #[{ on := 14, ground := Ground.data }, { on := 13, ground := Ground.guard }], guard := some (13, false) }) (v := ?_) rfl (by kernel_rfl) (by kernel_rfl) (by kernel_rfl) (fun _ _ _ h => h) (Or.inl ⟨by rfl, ?_⟩) (by assumption) ?_
                          rotate_left
                          · intro w hSw
                            try dsimp only at hSw
                            go_simp
                            try with_reducible rfl
                          simp only [Act.put, List.setIfInBounds_toArray, List.set_cons_zero, List.set_cons_succ]
                          refine wpAnyH_take (i := 16) (oi := { dst := some 231, op := Op.move (Operand.tmp 230), type := 4, pos := "law.go:245", after := #[{ on := 15, ground := Ground.data }, { on := 13, ground := Ground.chain }, { on := 13, ground := Ground.guard }], guard := some (13, false) }) (v := ?_) rfl (by kernel_rfl) (by kernel_rfl) (by kernel_rfl) (fun _ _ _ h => h) (Or.inl ⟨by rfl, ?_⟩) (by assumption) ?_
                          rotate_left
                          · intro w hSw
                            try dsimp only at hSw
                            go_simp
                            try with_reducible rfl
                          simp only [Act.put, List.setIfInBounds_toArray, List.set_cons_zero, List.set_cons_succ]
                          refine wpAnyH_take (i := 17) (oi := { dst := some 232, op := Op.move (Operand.tmp 15), type := 28, pos := "law.go:245", after := #[{ on := 16, ground := Ground.guard }], guard := some (16, true) }) (v := undef) rfl (by kernel_rfl) (by kernel_rfl) (by kernel_rfl) (fun _ _ _ h => h) (Or.inr ⟨by rfl, rfl⟩) (by assumption) ?_
                          simp only [Act.put, List.setIfInBounds_toArray, List.set_cons_zero, List.set_cons_succ]
                          refine wpAnyH_take (i := 18) (oi := { dst := some 233, op := Op.move (Operand.tmp 19), type := 3, pos := "law.go:245", after := #[{ on := 16, ground := Ground.guard }], guard := some (16, true) }) (v := undef) rfl (by kernel_rfl) (by kernel_rfl) (by kernel_rfl) (fun _ _ _ h => h) (Or.inr ⟨by rfl, rfl⟩) (by assumption) ?_
                          simp only [Act.put, List.setIfInBounds_toArray, List.set_cons_zero, List.set_cons_succ]
                          refine wpAnyH_take (i := 19) (oi := { dst := some 234, op := Op.indexAddr 28 (Operand.tmp 232) (Operand.tmp 233), type := 0, pos := "law.go:245", after := #[{ on := 17, ground := Ground.data }, { on := 18, ground := Ground.data }, { on := 16, ground := Ground.guard }], guard := some (16, true) }) (v := undef) rfl (by kernel_rfl) (by kernel_rfl) (by kernel_rfl) (fun _ _ _ h => h) (Or.inr ⟨by rfl, rfl⟩) (by assumption) ?_
                          simp only [Act.put, List.setIfInBounds_toArray, List.set_cons_zero, List.set_cons_succ]
                          refine wpAnyH_take (i := 20) (oi := { dst := some 235, op := Op.fieldAddr 26 (Operand.tmp 234) 0, type := 0, pos := "law.go:245", after := #[{ on := 19, ground := Ground.data }, { on := 16, ground := Ground.guard }], guard := some (16, true) }) (v := undef) rfl (by kernel_rfl) (by kernel_rfl) (by kernel_rfl) (fun _ _ _ h => h) (Or.inr ⟨by rfl, rfl⟩) (by assumption) ?_
                          simp only [Act.put, List.setIfInBounds_toArray, List.set_cons_zero, List.set_cons_succ]
                          refine wpAnyH_take (i := 21) (oi := { dst := some 236, op := Op.load 24 (Operand.tmp 235), type := 24, pos := "law.go:245", after := #[{ on := 20, ground := Ground.data }, { on := 16, ground := Ground.guard }], guard := some (16, true) }) (v := undef) rfl (by kernel_rfl) (by kernel_rfl) (by kernel_rfl) (fun _ _ _ h => h) (Or.inr ⟨by rfl, rfl⟩) (by assumption) ?_
                          simp only [Act.put, List.setIfInBounds_toArray, List.set_cons_zero, List.set_cons_succ]
                          refine wpAnyH_take (i := 22) (oi := { dst := some 237, op := Op.call { callee := Callee.builtin Builtin.len, args := #[Operand.tmp 236], argTypes := #[24] }, type := 3, pos := "law.go:245", after := #[{ on := 21, ground := Ground.data }, { on := 16, ground := Ground.guard }], guard := some (16, true) }) (v := undef) rfl (by kernel_rfl) (by kernel_rfl) (by kernel_rfl) (fun _ _ _ h => h) (Or.inr ⟨by rfl, rfl⟩) (by assumption) ?_
                          simp only [Act.put, List.setIfInBounds_toArray, List.set_cons_zero, List.set_cons_succ]
                          refine wpAnyH_take (i := 23) (oi := { dst := some 238, op := Op.binOp BinOp.neq 3 (Operand.tmp 237) (Operand.const (Value.int IntKind.i64 0)) 3, type := 4, pos := "law.go:245", after := #[{ on := 22, ground := Ground.data }, { on := 16, ground := Ground.guard }], guard := some (16, true) }) (v := undef) rfl (by kernel_rfl) (by kernel_rfl) (by kernel_rfl) (fun _ _ _ h => h) (Or.inr ⟨by rfl, rfl⟩) (by assumption) ?_
                          simp only [Act.put, List.setIfInBounds_toArray, List.set_cons_zero, List.set_cons_succ]
                          refine wpAnyH_take (i := 24) (oi := { dst := some 239, op := Op.move (Operand.tmp 238), type := 4, pos := "law.go:245", after := #[{ on := 23, ground := Ground.data }, { on := 16, ground := Ground.chain }, { on := 16, ground := Ground.guard }], guard := some (16, true) }) (v := undef) rfl (by kernel_rfl) (by kernel_rfl) (by kernel_rfl) (fun _ _ _ h => h) (Or.inr ⟨by rfl, rfl⟩) (by assumption) ?_
                          simp only [Act.put, List.setIfInBounds_toArray, List.set_cons_zero, List.set_cons_succ]
                          refine wpAnyH_take (i := 25) (oi := { dst := some 240, op := Op.move (Operand.tmp 15), type := 28, pos := "law.go:245", after := #[{ on := 24, ground := Ground.guard }], guard := some (24, false) }) (v := undef) rfl (by kernel_rfl) (by kernel_rfl) (by kernel_rfl) (fun _ _ _ h => h) (Or.inr ⟨by rfl, rfl⟩) (by assumption) ?_
                          simp only [Act.put, List.setIfInBounds_toArray, List.set_cons_zero, List.set_cons_succ]
                          refine wpAnyH_take (i := 26) (oi := { dst := some 241, op := Op.move (Operand.tmp 19), type := 3, pos := "law.go:245", after := #[{ on := 24, ground := Ground.guard }], guard := some (24, false) }) (v := undef) rfl (by kernel_rfl) (by kernel_rfl) (by kernel_rfl) (fun _ _ _ h => h) (Or.inr ⟨by rfl, rfl⟩) (by assumption) ?_
                          simp only [Act.put, List.setIfInBounds_toArray, List.set_cons_zero, List.set_cons_succ]
                          refine wpAnyH_take (i := 27) (oi := { dst := some 242, op := Op.indexAddr 28 (Operand.tmp 240) (Operand.tmp 241), type := 0, pos := "law.go:245", after := #[{ on := 25, ground := Ground.data }, { on := 26, ground := Ground.data }, { on := 24, ground := Ground.guard }], guard := some (24, false) }) (v := undef) rfl (by kernel_rfl) (by kernel_rfl) (by kernel_rfl) (fun _ _ _ h => h) (Or.inr ⟨by rfl, rfl⟩) (by assumption) ?_
                          simp only [Act.put, List.setIfInBounds_toArray, List.set_cons_zero, List.set_cons_succ]
                          refine wpAnyH_take (i := 28) (oi := { dst := some 243, op := Op.fieldAddr 26 (Operand.tmp 242) 1, type := 0, pos := "law.go:245", after := #[{ on := 27, ground := Ground.data }, { on := 24, ground := Ground.guard }], guard := some (24, false) }) (v := undef) rfl (by kernel_rfl) (by kernel_rfl) (by kernel_rfl) (fun _ _ _ h => h) (Or.inr ⟨by rfl, rfl⟩) (by assumption) ?_
                          simp only [Act.put, List.setIfInBounds_toArray, List.set_cons_zero, List.set_cons_succ]
                          refine wpAnyH_take (i := 29) (oi := { dst := some 244, op := Op.load 3 (Operand.tmp 243), type := 3, pos := "law.go:245", after := #[{ on := 28, ground := Ground.data }, { on := 24, ground := Ground.guard }], guard := some (24, false) }) (v := undef) rfl (by kernel_rfl) (by kernel_rfl) (by kernel_rfl) (fun _ _ _ h => h) (Or.inr ⟨by rfl, rfl⟩) (by assumption) ?_
                          simp only [Act.put, List.setIfInBounds_toArray, List.set_cons_zero, List.set_cons_succ]
                          refine wpAnyH_take (i := 30) (oi := { dst := some 245, op := Op.binOp BinOp.neq 3 (Operand.tmp 244) (Operand.const (Value.int IntKind.i64 0)) 3, type := 4, pos := "law.go:245", after := #[{ on := 29, ground := Ground.data }, { on := 24, ground := Ground.guard }], guard := some (24, false) }) (v := undef) rfl (by kernel_rfl) (by kernel_rfl) (by kernel_rfl) (fun _ _ _ h => h) (Or.inr ⟨by rfl, rfl⟩) (by assumption) ?_
                          simp only [Act.put, List.setIfInBounds_toArray, List.set_cons_zero, List.set_cons_succ]
                          refine wpAnyH_take (i := 31) (oi := { dst := some 246, op := Op.pick (Operand.tmp 239) (Operand.const (Value.bool true)) (Operand.tmp 245), type := 4, pos := "law.go:245", after := #[{ on := 24, ground := Ground.data }, { on := 30, ground := Ground.data }, { on := 16, ground := Ground.guard }], guard := some (16, true) }) (v := undef) rfl (by kernel_rfl) (by kernel_rfl) (by kernel_rfl) (fun _ _ _ h => h) (Or.inr ⟨by rfl, rfl⟩) (by assumption) ?_
                          simp only [Act.put, List.setIfInBounds_toArray, List.set_cons_zero, List.set_cons_succ]
                          refine wpAnyH_take (i := 32) (oi := { dst := some 247, op := Op.pick (Operand.tmp 231) (Operand.tmp 246) (Operand.const (Value.bool false)), type := 4, pos := "law.go:245", after := #[{ on := 16, ground := Ground.data }, { on := 31, ground := Ground.data }, { on := 13, ground := Ground.guard }], guard := some (13, false) }) (v := ?_) rfl (by kernel_rfl) (by kernel_rfl) (by kernel_rfl) (fun _ _ _ h => h) (Or.inl ⟨by rfl, ?_⟩) (by assumption) ?_
                          rotate_left
                          · intro w hSw
                            try dsimp only at hSw
                            go_simp
                            try with_reducible rfl
                          simp only [Act.put, List.setIfInBounds_toArray, List.set_cons_zero, List.set_cons_succ]
                          refine wpAnyH_take (i := 33) (oi := { dst := some 248, op := Op.pick (Operand.tmp 228) (Operand.const (Value.bool true)) (Operand.tmp 247), type := 4, pos := "law.go:245", after := #[{ on := 13, ground := Ground.data }, { on := 32, ground := Ground.data }], guard := none }) (v := ?_) rfl (by kernel_rfl) (by kernel_rfl) (by kernel_rfl) (fun _ _ _ h => h) (Or.inl ⟨by rfl, ?_⟩) (by assumption) ?_
                          rotate_left
                          · intro w hSw
                            try dsimp only at hSw
                            go_simp
                            try with_reducible rfl
                          simp only [Act.put, List.setIfInBounds_toArray, List.set_cons_zero, List.set_cons_succ]
                          refine wpAnyH_done (by kernel_rfl) ?_ _
                          go_wp2
                          go_meet
                          exact ⟨rfl, B5.out⟩
                      case rest =>
                        as_aux_lemma =>
                          rename World => WQ
                          obtain ⟨rfl, b9⟩ := hcut
                          have BH := hide (chain BF.out b9)
                          have S0 := hide (cell_below s0 b9)
                          have hsx : Sts WF x.a x.msgs.length x.cap x.msgs := HSX.out
                          have HSA := hide (hsx.below b9)
                          clear s0 s1 t0 t1 b9 hsx HSX HSY
                          have HN2 : Hid ((emit ps A (j + 1)).length = t) := by
                            unfold Hid
                            rw [HN.out, if_pos hk, ht.out]
                            rfl
                          clear HN hk HYI HYO HPL HLN HSA
                          go_wp2
                          go_loopw [18, 21] (fun v18 v21 wx => v18 = .int .i64 (t : Int) ∧ v21 = .int .i64 0 ∧ Hid (Below WQ.heap.size WQ wx)) (fun _ _ _ => 0)
                          case atStart => exact ⟨rfl, rfl, Below.refl _ _⟩
                          case round =>
                            obtain ⟨rfl, rfl, hb2⟩ := hrel
                            have s0 := cell_below S0.out hb2.out
                            have BZ := hide (chain BH.out hb2.out)
                            clear S0
                            by_cases hz : x.msgs.length = 0
                            · rw [hz] at s0
                              go_wp2
                              go_roundw
                              case rel => exact ⟨j + 1, t, _, by omega, by go_num, rfl, rfl, by omega, by omega, by omega, HN2.out.symm, HFN.out, BZ.out⟩
                              case measure => simp [intOf]; omega
                            · have d0 : decide ((0 : Int) < (x.msgs.length : Int)) = true := decide_eq_true (by omega)
                              have d1 : (0 : Int) < (x.msgs.length : Int) := by omega
                              have d2 : 0 < x.msgs.length := by omega
                              clear hz
                              go_wp2
                              go_roundw
                              case rel => exact ⟨j + 1, t, _, by omega, by go_num, rfl, rfl, by omega, by omega, by omega, HN2.out.symm, HFN.out, BZ.out⟩
                              case measure => simp [intOf]; omega
                    · have hkf : kin kk = false := by simpa using hk
                      rw [hkf]
                      go_wp2_with fail
                      go_cut [248] (fun v wx => v = .bool false ∧ Below WF.heap.size WF wx)
                      case first =>
                        as_aux_lemma =>
                          have hyk := HYO.out hkf
                          have hmsg : y.msgs = [] := congrArg Prod.fst hyk
                          have hage : y.age = 0 := congrArg Prod.snd hyk
                          rw [hmsg] at t0
                          rw [hage] at t1
                          simp only [List.length_nil] at t0
                          clear HN hmsg hage hyk hk hkf HSX HSY HYI HYO HPL HLN HFN s0 s1 hy8
                          go_quiet (fail)
                          go_wp2
                          go_meet
                          exact ⟨rfl, drewN_below (Below.refl _ _) nq⟩
                      case rest =>
                        as_aux_lemma =>
                          rename World => WQ
                          obtain ⟨rfl, b9⟩ := hcut
                          have BH := hide (chain BF.out b9)
                          have S0 := hide (cell_below s0 b9)
                          have hsx : Sts WF x.a x.msgs.length x.cap x.msgs := HSX.out
                          have HSA := hide (hsx.below b9)
                          clear s0 s1 t0 t1 b9 hsx HSX HSY
                          have HN2 : Hid ((emit ps A (j + 1)).length = t + x.msgs.length) := by
                            unfold Hid
                            rw [HN.out, if_neg hk, ht.out]
                          have HPK : Hid (∀ (k : Nat) (d : ByteArray), x.msgs[k]? = some d → (emit ps A n7)[t + k]? = some ⟨(j : Int), d⟩) := fun k d hd => by rw [ht.out]; exact HPL.out k d hkf hd
                          clear HN hk hkf HYI HYO HPL HLN
                          go_wp2
                          go_loopw [18, 21] (fun v18 v21 wx => ∃ (k t' : Nat), k ≤ x.msgs.length ∧ v21 = .int .i64 (k : Int) ∧ v18 = .int .i64 (t' : Int) ∧ t' = t + k ∧ Hid (Below WQ.heap.size WQ wx)) (fun _ i _ => x.msgs.length - (intOf i).toNat)
                          case atStart => exact ⟨0, t, by omega, rfl, rfl, rfl, Below.refl _ _⟩
                          case round =>
                            obtain ⟨k, t', hk, rfl, rfl, ht', hb2⟩ := hrel
                            have s0 := cell_below S0.out hb2.out
                            have BZ := hide (chain BH.out hb2.out)
                            by_cases hlt2 : k < x.msgs.length
                            · obtain ⟨d, hd⟩ : ∃ d, x.msgs[k]? = some d := ⟨_, List.getElem?_eq_getElem hlt2⟩
                              have hpl := HPK.out k d hd
                              rw [← ht'] at hpl
                              have htl : t' < (emit ps A n7).length := (List.getElem?_eq_some_iff.1 hpl).1
                              obtain ⟨b3, off3, rfl, hr3⟩ := (PM.out.below BZ.out).at mgv2 (by decide) hpl
                              obtain ⟨bx, ox, ex, cx⟩ := (HSA.out.below hb2.out).cell hd
                              rw [ex] at s0
                              have r0 := hr3 0 _ rfl
                              have r1 := hr3 1 _ rfl
                              simp only [Nat.add_zero] at r0
                              have HNE := hide (neq_msg (j : Int) d)
                              have dk : (k : Int) < (x.msgs.length : Int) := by omega
                              have HT' := hide ht'
                              clear hr3 hpl hd ex ht'
                              generalize (emit ps A n7).length = nE at *
                              have dg : decide ((nE : Int) ≤ (t' : Int)) = false := decide_eq_false (by omega)
                              have dn : ¬ nE ≤ t' := by omega
                              have dt : (t' : Int) < (nE : Int) := by omega
                              go_wp2_with fail
                              have hne := HNE.out
                              have hg : Tryd.prog.eqGuardType Tryd.prog.depth 53 = false := by kernel_rfl
                              go_quiet (fail)
                              clear hne hg
                              go_wp2
                              go_roundw
                              case rel => exact ⟨k + 1, t' + 1, by omega, by go_num, by go_num, by have := HT'.out; omega, drewN_below hb2.out nq⟩
                              case measure => simp [intOf]; omega
                            · obtain rfl : x.msgs.length = k := by omega
                              have dk : ¬ (x.msgs.length : Int) < (x.msgs.length : Int) := by omega
                              have HT' := hide ht'
                              clear hlt2 ht'
                              go_wp2
                              go_roundw
                              case rel => exact ⟨j + 1, t', _, by omega, by go_num, rfl, rfl, by omega, by omega, by have := HT'.out; omega, by unfold Hid; rw [HN2.out]; exact HT'.out, HFN.out, BZ.out⟩
                              case measure => simp [intOf]; omega
                · as_aux_lemma =>
                    obtain rfl : n7 = j := by omega
                    have et := ht.out
                    subst et
                    have w1h : IntKind.i64.wrap (f + ((emit ps A n7).length : Int)) = f + ((emit ps A n7).length : Int) := by rw [IntKind.wrap_i64]; omega
                    have hfin : f + ((emit ps A n7).length : Int) = h := by rw [hf.out, hh.out]; exact HCE.out
                    have DZ := hide (chain D5.out hb.out)
                    clear hlt
                    go_wp2
                    go_ret
                    exact ⟨rfl, DZ.out⟩
end Go.Proofs.YtgcodajiehfloaaDoor.portLoses
