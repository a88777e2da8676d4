/-
  Walk of the law FerryQueuesInOrder.
-/
import Derived.Test.YtldnoabbnlfknabDoorFqState
namespace Go.Proofs.YtldnoabbnlfknabDoor.ferryQueuesInOrder
open Go.RowKit
set_option linter.unusedVariables false
set_option linter.unusedSimpArgs false

abbrev sGet : ByteArray := ⟨#[0, 103, 101, 116]⟩
abbrev sA : ByteArray := ⟨#[97]⟩
abbrev sE : ByteArray := ⟨#[]⟩
def three : List ByteArray := [sA, sE, sGet]
theorem slk_three (w : World) (base : Nat) (hb : base ≤ w.heap.size) : SLk (w.alloc (.cells #[.string sA, .string sE, .string sGet] 9)) base (.slice (some ⟨w.heap.size, 0, none⟩) 3 3) three := .inl (World.ownsRow_lit w #[.string sA, .string sE, .string sGet] 3 hb (by decide) rfl)
theorem small_three {l : List ByteArray} (h : Smalls l) : Smalls (three ++ l) := by
  intro x hx
  rcases List.mem_append.1 hx with hx | hx
  · simp only [three, List.mem_cons, List.not_mem_nil, or_false] at hx
    rcases hx with rfl | rfl | rfl <;> decide
  · exact h x hx

set_option maxRecDepth 100000 in
set_option maxHeartbeats 16000000 in
theorem law {E : Nat → Addr} (sz dp : Int) (a : Option Addr) (len cap : Nat) (l : List ByteArray) (w : World) (he : Errs w E) (h1 : -9223372036854775808 ≤ sz) (h2 : sz ≤ 9223372036854775807) (h3 : -9223372036854775808 ≤ dp) (h4 : dp ≤ 9223372036854775807) (hs : Sts w a len cap l) (hm2 : len ≤ 8796093021952) :
    Calls Tryd.prog 7 #[.int .i64 sz, .int .i64 dp, .slice a len cap] w fun e w' => e = .returned (.bool true) ∧ Below w.heap.size w w' := by
  have HE := hide he
  have HS := hide hs
  have hl := hs.size
  have hcS := clampV_in sz (lo := 1) (hi := 32) (by decide)
  have hcD := clampV_in dp (lo := 1) (hi := 8) (by decide)
  clear he hs h1 h2 h3 h4
  go_enter Tryd.func7, Tryd.ntmps7
  go_wp2_with (go_at_call 28; refine (clamp_any _ _ _ _).mono ?_; rintro e w' ⟨rfl, rfl⟩)
  generalize clampV sz 1 32 = S at *
  generalize clampV dp 1 8 = D at *
  have P0 := hide (pl_alloc w 3 S D 0)
  have D0 := hide (new_below' w (.cells #[.int .i64 3, .int .i64 S, .int .i64 D, .int .i64 0] 79))
  have hz0 : w.heap.size < (w.alloc (.cells #[.int .i64 3, .int .i64 S, .int .i64 D, .int .i64 0] 79)).heap.size := by simp
  generalize w.alloc (.cells #[.int .i64 3, .int .i64 S, .int .i64 D, .int .i64 0] 79) = W0 at *
  have H0 := checkPlan_any (HE.out.below D0.out) 3 S D 0
  rw [plan_ok hcS hcD] at H0
  refine Calls.mono H0 ?_
  clear H0
  rintro e w1 ⟨v1, rfl, hv1, b1⟩
  obtain rfl := bare0 hv1
  have P1 := hide (P0.out.below b1)
  have D1 := hide (chain D0.out b1)
  have hz1 : w.heap.size < w1.heap.size := Nat.lt_of_lt_of_le hz0 b1.size
  clear b1 hv1 P0 D0 hz0
  have tq := ((two_alloc w1 (.slice none 0 0) (.int .i64 0) 60).below (new_below' _ (.cells #[] 9))).below (new_below' _ (.cells #[.string sA, .string sE, .string sGet] 9))
  have b3 := chain (chain (new_below' w1 (.cells #[.slice none 0 0, .int .i64 0] 60)) (new_below' _ (.cells #[] 9))) (new_below' _ (.cells #[.string sA, .string sE, .string sGet] 9))
  have s3 := slk_three ((w1.alloc (.cells #[.slice none 0 0, .int .i64 0] 60)).alloc (.cells #[] 9)) (w1.heap.size + 1) (by simp)
  rw [show ((w1.alloc (.cells #[.slice none 0 0, .int .i64 0] 60)).alloc (.cells #[] 9)).heap.size = w1.heap.size + 1 + 1 by simp] at s3
  have hz3 : (((w1.alloc (.cells #[.slice none 0 0, .int .i64 0] 60)).alloc (.cells #[] 9)).alloc (.cells #[.string sA, .string sE, .string sGet] 9)).heap.size = w1.heap.size + 3 := by simp
  have TQ := hide tq
  have B3 := hide b3
  have S3 := hide s3
  have D3 := hide (chain D1.out b3)
  have P3 := hide (P1.out.below b3)
  clear tq b3 s3
  have hN : (three ++ l).length = len + 3 := by rw [List.length_append, hl, Nat.add_comm]; rfl
  have HSM := hide (small_three HS.out.small)
  go_wp2_with (at_builtin; refine append_sts rfl (.tmp 28) (.tmp 29) rfl (w1.heap.size + 1) _ three rfl S3.out a len cap l rfl hl (HS.out.row.below D3.out) (by show 3 + len ≤ _; omega) (by rw [hz3]; omega) ?_; intro v5 w5 h5 b5; obtain ⟨ar, cr, rfl, _⟩ := h5.row; rw [hN] at h5 ⊢; have O5 := hide h5; have B5 := hide b5; clear h5 b5)
  have hz5 : w1.heap.size + 3 ≤ w5.heap.size := by have := B5.out.size; rw [hz3] at this; exact this
  have Q0 : Hid (Qs w5 w5.heap.size w.heap.size w1.heap.size S D [] none 0 (.slice (some ⟨w1.heap.size + 1, 0, none⟩) 0 0) ar (three ++ l)) := by
    refine ⟨Nat.le_refl _, P3.out.low B5.out (by omega), TQ.out.low B5.out (by omega), slk_nil _ _, slk_mt _ _ _, fun k x hk => ?_, rfl, by simp; omega, fun x hx => by simp at hx⟩
    rcases O5.out with ho | ⟨hnil, _⟩
    · rcases ho.2 with ⟨_, hn0⟩ | ⟨g, cp, cur, e, hg, hh, hnc, hcm, hcs, htake⟩
      · rw [hN] at hn0
        omega
      · simp only [Value.slice.injEq] at e
        obtain ⟨rfl, _, rfl⟩ := e
        have hlt := (Array.getElem?_eq_some_iff.1 hh).1
        have hkl := (List.getElem?_eq_some_iff.1 hk).1
        refine ⟨g, 0, rfl, by omega, hlt, ?_⟩
        rw [hN] at ho hkl
        have := World.ownsRow.cellAt ho k (by omega)
        rw [Nat.zero_add, this, List.getElem?_map, hk]
        rfl
    · have := congrArg List.length hnil
      rw [List.length_map, hN] at this
      simp at this
  have D5 : Hid (Below w.heap.size w w5) := D3.out.trans (B5.out.mono (by omega))
  clear TQ B3 S3 D3 P3 O5 B5 P1 D1 hz3
  generalize hLL : three ++ l = LL at *
  generalize hNN : len + 3 = N at *
  have hq0 : w1.heap.size < w5.heap.size := by omega
  generalize hBB : w5.heap.size = B at *
  go_loopw [9, 32] (fun vw i wr => ∃ (j : Nat) (L : List ByteArray) (aq : Option Addr) (cq : Nat), j ≤ N ∧ i = .int .i64 (j : Int) ∧ Hid (Qs wr B w.heap.size w1.heap.size S D L aq cq vw ar LL) ∧ Hid (Below w.heap.size w wr)) (fun _ i _ => N - (intOf i).toNat)
  case atStart => exact ⟨0, [], none, 0, by omega, rfl, Q0.out, D5.out⟩
  case round =>
    obtain ⟨j, L, aq, cq, hj, rfl, Q, DW⟩ := hrel
    have HK := hide (chk_ok hcS hcD Q.out.short Q.out.len)
    have hlen := Q.out.len
    have hLm : L.length ≤ 8796093022207 := by omega
    obtain ⟨aw, cw, rfl, hrw⟩ := Q.out.ow.row
    have HRW := hide hrw
    clear hrw
    have k0 := Q.out.pl.c0
    have k1 := Q.out.pl.c1
    have k2 := Q.out.pl.c2
    have k3 := Q.out.pl.c3
    have t0 := Q.out.tq.c0
    have t1 := Q.out.tq.c1
    obtain ⟨_, _, eq, sq⟩ := Q.out.oq.sts hLm Q.out.small
    simp only [Value.slice.injEq, true_and] at eq
    obtain ⟨rfl, rfl⟩ := eq
    have SQ := hide sq
    clear sq
    by_cases hlt : j < N
    · obtain ⟨x, hx⟩ : ∃ x, LL[j]? = some x := ⟨_, List.getElem?_eq_getElem (by rw [hN]; exact hlt)⟩
      have hxs : x.size ≤ 9223372036854775807 := HSM.out x (List.mem_of_getElem? hx)
      obtain ⟨b, off, rfl, hb1, hb2, e1⟩ := Q.out.rg j x hx
      clear hx
      cases hg : (x.toList == [0, 103, 101, 116])
      rotate_left
      · have HG := hide (get_any (HE.out.below DW.out) 3 S D 0 0 aq L.length cq L SQ.out)
        go_wp2_with fail
        refine Calls.mono HG.out ?_
        rintro e w6 ⟨x6, v6, rfl, hv6, o6, b6⟩
        rw [get_err HK.out] at hv6
        by_cases hL : L.length = 0
        · rw [got_no HK.out hL] at o6 ⊢
          rw [if_pos hL] at hv6
          obtain rfl := bareN hv6 (by decide)
          obtain ⟨a6, c6, rfl, _⟩ := o6.row
          have QN := hide (Q.out.below (chain b6 (new_below' w6 (.cells #[.slice a6 0 c6, .int .i64 0] 60))))
          have DN := hide (chain DW.out (chain b6 (new_below' w6 (.cells #[.slice a6 0 c6, .int .i64 0] 60))))
          clear b6 o6 hv6 HG k0 k1 k2 k3 t0 t1 e1
          simp only [noGot]
          unfold sent
          go_wp2
          go_roundw
          case rel => exact ⟨j + 1, L, aq, cq, by omega, by go_num, QN.out, DN.out⟩
          case measure => simp [intOf]; omega
        · obtain ⟨x0, hx0⟩ : ∃ x, L[0]? = some x := ⟨_, List.getElem?_eq_getElem (by omega)⟩
          have hhd : L.headD ByteArray.empty = x0 := by cases L with | nil => simp at hx0 | cons y t => simpa using hx0
          rw [got_is HK.out hL] at o6 ⊢
          rw [if_neg hL] at hv6
          obtain rfl := bare0 hv6
          rw [hhd]
          obtain ⟨a6, c6, rfl, _⟩ := o6.row
          have hdl : (L.drop 1).length = L.length - 1 := by rw [List.length_drop]
          simp only [hdl] at o6 ⊢
          obtain ⟨bw, ow, haw, ew⟩ := HRW.out.cell 0 (.string x0) (by rw [List.getElem?_map, hx0]; rfl)
          subst haw
          rw [Nat.add_zero] at ew
          have bN := new_below' w6 (.cells #[.slice a6 (L.length - 1) c6, .int .i64 0] 60)
          have e2 := cell_below ew (chain b6 bN)
          have hLn : 0 < L.length := by omega
          have hL1 : 1 ≤ L.length := by omega
          have hL1' : (1 : Int) ≤ (L.length : Int) := by omega
          have hLe : ((L.length : Int) == 0) = false := beq_eq_false_iff_ne.2 (by omega)
          have hcw := HRW.out.fit
          have hcw' : (L.length : Int) ≤ (cw : Int) := by omega
          have bM := new_below' (w6.alloc (.cells #[.slice a6 (L.length - 1) c6, .int .i64 0] 60)) (.cells #[] 9)
          obtain ⟨_, _, eq, sw⟩ := Q.out.ow.sts hLm Q.out.small
          simp only [Value.slice.injEq, true_and] at eq
          obtain ⟨rfl, rfl⟩ := eq
          have ST := hide ((sw.below (chain (chain b6 bN) bM)).tail hL1)
          have TN := hide ((two_alloc w6 (.slice a6 (L.length - 1) c6) (.int .i64 0) 60).below bM)
          have QN := hide (Q.out.below (chain (chain b6 bN) bM))
          have DN := hide (chain DW.out (chain (chain b6 bN) bM))
          have O6 := hide o6
          have BX := hide (chain bN bM)
          have hz6 : Q.out.bs = Q.out.bs := rfl
          have hB6 : B ≤ w6.heap.size := Nat.le_trans Q.out.bs b6.size
          have hwz : wr.heap.size ≤ w6.heap.size := b6.size
          have hBr := Q.out.bs
          have hX : ((w6.alloc (.cells #[.slice a6 (L.length - 1) c6, .int .i64 0] 60)).alloc (.cells #[] 9)).heap.size = w6.heap.size + 2 := by simp
          have hX1 : (w6.alloc (.cells #[.slice a6 (L.length - 1) c6, .int .i64 0] 60)).heap.size = w6.heap.size + 1 := by simp
          clear hz6 b6 bN bM o6 hv6 HG k0 k1 k2 k3 t0 t1 e1 ew sw HRW
          generalize hAd : (if cw = 1 then some (⟨bw, ow, none⟩ : Addr) else some ⟨bw, ow + 1, none⟩) = ad at *
          go_wp2_with (at_builtin; (try rw [hAd]); refine append_sts rfl (.tmp 67) (.tmp 69) rfl (w6.heap.size + 1) _ [] rfl (slk_mt _ _ _) ad (L.length - 1) (cw - 1) (L.drop 1) (by simp [Act.eval, Act.put, hAd]) hdl ST.out.row (by simp; omega) (by rw [hX]; omega) ?_; intro v7 w7 h7 b7; rw [List.nil_append] at h7; obtain ⟨a7, c7, rfl, _⟩ := h7.row; rw [hdl] at h7 ⊢; have O7 := hide h7; have B7 := hide b7; have T7 := hide (TN.out.low b7 (by omega)); have Q7 := hide (QN.out.tq.low b7 (by omega)); have u0 := T7.out.c0; have u1 := T7.out.c1; have y0 := Q7.out.c0; have y1 := Q7.out.c1; have y2 := Q7.out.f0; have y3 := Q7.out.f1; clear h7 b7)
          have QF := hide (QN.out.step (B7.out.mono (by omega)) hq0 hz1 hdl ((O6.out.below (BX.out.trans (B7.out.mono (by omega)))).weaken hBr) (O7.out.weaken (by omega)) (shorts_drop Q.out.short) (by rw [hdl]; omega) (fun y hy => Q.out.small y (List.mem_of_mem_drop hy)))
          have DF := hide (((DN.out.trans (B7.out.mono (by have := DW.out.size; omega))).setCell (p := ⟨w1.heap.size, 0, none⟩) (Nat.le_of_lt hz1) (.slice a6 (L.length - 1) c6)).setCell (p := ⟨w1.heap.size, 1, none⟩) (Nat.le_of_lt hz1) (.int .i64 0))
          refine ⟨⟨j + 1, L.drop 1, a6, c6, by omega, by go_num, QF.out, DF.out⟩, ?_⟩
          simp [intOf]
          omega
      · have HG := hide (put_any (HE.out.below DW.out) 3 S D 0 0 aq L.length cq L x SQ.out hxs)
        go_wp2_with fail
        refine Calls.mono HG.out ?_
        rintro e w6 ⟨x6, v6, rfl, hv6, o6, b6⟩
        rw [mov_err HK.out] at hv6
        by_cases g1 : S < (x.size : Int)
        · have hd1 : decide (S < (x.size : Int)) = true := decide_eq_true g1
          rw [if_pos g1] at hv6
          obtain rfl := bareN hv6 (by decide)
          obtain ⟨a6, c6, rfl, _⟩ := o6.row
          have bN := new_below' w6 (.cells #[.slice a6 (movL true 3 S D 0 L 0 x).length c6, .int .i64 0] 60)
          have QN := hide (Q.out.below (chain b6 bN))
          have DN := hide (chain DW.out (chain b6 bN))
          clear b6 o6 hv6 HG k0 k1 k2 k3 t0 t1 e1 bN
          have k1 := QN.out.pl.c1
          have k2 := QN.out.pl.c2
          generalize (movL true 3 S D 0 L 0 x).length = n6 at *
          unfold sent
          go_wp2
          go_roundw
          case rel => exact ⟨j + 1, L, aq, cq, by omega, by go_num, QN.out, DN.out⟩
          case measure => simp [intOf]; omega
        · have hd1 : decide (S < (x.size : Int)) = false := decide_eq_false g1
          rw [if_neg g1] at hv6
          by_cases g2 : (L.length : Int) = D
          · have hd2 : ((L.length : Int) == D) = true := beq_iff_eq.2 g2
            rw [if_pos g2] at hv6
            obtain rfl := bareN hv6 (by decide)
            obtain ⟨a6, c6, rfl, _⟩ := o6.row
            have bN := new_below' w6 (.cells #[.slice a6 (movL true 3 S D 0 L 0 x).length c6, .int .i64 0] 60)
            have QN := hide (Q.out.below (chain b6 bN))
            have DN := hide (chain DW.out (chain b6 bN))
            clear b6 o6 hv6 HG k0 k1 k2 k3 t0 t1 e1 bN
            have k1 := QN.out.pl.c1
            have k2 := QN.out.pl.c2
            generalize (movL true 3 S D 0 L 0 x).length = n6 at *
            clear g2
            unfold sent
            go_wp2
            go_roundw
            case rel => exact ⟨j + 1, L, aq, cq, by omega, by go_num, QN.out, DN.out⟩
            case measure => simp [intOf]; omega
          · have hd2 : ((L.length : Int) == D) = false := beq_eq_false_iff_ne.2 g2
            rw [if_neg g2] at hv6
            obtain rfl := bare0 hv6
            rw [mov_list HK.out g1 g2] at o6
            obtain ⟨a6, c6, rfl, _⟩ := o6.row
            have hal : (L ++ [x]).length = L.length + 1 := by rw [List.length_append]; rfl
            rw [hal] at o6 ⊢
            have bN := new_below' w6 (.cells #[.slice a6 (L.length + 1) c6, .int .i64 0] 60)
            have bM := new_below' (w6.alloc (.cells #[.slice a6 (L.length + 1) c6, .int .i64 0] 60)) (.cells #[.string x] 9)
            have RL := hide (row_lit (w6.alloc (.cells #[.slice a6 (L.length + 1) c6, .int .i64 0] 60)) x)
            have TN := hide ((two_alloc w6 (.slice a6 (L.length + 1) c6) (.int .i64 0) 60).below bM)
            have Q1 := hide (Q.out.below (chain b6 bN))
            have QN := hide (Q.out.below (chain (chain b6 bN) bM))
            have DN := hide (chain DW.out (chain (chain b6 bN) bM))
            have BR := hide (chain (chain b6 bN) bM)
            have O6 := hide ((o6.below bN).below bM)
            have hB6 : B ≤ w6.heap.size := Nat.le_trans Q.out.bs b6.size
            have hwz : wr.heap.size ≤ w6.heap.size := b6.size
            have hBr := Q.out.bs
            have hX : ((w6.alloc (.cells #[.slice a6 (L.length + 1) c6, .int .i64 0] 60)).alloc (.cells #[.string x] 9)).heap.size = w6.heap.size + 2 := by simp
            have hX1 : (w6.alloc (.cells #[.slice a6 (L.length + 1) c6, .int .i64 0] 60)).heap.size = w6.heap.size + 1 := by simp
            rw [hX1] at RL
            clear b6 bN bM o6 hv6 HG k0 k1 k2 k3 t0 t1 e1
            have k1 := Q1.out.pl.c1
            have k2 := Q1.out.pl.c2
            have hLb : L.length + 1 ≤ 8796093022208 := by omega
            go_wp2_with (at_builtin; refine append_keep (w0 := wr) rfl (.tmp 95) (.tmp 97) rfl B _ L rfl Q.out.ow BR.out (some ⟨w6.heap.size + 1, 0, none⟩) 1 1 [x] rfl rfl RL.out hLb hBr ?_; intro v7 w7 h7 b7 kp7; obtain ⟨a7, c7, rfl, _⟩ := h7.row; rw [hal] at h7 ⊢; have O7 := hide h7; have B7 := hide b7; have KP := hide kp7; have T7 : Hid (Two w7 w6.heap.size (.slice a6 (L.length + 1) c6) (.int .i64 0)) := TN.out.kept (kp7 _ hwz (by rw [hX]; omega)); have Q7 := hide (QN.out.tq.low b7 hq0); have P7 := hide (QN.out.pl.low b7 (by omega)); have u0 := T7.out.c0; have u1 := T7.out.c1; have y0 := Q7.out.c0; have y1 := Q7.out.c1; have y2 := Q7.out.f0; have y3 := Q7.out.f1; clear h7 b7 kp7)
            have hsn := shorts_snoc (x := x) Q.out.short (by omega)
            have hln : ((L ++ [x]).length : Int) ≤ D := by rw [hal]; omega
            have hsm : Smalls (L ++ [x]) := fun y hy => by
              rcases List.mem_append.1 hy with hy | hy
              · exact Q.out.small y hy
              · rw [List.mem_singleton.1 hy]; exact hxs
            have HSN := hide hsm
            have QF := hide (QN.out.step B7.out hq0 hz1 hal ((O6.out.keep KP.out).weaken hBr) O7.out hsn hln hsm)
            have DF := hide (((DN.out.trans (B7.out.mono (by have := DW.out.size; omega))).setCell (p := ⟨w1.heap.size, 0, none⟩) (Nat.le_of_lt hz1) (.slice a6 (L.length + 1) c6)).setCell (p := ⟨w1.heap.size, 1, none⟩) (Nat.le_of_lt hz1) (.int .i64 0))
            have HC := hide (chk_ok hcS hcD hsn hln)
            clear hsm hsn Q1 QN DN BR O6 B7 KP T7 Q7 P7 TN RL u0 u1 y0 y1 y2 y3 k1 k2
            generalize (w7.setCell ⟨w1.heap.size, 0, none⟩ (.slice a6 (L.length + 1) c6)).setCell ⟨w1.heap.size, 1, none⟩ (.int .i64 0) = Y at *
            have oq := QF.out.oq
            have ow := QF.out.ow
            rw [hal] at oq
            refine Calls.mono (strings_slk oq ow (by rw [hal]; omega) HSN.out) ?_
            rintro e w8 ⟨rfl, b8⟩
            have Q8 := hide (QF.out.below b8)
            have D8 := hide (chain DF.out b8)
            obtain ⟨_, _, eq, sq⟩ := (oq.below b8).sts (by rw [hal]; omega) HSN.out
            rw [hal] at eq sq
            simp only [Value.slice.injEq, true_and] at eq
            obtain ⟨rfl, rfl⟩ := eq
            have SQ8 := hide sq
            have k0 := Q8.out.pl.c0
            have k1 := Q8.out.pl.c1
            have k2 := Q8.out.pl.c2
            have k3 := Q8.out.pl.c3
            have t0 := Q8.out.tq.c0
            have t1 := Q8.out.tq.c1
            rw [hal] at t0
            clear b8 oq ow sq QF DF
            have H8 := check_any (HE.out.below D8.out) 3 S D 0 0 a6 (L.length + 1) c6 (L ++ [x]) SQ8.out
            rw [HC.out] at H8
            have HG8 := hide H8
            clear H8
            go_wp2_with fail
            refine Calls.mono HG8.out ?_
            rintro e w9 ⟨v9, rfl, hv9, b9⟩
            obtain rfl := bare0 hv9
            have Q9 := hide (Q8.out.below b9)
            have D9 := hide (chain D8.out b9)
            clear b9 hv9 Q8 D8 k0 k1 k2 k3 t0 t1 HG8
            go_wp2
            go_roundw
            case rel => exact ⟨j + 1, L ++ [x], a6, c6, by omega, by go_num, Q9.out, D9.out⟩
            case measure => simp [intOf]; omega
    · obtain rfl : j = N := by omega
      go_wp2_with fail
      refine Calls.mono (strings_slk Q.out.oq Q.out.ow hLm Q.out.small) ?_
      rintro e w6 ⟨rfl, b6⟩
      have DN := hide (chain DW.out b6)
      clear b6
      go_wp2
      go_ret
      exact ⟨rfl, DN.out⟩
end Go.Proofs.YtldnoabbnlfknabDoor.ferryQueuesInOrder
