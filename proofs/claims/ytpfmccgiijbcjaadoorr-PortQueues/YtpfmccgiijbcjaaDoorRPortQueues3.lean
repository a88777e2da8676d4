/-
  Walk of the law PortQueues, for plans of kind 3.
-/
import Derived.Test.YtpfmccgiijbcjaaDoorRPqState
namespace Go.Proofs.YtpfmccgiijbcjaaDoorR.portQueues
open Go.RowKit
set_option linter.unusedVariables false
set_option linter.unusedSimpArgs false

set_option maxRecDepth 100000 in
set_option maxHeartbeats 16000000 in
theorem law3 {E : Nat → Addr} (s d r : Int) (a : Option Addr) (len cap : Nat) (KK : Nat → Int) (XX : Nat → ByteArray) (w : World) (he : Errs w E) (hs : Sps w a len KK XX) (hP : planErr 3 s d r = 0) :
    Calls Tryd.prog 6 #[.agg #[.int .i64 3, .int .i64 s, .int .i64 d, .int .i64 r], .slice a len cap] w fun e w' => e = .returned (.bool true) ∧ Below w.heap.size w w' := by
  have HE := hide he
  have HS := hide hs
  have hm := hs.most
  have HPI := hide (pe_is 3 s d r)
  have P0 := hide (pl_alloc w 3 s d r)
  have D0 := hide (new_below2 w (.cells #[.int .i64 3, .int .i64 s, .int .i64 d, .int .i64 r] 23))
  have hz0 : w.heap.size < (w.alloc (.cells #[.int .i64 3, .int .i64 s, .int .i64 d, .int .i64 r] 23)).heap.size := by simp
  clear he hs
  go_enter Tryd.func6, Tryd.ntmps6
  go_wp2_with fail
  generalize w.alloc (.cells #[.int .i64 3, .int .i64 s, .int .i64 d, .int .i64 r] 23) = W0 at *
  refine Calls.mono (fixed_yes (HE.out.below D0.out)) ?_
  rintro e w1 ⟨rfl, b1⟩
  have P1 := hide (P0.out.below b1)
  have D1 := hide (chain D0.out b1)
  have hz1 : w.heap.size < w1.heap.size := Nat.lt_of_lt_of_le hz0 b1.size
  clear b1 P0 D0 hz0
  have k0 := P1.out.c0
  have k1 := P1.out.c1
  have k2 := P1.out.c2
  have k3 := P1.out.c3
  have H2 := refCheckPlan_any 3 s d r w1
  rw [hP] at H2
  have G2 := hide H2
  clear H2
  go_wp2_with fail
  refine Calls.mono G2.out ?_
  rintro e w2 ⟨rfl, b2⟩
  have P2 := hide (P1.out.below b2)
  have D2 := hide (chain D1.out b2)
  have hz2 : w.heap.size < w2.heap.size := Nat.lt_of_lt_of_le hz1 b2.size
  clear b2 P1 D1 hz1 k0 k1 k2 k3 G2
  have k0 := P2.out.c0
  have k1 := P2.out.c1
  have k2 := P2.out.c2
  have k3 := P2.out.c3
  have PS0 : Hid (Ps (w2.alloc (.cells #[.slice none 0 0, .int .i64 0] 26)) (w2.heap.size + 1) w.heap.size w2.heap.size 3 s d r [] none 0 0 (.slice none 0 0) 0) :=
    ⟨by simp, P2.out.below (new_below2 _ _), two_alloc w2 _ _ _, slk_nil _ _, ln_nil _ _, chk_mk hP (by show (0 : Int) ≤ d; have := HPI.out; omega) (by omega) (by have := ma_is 3 ([] : List ByteArray).length; omega) rfl, fun x hx => by simp at hx, by omega, fun _ h => absurd rfl h⟩
  have DS0 := hide (chain D2.out (new_below2 w2 (.cells #[.slice none 0 0, .int .i64 0] 26)))
  go_wp2
  clear k0 k1 k2 k3 P2 D2
  have hq0 : w2.heap.size < w2.heap.size + 1 := Nat.lt_succ_self _
  go_loopw [8, 9, 10] (fun v8 v9 v10 wr => ∃ (j : Nat) (L : List ByteArray) (aq : Option Addr) (cq : Nat) (A age : Int), j ≤ len ∧ v10 = .int .i64 (j : Int) ∧ v9 = .int .i64 age ∧ age ≤ j ∧ Hid (Ps wr (w2.heap.size + 1) w.heap.size w2.heap.size 3 s d r L aq cq A v8 age) ∧ Hid (Below w.heap.size w wr)) (fun _ _ i _ => len - (intOf i).toNat)
  case atStart => exact ⟨0, [], none, 0, 0, 0, by omega, rfl, rfl, by omega, PS0.out, DS0.out⟩
  case round =>
    obtain ⟨j, L, aq, cq, A, age, hj, rfl, rfl, haj, P, DW⟩ := hrel
    have HCL := hide (chk_len P.out.chk)
    have hage0 := P.out.age0
    have HAO := hide P.out.ageok
    obtain ⟨al, cl, rfl, hlc, hlm⟩ := P.out.ln.slice
    by_cases hlt : j < len
    · obtain ⟨b, off, rfl, hxs, e0, e1⟩ := (HS.out.below DW.out).cell j hlt
      have e0' := e0
      have e1' := e1
      generalize hkd : KK j = kd at *
      generalize hxx : XX j = x at *
      have PX := hide (P.out.below (new_below2 wr (.cells #[.int .i64 kd, .string x] 84)))
      have DX := hide (chain DW.out (new_below2 wr (.cells #[.int .i64 kd, .string x] 84)))
      have TO := hide (two_alloc wr (.int .i64 kd) (.string x) 84)
      have BX := hide (new_below2 wr (.cells #[.int .i64 kd, .string x] 84))
      have hzx : (wr.alloc (.cells #[.int .i64 kd, .string x] 84)).heap.size = wr.heap.size + 1 := by simp
      have k0 := PX.out.pl.c0
      have k1 := PX.out.pl.c1
      have k2 := PX.out.pl.c2
      have k3 := PX.out.pl.c3
      have t0 := PX.out.tq.c0
      have t1 := PX.out.tq.c1
      have o0 := TO.out.c0
      have o1 := TO.out.c1
      obtain ⟨_, _, eq, sq⟩ := PX.out.oq.sts (by have := HCL.out; omega) P.out.small
      simp only [Value.slice.injEq, true_and] at eq
      obtain ⟨rfl, rfl⟩ := eq
      have SQ := hide sq
      clear sq
      by_cases kd1 : kd = 1
      · subst kd1
        have HG := hide (put_any (HE.out.below DX.out) 3 s d r A aq L.length cq L x SQ.out hxs)
        go_wp2_with fail
        refine Calls.mono HG.out ?_
        rintro e w6 ⟨x6, v6, rfl, hv6, o6, b6⟩
        by_cases g1 : s < (x.size : Int)
        · have hd1 : decide (s < (x.size : Int)) = true := decide_eq_true g1
          by_cases g2 : (L.length : Int) = d
          · have hd2 : ((L.length : Int) == d) = true := beq_iff_eq.2 g2
            clear g2
            have hme : movErr true 3 s d r L A x = 11 := by unfold movErr addErr; rw [if_pos P.out.chk, if_pos (by decide), if_pos g1]
            have hv7 := hv6
            rw [hme] at hv7
            obtain rfl := bareN hv7 (by decide)
            obtain ⟨a6, c6, rfl, _⟩ := o6.row
            have bN := new_below2 w6 (.cells #[.slice a6 (movL true 3 s d r L A x).length c6, .int .i64 0] 26)
            have PN := hide (PX.out.below (chain b6 bN))
            have DN := hide (chain DX.out (chain b6 bN))
            have TON := hide (TO.out.below (chain b6 bN))
            clear k0 k1 k2 k3 t0 t1 o0 o1 e0 e1 e0' e1' b6 bN o6 hv6 hv7 HG hme
            generalize (movL true 3 s d r L A x).length = n6 at *
            have k0 := PN.out.pl.c0
            have k1 := PN.out.pl.c1
            have k2 := PN.out.pl.c2
            have o1 := TON.out.c1
            unfold sent
            go_wp2_with fail
            go_quiet (fail)
            go_wp2
            go_roundw
            case rel => exact ⟨j + 1, L, aq, cq, A, age, by omega, by go_num, rfl, by omega, PN.out.below (drewN_below (Below.refl _ _) nq), drewN_below DN.out nq⟩
            case measure => simp [intOf]; omega
          · have hd2 : ((L.length : Int) == d) = false := beq_eq_false_iff_ne.2 g2
            clear g2
            have hme : movErr true 3 s d r L A x = 11 := by unfold movErr addErr; rw [if_pos P.out.chk, if_pos (by decide), if_pos g1]
            have hv7 := hv6
            rw [hme] at hv7
            obtain rfl := bareN hv7 (by decide)
            obtain ⟨a6, c6, rfl, _⟩ := o6.row
            have bN := new_below2 w6 (.cells #[.slice a6 (movL true 3 s d r L A x).length c6, .int .i64 0] 26)
            have PN := hide (PX.out.below (chain b6 bN))
            have DN := hide (chain DX.out (chain b6 bN))
            have TON := hide (TO.out.below (chain b6 bN))
            clear k0 k1 k2 k3 t0 t1 o0 o1 e0 e1 e0' e1' b6 bN o6 hv6 hv7 HG hme
            generalize (movL true 3 s d r L A x).length = n6 at *
            have k0 := PN.out.pl.c0
            have k1 := PN.out.pl.c1
            have k2 := PN.out.pl.c2
            have o1 := TON.out.c1
            unfold sent
            go_wp2_with fail
            go_quiet (fail)
            go_wp2
            go_roundw
            case rel => exact ⟨j + 1, L, aq, cq, A, age, by omega, by go_num, rfl, by omega, PN.out.below (drewN_below (Below.refl _ _) nq), drewN_below DN.out nq⟩
            case measure => simp [intOf]; omega
        · have hd1 : decide (s < (x.size : Int)) = false := decide_eq_false g1
          by_cases g2 : (L.length : Int) = d
          · have hd2 : ((L.length : Int) == d) = true := beq_iff_eq.2 g2
            have hme : movErr true 3 s d r L A x = 14 := by unfold movErr addErr; rw [if_pos P.out.chk, if_pos (by decide), if_neg g1, if_neg (by decide), if_pos g2]
            have hv7 := hv6
            rw [hme] at hv7
            obtain rfl := bareN hv7 (by decide)
            obtain ⟨a6, c6, rfl, _⟩ := o6.row
            have bN := new_below2 w6 (.cells #[.slice a6 (movL true 3 s d r L A x).length c6, .int .i64 0] 26)
            have PN := hide (PX.out.below (chain b6 bN))
            have DN := hide (chain DX.out (chain b6 bN))
            have TON := hide (TO.out.below (chain b6 bN))
            clear k0 k1 k2 k3 t0 t1 o0 o1 e0 e1 e0' e1' b6 bN o6 hv6 hv7 HG hme
            generalize (movL true 3 s d r L A x).length = n6 at *
            have k0 := PN.out.pl.c0
            have k1 := PN.out.pl.c1
            have k2 := PN.out.pl.c2
            have o1 := TON.out.c1
            unfold sent
            go_wp2_with fail
            go_quiet (fail)
            go_wp2
            go_roundw
            case rel => exact ⟨j + 1, L, aq, cq, A, age, by omega, by go_num, rfl, by omega, PN.out.below (drewN_below (Below.refl _ _) nq), drewN_below DN.out nq⟩
            case measure => simp [intOf]; omega
          · have hd2 : ((L.length : Int) == d) = false := beq_eq_false_iff_ne.2 g2
            have hml : movL true 3 s d r L A x = L ++ [x] := by unfold movL addL; rw [if_pos ⟨P.out.chk, by decide⟩, if_pos (by unfold addErr; rw [if_neg g1, if_neg (by decide), if_neg g2]), if_pos (by decide)]
            have hme : movErr true 3 s d r L A x = 0 := by unfold movErr addErr; rw [if_pos P.out.chk, if_pos (by decide), if_neg g1, if_neg (by decide), if_neg g2]
            rw [hme] at hv6
            rw [hml] at o6
            obtain rfl := bare0 hv6
            obtain ⟨a6, c6, rfl, _⟩ := o6.row
            have HN' : Hid ((L ++ [x]).length = L.length + 1) := by unfold Hid; rw [List.length_append]; rfl
            rw [HN'.out] at o6 ⊢
            have bN := new_below2 w6 (.cells #[.slice a6 (L.length + 1) c6, .int .i64 (0)] 26)
            have PN := hide (PX.out.below (chain b6 bN))
            have DN := hide (chain DX.out (chain b6 bN))
            have TON := hide (TO.out.below (chain b6 bN))
            have TN := hide (two_alloc w6 (.slice a6 (L.length + 1) c6) (.int .i64 0) 26)
            have ON := hide (o6.below bN)
            have BRN := hide (chain BX.out (chain b6 bN))
            have hw6 : wr.heap.size + 1 ≤ w6.heap.size := by rw [← hzx]; exact b6.size
            have hXN : (w6.alloc (.cells #[.slice a6 (L.length + 1) c6, .int .i64 (0)] 26)).heap.size = w6.heap.size + 1 := by simp
            have hBr := P.out.bs
            have hxs' := hxs
            clear k0 k1 k2 k3 t0 t1 o0 o1 e0 e1 e0' e1' b6 bN o6 hv6 HG hme hml
            have k0 := PN.out.pl.c0
            have k1 := PN.out.pl.c1
            have k2 := PN.out.pl.c2
            have o1 := TON.out.c1
            go_wp2_with fail
            go_quiet (fail)
            go_wp2_with fail
            have PZ := hide (PN.out.below (drewN_below (Below.refl _ _) nq))
            have DZ := hide (drewN_below DN.out nq)
            have TOZ := hide (TON.out.below (drewN_below (Below.refl _ _) nq))
            have TZ := hide (TN.out.below (drewN_below (Below.refl _ _) nq))
            have OZ := hide (ON.out.below (drewN_below (Below.refl _ _) nq))
            have BZ := hide (drewN_below BRN.out nq)
            have HZZ : Hid (((w6.alloc (.cells #[.slice a6 (L.length + 1) c6, .int .i64 (0)] 26)).drewN nq).heap.size = w6.heap.size + 1) := hXN
            have HZX := hide hzx
            clear k0 k1 k2 o1 PN DN TON TN ON BRN hXN hzx
            generalize (w6.alloc (.cells #[.slice a6 (L.length + 1) c6, .int .i64 (0)] 26)).drewN nq = Z6 at *
            have q1 := TOZ.out.c1
            have n0 := TZ.out.c0
            have n1 := TZ.out.c1
            go_region_held3 (fun wz => wz.cell? ⟨wr.heap.size, 1, none⟩ = some (.string x) ∧ wz.cell? ⟨w6.heap.size, 0, none⟩ = some (.slice a6 (L.length + 1) c6) ∧ wz.cell? ⟨w6.heap.size, 1, none⟩ = some (.int .i64 0))
              (first | exact ⟨q1, n0, n1⟩ | exact ⟨cell_below q1 (below_new _ _), cell_below n0 (below_new _ _), cell_below n1 (below_new _ _)⟩ | exact ⟨TO7.out.c1, TN7.out.c0, TN7.out.c1⟩ | (have z1 := (TO7.out.far (b' := w2.heap.size) (o := 0) (u := .slice a6 (L.length + 1) c6) (by omega)).far (b' := w2.heap.size) (o := 1) (u := .int .i64 0) (by omega); have z2 := (TN7.out.far (b' := w2.heap.size) (o := 0) (u := .slice a6 (L.length + 1) c6) (by omega)).far (b' := w2.heap.size) (o := 1) (u := .int .i64 0) (by omega); exact ⟨z1.c1, z2.c0, z2.c1⟩))
              ((refine step_line (w0 := wr) (by rfl) (.tmp 93) (.tmp 96) (by rfl) (w2.heap.size + 1) (.slice al L.length cl) (L) (by rfl) (P.out.ln) (chain BZ.out (below_new Z6 (.cells #[.string x] 9))) ⟨Z6.heap.size, 0, none⟩ x (by rfl) (by show (Z6.alloc (.cells #[.string x] 9)).cell? ⟨Z6.heap.size, 0, none⟩ = _; rw [World.cell?_alloc_at _ _ _ _ rfl]; (try rfl)) (by have := HCL.out; omega) hBr ?_; intro v7 w7 h7 b7 kp7; obtain ⟨a7, c7, rfl, hc7, hc7'⟩ := h7.slice; rw [HN'.out] at h7 ⊢; have hzn : (Z6.alloc (.cells #[.string x] 9)).drew.heap.size = w6.heap.size + 2 := (by show (Z6.alloc (.cells #[.string x] 9)).heap.size = _; simp [HZZ.out]); have L7 := hide h7; have B7 := hide b7; have K7 := hide kp7; have TO7 : Hid (Two w7 wr.heap.size (.int .i64 1) (.string x)) := (TOZ.out.below (below_new Z6 (.cells #[.string x] 9))).kept (kp7 _ (Nat.le_refl _) (by rw [hzn]; omega)); have TN7 : Hid (Two w7 w6.heap.size (.slice a6 (L.length + 1) c6) (.int .i64 0)) := (TZ.out.below (below_new Z6 (.cells #[.string x] 9))).kept (kp7 _ (by omega) (by rw [hzn]; omega)); have PQ7 := hide ((PZ.out.below (below_new Z6 (.cells #[.string x] 9))).tq.low b7 hq0); have ga := PQ7.out.c0; have gb := PQ7.out.c1; have gc := PQ7.out.f0; have gd := PQ7.out.f1; clear h7 b7 kp7))
            rename_i hheld
            clear hheld ga gb gc gd q1 n0 n1
            have PS := hide ((PZ.out.below (below_new Z6 (.cells #[.string x] 9))).step B7.out hq0 hz2 HN'.out (((OZ.out.below (below_new Z6 (.cells #[.string x] 9))).keep (fun k h1 h2 => K7.out k (by have := HZX.out; omega) h2)).weaken (by have := HZX.out; omega)) L7.out (chk_mk hP (by rw [HN'.out]; have := HCL.out; omega) (by omega) (by have := ma_is 3 (L ++ [x]).length; omega) (shorts_snoc (x := x) (by have := HCL.out; exact this.2.2.2.2.2.2.2.2.2.2.2.1) (by omega))) (fun y hy => (List.mem_append.1 hy).elim (P.out.small y) (fun h => (List.mem_singleton.1 h).symm ▸ hxs)) (show (0 : Int) ≤ 0 by omega) (A' := 0) (fun _ _ => .inl ⟨rfl, by omega⟩))
            have DS := hide (((chain DZ.out (below_new Z6 (.cells #[.string x] 9))).trans (B7.out.mono (by omega)) |>.setCell (p := ⟨w2.heap.size, 0, none⟩) (Nat.le_of_lt hz2) (.slice a6 (L.length + 1) c6)).setCell (p := ⟨w2.heap.size, 1, none⟩) (Nat.le_of_lt hz2) (.int .i64 0))
            generalize (w7.setCell ⟨w2.heap.size, 0, none⟩ (.slice a6 (L.length + 1) c6)).setCell ⟨w2.heap.size, 1, none⟩ (.int .i64 0) = Y at *
            have k0 := PS.out.pl.c0
            have k1 := PS.out.pl.c1
            have k2 := PS.out.pl.c2
            have k3 := PS.out.pl.c3
            have t0 := PS.out.tq.c0
            have t1 := PS.out.tq.c1
            (try rw [HN'.out] at t0)
            have H8 := check_any (HE.out.below DS.out) 3 s d r (0) a6 (L.length + 1) c6 (L ++ [x]) (PS.out.sts HN'.out)
            rw [PS.out.chk] at H8
            have HG8 := hide H8
            clear H8
            go_wp2_with fail
            refine Calls.mono HG8.out ?_
            rintro e w9 ⟨v9, rfl, hv9, b9⟩
            obtain rfl := bare0 hv9
            have PS9 := hide (PS.out.below b9)
            have DS9 := hide (chain DS.out b9)
            have t9 := PS9.out.tq.c0
            (try rw [HN'.out] at t9)
            clear b9 hv9 HG8 k0 k1 k2 k3 t0 t1
            go_wp2
            go_roundw
            case rel => exact ⟨j + 1, L ++ [x], a6, c6, 0, 0, by omega, by go_num, rfl, by omega, PS9.out, DS9.out⟩
            case measure => simp [intOf]; omega
      · have n1 : (kd == 1) = false := by simp [kd1]
        by_cases kd2 : kd = 2
        · subst kd2
          clear kd1
          have HG := hide (get_any (HE.out.below DX.out) 3 s d r A aq L.length cq L SQ.out)
          go_wp2_with fail
          refine Calls.mono HG.out ?_
          rintro e w6 ⟨x6, v6, rfl, hv6, o6, b6⟩
          have hge : getErr 3 s d r L A = if L.length = 0 then 17 else 0 := by unfold getErr; rw [if_pos P.out.chk, if_pos (by decide)]
          rw [hge] at hv6
          by_cases hL : L.length = 0
          · have hgo : got 3 s d r L A = noGot := by unfold got; rw [if_neg (by rw [hge, if_pos hL]; decide)]
            rw [hgo] at o6 ⊢
            rw [if_pos hL] at hv6
            obtain rfl := bareN hv6 (by decide)
            obtain ⟨a6, c6, rfl, _⟩ := o6.row
            have bN := new_below2 w6 (.cells #[.slice a6 0 c6, .int .i64 0] 26)
            have PN := hide (PX.out.below (chain b6 bN))
            have DN := hide (chain DX.out (chain b6 bN))
            clear k0 k1 k2 k3 t0 t1 o0 o1 e0 e1 e0' e1' b6 bN o6 hv6 HG hge hgo
            simp only [noGot]
            unfold sent
            go_wp2
            go_roundw
            case rel => exact ⟨j + 1, L, aq, cq, A, age, by omega, by go_num, rfl, by omega, PN.out, DN.out⟩
            case measure => simp [intOf]; omega
          · obtain ⟨x0, hx0⟩ : ∃ y, L[0]? = some y := ⟨_, List.getElem?_eq_getElem (by omega)⟩
            have hhd : L.headD ByteArray.empty = x0 := by cases L with | nil => simp at hx0 | cons y t => simpa using hx0
            have hgo : got 3 s d r L A = ⟨L.drop 1, 0, x0, true⟩ := by unfold got; rw [if_pos (by rw [hge, if_neg hL]), if_pos (by decide), hhd]
            rw [hgo] at o6 ⊢
            rw [if_neg hL] at hv6
            obtain rfl := bare0 hv6
            obtain ⟨a6, c6, rfl, _⟩ := o6.row
            have HN' : Hid ((L.drop 1).length = L.length - 1) := by unfold Hid; rw [List.length_drop]
            simp only [HN'.out] at o6 ⊢
            obtain ⟨bw, ow, haw, ew⟩ := P.out.ln.cell hx0
            subst haw
            rw [Nat.add_zero] at ew
            have bN := new_below2 w6 (.cells #[.slice a6 (L.length - 1) c6, .int .i64 (0)] 26)
            have e2 := cell_below ew (chain BX.out (chain b6 bN))
            have hLn : 0 < L.length := by omega
            have hL1 : 1 ≤ L.length := by omega
            have hL1' : (1 : Int) ≤ (L.length : Int) := by omega
            have hLe : ((L.length : Int) == 0) = false := beq_eq_false_iff_ne.2 (by omega)
            have hlc' : (L.length : Int) ≤ (cl : Int) := by omega
            have PN := hide (PX.out.below (chain b6 bN))
            have DN := hide (chain DX.out (chain b6 bN))
            have TN := hide (two_alloc w6 (.slice a6 (L.length - 1) c6) (.int .i64 (0)) 26)
            have hBx : w2.heap.size + 1 ≤ (wr.alloc (.cells #[.int .i64 2, .string x] 84)).heap.size := PX.out.bs
            have LT := hide (PN.out.ln.tail hL1)
            generalize hAd : (if cl = 1 then some (⟨bw, ow, none⟩ : Addr) else some ⟨bw, ow + 1, none⟩) = ad at *
            skip
            have PS := hide (PN.out.step (Below.refl _ _) hq0 hz2 HN'.out ((o6.below bN).weaken hBx) LT.out (chk_mk hP (by rw [HN'.out]; have := HCL.out; omega) (by have := HCL.out; omega) (by have := ma_is 3 (L.drop 1).length; omega) (shorts_drop (by have := HCL.out; exact this.2.2.2.2.2.2.2.2.2.2.2.1))) (fun y hy => P.out.small y (List.mem_of_mem_drop hy)) hage0 (A' := 0) (fun e _ => by omega))
            have DS := hide ((DN.out.setCell (p := ⟨w2.heap.size, 0, none⟩) (Nat.le_of_lt hz2) (.slice a6 (L.length - 1) c6)).setCell (p := ⟨w2.heap.size, 1, none⟩) (Nat.le_of_lt hz2) (.int .i64 (0)))
            have j0 := PN.out.pl.c0
            have j3 := PN.out.pl.c3
            clear k0 k1 k2 k3 t0 t1 o0 o1 e0 e1 e0' e1' ew b6 bN o6 hv6 HG hge hgo hL hx0
            have u0 := TN.out.c0
            have u1 := TN.out.c1
            have y0 := PN.out.tq.c0
            have y1 := PN.out.tq.c1
            have y2 := PN.out.tq.f0
            have y3 := PN.out.tq.f1
            have k0 := PS.out.pl.c0
            have k1 := PS.out.pl.c1
            have k2 := PS.out.pl.c2
            have k3 := PS.out.pl.c3
            have t0 := PS.out.tq.c0
            have t1 := PS.out.tq.c1
            (try rw [HN'.out] at t0)
            have H8 := check_any (HE.out.below DS.out) 3 s d r (0) a6 (L.length - 1) c6 (L.drop 1) (PS.out.sts HN'.out)
            rw [PS.out.chk] at H8
            have HG8 := hide H8
            clear H8
            go_wp2_with fail
            clear u0 u1 y0 y1 y2 y3 j0 j3 e2
            generalize ((w6.alloc (.cells #[.slice a6 (L.length - 1) c6, .int .i64 (0)] 26)).setCell ⟨w2.heap.size, 0, none⟩ (.slice a6 (L.length - 1) c6)).setCell ⟨w2.heap.size, 1, none⟩ (.int .i64 (0)) = Y at *
            refine Calls.mono HG8.out ?_
            rintro e w9 ⟨v9, rfl, hv9, b9⟩
            obtain rfl := bare0 hv9
            have PS9 := hide (PS.out.below b9)
            have DS9 := hide (chain DS.out b9)
            have t9 := PS9.out.tq.c0
            (try rw [HN'.out] at t9)
            clear b9 hv9 HG8 k0 k1 k2 k3 t0 t1
            go_wp2
            go_roundw
            case rel => exact ⟨j + 1, L.drop 1, a6, c6, 0, age, by omega, by go_num, rfl, by omega, PS9.out, DS9.out⟩
            case measure => simp [intOf]; omega
        · have n2 : (kd == 2) = false := by simp [kd2]
          by_cases kd3 : kd = 3
          · subst kd3
            clear kd1 kd2
            have HG := hide (age_any (HE.out.below DX.out) 3 s d r A aq L.length cq L SQ.out)
            have hw : IntKind.i64.wrap (age + 1) = age + 1 := by rw [IntKind.wrap_i64]; omega
            go_wp2_with fail
            refine Calls.mono HG.out ?_
            rintro e w6 ⟨x6, v6, rfl, hv6, o6, b6⟩
            rw [P.out.chk] at hv6
            obtain rfl := bare0 hv6
            have hAL : ageL 3 s d r L A = L := by unfold ageL; rw [if_pos P.out.chk]
            have hAA : ageA 3 s d r L A = agedV 3 L.length A := by unfold ageA; rw [if_pos P.out.chk]
            have HAV := hide (aged_is 3 L.length A (by have := HCL.out; omega) (by have := HCL.out; omega))
            rw [hAL] at o6
            rw [hAA]
            obtain ⟨a6, c6, rfl, _⟩ := o6.row
            generalize agedV 3 L.length A = A' at *
            have bN := new_below2 w6 (.cells #[.slice a6 (L.length) c6, .int .i64 (A')] 26)
            have PN := hide (PX.out.below (chain b6 bN))
            have DN := hide (chain DX.out (chain b6 bN))
            have TN := hide (two_alloc w6 (.slice a6 L.length c6) (.int .i64 A') 26)
            have HN' : Hid (L.length = L.length) := rfl
            have hBx : w2.heap.size + 1 ≤ (wr.alloc (.cells #[.int .i64 3, .string x] 84)).heap.size := PX.out.bs
            have PS := hide (PN.out.step (Below.refl _ _) hq0 hz2 rfl ((o6.below bN).weaken hBx) PN.out.ln (chk_mk hP (by have := HCL.out; omega) (by have := HAV.out; have := HCL.out; omega) (by have := HAV.out; have := HCL.out; have := ma_is 3 L.length; omega) (by have := HCL.out; exact this.2.2.2.2.2.2.2.2.2.2.2.1)) P.out.small (show 0 ≤ age + 1 by omega) (A' := A') (fun e1 e2 => by have := HAO.out e1 e2; have := HAV.out; have := ma_is 3 L.length; omega))
            have DS := hide ((DN.out.setCell (p := ⟨w2.heap.size, 0, none⟩) (Nat.le_of_lt hz2) (.slice a6 L.length c6)).setCell (p := ⟨w2.heap.size, 1, none⟩) (Nat.le_of_lt hz2) (.int .i64 A'))
            clear k0 k1 k2 k3 t0 t1 o0 o1 e0 e1 e0' e1' b6 bN o6 hv6 HG
            have u0 := TN.out.c0
            have u1 := TN.out.c1
            have y0 := PN.out.tq.c0
            have y1 := PN.out.tq.c1
            have y2 := PN.out.tq.f0
            have y3 := PN.out.tq.f1
            have k0 := PS.out.pl.c0
            have k1 := PS.out.pl.c1
            have k2 := PS.out.pl.c2
            have k3 := PS.out.pl.c3
            have t0 := PS.out.tq.c0
            have t1 := PS.out.tq.c1
            (try rw [HN'.out] at t0)
            have H8 := check_any (HE.out.below DS.out) 3 s d r (A') a6 (L.length) c6 (L) (PS.out.sts HN'.out)
            rw [PS.out.chk] at H8
            have HG8 := hide H8
            clear H8
            go_wp2_with fail
            clear u0 u1 y0 y1 y2 y3
            generalize ((w6.alloc (.cells #[.slice a6 (L.length) c6, .int .i64 (A')] 26)).setCell ⟨w2.heap.size, 0, none⟩ (.slice a6 L.length c6)).setCell ⟨w2.heap.size, 1, none⟩ (.int .i64 A') = Y at *
            refine Calls.mono HG8.out ?_
            rintro e w9 ⟨v9, rfl, hv9, b9⟩
            obtain rfl := bare0 hv9
            have PS9 := hide (PS.out.below b9)
            have DS9 := hide (chain DS.out b9)
            have t9 := PS9.out.tq.c0
            (try rw [HN'.out] at t9)
            clear b9 hv9 HG8 k0 k1 k2 k3 t0 t1
            go_wp2
            go_roundw
            case rel => exact ⟨j + 1, L, a6, c6, A', age + 1, by omega, by go_num, rfl, by omega, PS9.out, DS9.out⟩
            case measure => simp [intOf]; omega
          · have n3 : (kd == 3) = false := by simp [kd3]
            clear kd1 kd2 kd3
            have PS := PX
            have DS := DX
            have H8 := check_any (HE.out.below DS.out) 3 s d r A aq L.length cq L SQ.out
            rw [PS.out.chk] at H8
            have HG8 := hide H8
            clear H8
            go_wp2_with fail
            refine Calls.mono HG8.out ?_
            rintro e w9 ⟨v9, rfl, hv9, b9⟩
            obtain rfl := bare0 hv9
            have PS9 := hide (PS.out.below b9)
            have DS9 := hide (chain DS.out b9)
            have t9 := PS9.out.tq.c0
            clear b9 hv9 HG8 k0 k1 k2 k3 t0 t1 o0 o1 e0 e1 e0' e1'
            go_wp2
            go_roundw
            case rel => exact ⟨j + 1, L, aq, cq, A, age, by omega, by go_num, rfl, by omega, PS9.out, DS9.out⟩
            case measure => simp [intOf]; omega
    · obtain rfl : j = len := by omega
      go_wp2
      go_ret
      exact ⟨rfl, DW.out⟩
end Go.Proofs.YtpfmccgiijbcjaaDoorR.portQueues
