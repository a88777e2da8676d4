/-
  The law FerryTablesKeep, walked.
-/
import Derived.Test.YtnjabidelpafgaaDoorTkLaw
namespace Go.Proofs.YtnjabidelpafgaaDoor.ferryTablesKeep
open Classical
open Go.RowKit
set_option linter.unusedVariables false
set_option linter.unusedSimpArgs false

theorem mine_put3 {w w' : World} {base tb : Nat} {v1 v2 v3 u1 u2 u3 : Value} {l l' : List Pro} {r r' : List Int} {t t' : List Tm} (h : Mine w base tb v1 v2 v3 l r t) (hb : Below w.heap.size w w') {B : Nat} (hB : tb < B) (hB' : base ≤ B) (ht : Tab w' B u1 u2 u3 l' r' t') :
    Mine (((w'.setCell ⟨tb, 0, none⟩ (u1)).setCell ⟨tb, 1, none⟩ (u2)).setCell ⟨tb, 2, none⟩ (u3)) base tb u1 u2 u3 l' r' t' := by
  have far : ∀ {e : TypeId} {sz n : Nat} {v : Value} {cs : List Value}, w'.ownsRow B e sz v n cs → v.ownBlock ≠ some tb := fun ho e => by
    have := (ho.lt _ e).1
    omega
  refine ⟨bl_three (h.bl.below h.lt hb) u1 u2 u3, (ht.three (g := tb) hB u1 u2 u3).weaken hB', far ht.p, far ht.r, far ht.t, h.hb, ?_⟩
  have h1 := h.lt
  have h2 := hb.size
  simp [World.setCell]
  omega
set_option maxRecDepth 100000 in
set_option maxHeartbeats 8000000 in
theorem law (many : Int) (ma : Option Addr) (mn mc : Nat) (ms : List Mv) (w : World) {E : Nat → Addr} (he : Er9 w E) (hs : Mvs w ma mn mc ms) (hm : mn ≤ 9223372036854775807) :
    Calls Tryd.prog 3 #[.int .i64 many, .slice ma mn mc] w fun e w' => e = .returned (.bool true) ∧ Below w.heap.size w w' := by
  have HE := hide he
  have HS := hide hs
  have HL : Hid (ms.length = mn) := hs.size
  clear he hs
  go_enter Tryd.func3, Tryd.ntmps3
  go_wp2_with fail
  refine Calls.mono (clamp_any many 1 8 w) ?_
  rintro e w' ⟨rfl, rfl⟩
  obtain ⟨hn1, hn2⟩ := clampV_in many (show (1 : Int) ≤ 8 by decide)
  generalize clampV many 1 8 = nn at *
  obtain ⟨n, rfl⟩ := Int.eq_ofNat_of_zero_le (show 0 ≤ nn by omega)
  go_upto_region 2 with (refine make_pros rfl (.tmp 12) (.tmp 12) rfl _ _ n rfl rfl rfl rfl (by omega) ?_; intro w1 h1 x1; have P1 := hide h1; have X1 := hide x1; clear h1 x1)
  have hb1 : Hid (w.heap.size ≤ w1.heap.size) := X1.out.size
  have T1 : Hid (Tab w1 w.heap.size (.slice (some ⟨w.heap.size, 0, none⟩) n n) (.slice none 0 0) (.slice none 0 0) (List.replicate n zeroP) [] []) := ⟨P1.out, iown_nil _ _, town_nil _ _, (sep_nil _).symm, (sep_nil _).symm, sep_nil _⟩
  have X2 := hide (new_below w1 (.cells #[.slice (some ⟨w.heap.size, 0, none⟩) n n, .slice none 0 0, .slice none 0 0] 28))
  have M1 := hide (mine_new T1.out hb1.out 28)
  have B2 := hide (chain X1.out X2.out)
  clear P1 T1 X1 X2
  generalize w1.alloc (.cells #[.slice (some ⟨w.heap.size, 0, none⟩) n n, .slice none 0 0, .slice none 0 0] 28) = W2 at *
  generalize w1.heap.size = tb at *
  have Q2 := hide (tab_listsM M1.out.tab)
  have u0 := M1.out.bl.cell 0 _ rfl
  have u1 := M1.out.bl.cell 1 _ rfl
  have u2 := M1.out.bl.cell 2 _ rfl
  go_wp2_with fail
  refine Calls.mono (start_any (HE.out.below B2.out) _ _ _ _ Q2.out.1 _ _ _ _ Q2.out.2.1 _ _ _ _ Q2.out.2.2 (by omega) (by omega) (by omega) 0 8 5) ?_
  rintro e w3 ⟨a1, n1, c1, a2, n2, c2, a3, n3, c3, v, rfl, hv, htab, x3⟩
  have hg0 : Good (List.replicate n zeroP) [] [] := good_zero (by omega)
  have h0 : (List.replicate n zeroP)[0]? = some zeroP := by rw [List.getElem?_replicate, if_pos (by omega)]
  have hok : OkP (List.replicate n zeroP) 0 [0, 3] ∧ ((0 : Int) ≤ 5 ∧ (5 : Int) ≤ 255) := by
    refine ⟨⟨by omega, by rw [List.length_replicate]; omega, ?_⟩, by omega⟩
    rw [show stateAt (List.replicate n zeroP) 0 = 0 from stateAt_of (k := 0) h0]
    simp
  rw [ofE_ok hg0 hok] at hv
  obtain rfl := bare0 hv
  have hl1 : setAt (List.replicate n zeroP) 0 (fun _ => newP 8 5) = (List.replicate n zeroP).set 0 (newP 8 5) := setAt_of (k := 0) h0 _
  rw [show ownT (Good (List.replicate n zeroP) [] [] ∧ OkP (List.replicate n zeroP) 0 [0, 3] ∧ ((0 : Int) ≤ 5 ∧ (5 : Int) ≤ 255)) (setAt (List.replicate n zeroP) 0 (fun _ => newP 8 5)) = (List.replicate n zeroP).set 0 (newP 8 5) from (if_pos ⟨hg0, hok⟩).trans hl1, show ownT (Good (List.replicate n zeroP) [] [] ∧ OkP (List.replicate n zeroP) 0 [0, 3] ∧ ((0 : Int) ≤ 5 ∧ (5 : Int) ≤ 255)) ([] ++ [(0 : Int)]) = [0] from if_pos ⟨hg0, hok⟩, show ownT (Good (List.replicate n zeroP) [] [] ∧ OkP (List.replicate n zeroP) 0 [0, 3] ∧ ((0 : Int) ≤ 5 ∧ (5 : Int) ≤ 255)) ([] : List Tm) = [] from if_pos ⟨hg0, hok⟩] at htab
  have HG1 : Hid (Good ((List.replicate n zeroP).set 0 (newP 8 5)) [0] []) := good_start (k := 0) hg0 h0 (.inl rfl) 8 hok.2
  have HP0 : Hid (((List.replicate n zeroP).set 0 (newP 8 5))[0]? = some (newP 8 5)) := List.getElem?_set_self (by rw [List.length_replicate]; omega)
  have M3 := hide (mine_put3 M1.out x3 (B := W2.heap.size) M1.out.lt (Nat.le_trans M1.out.hb (Nat.le_of_lt M1.out.lt)) htab)
  have MB := M1.out.bl.below M1.out.lt x3
  have g0 := MB.cell 0 _ rfl
  have g1 := MB.cell 1 _ rfl
  have g2 := MB.cell 2 _ rfl
  have f0 := MB.free 0
  have f1 := MB.free 1
  have f2 := MB.free 2
  have B3 := hide (below3 (g := tb) (.slice a1 n1 c1) (.slice a2 n2 c2) (.slice a3 n3 c3) (chain B2.out x3) M1.out.hb)
  clear hv htab x3 hg0 h0 hok hl1 MB u0 u1 u2 Q2 M1 B2
  go_upto_region 3 with fail
  clear g0 g1 g2 f0 f1 f2
  generalize (((w3.setCell ⟨tb, 0, none⟩ (.slice a1 n1 c1)).setCell ⟨tb, 1, none⟩ (.slice a2 n2 c2)).setCell ⟨tb, 2, none⟩ (.slice a3 n3 c3)) = W3 at *
  generalize hL1 : (List.replicate n zeroP).set 0 (newP 8 5) = l1 at *
  have Q3 := hide (tab_listsM M3.out.tab)
  obtain rfl : n2 = 1 := Q3.out.2.1.size.symm
  have X4 := hide (new_below W3 (.cells #[.int .i64 0] 3))
  have SI : Hid (Is (W3.alloc (.cells #[.int .i64 0] 3)) (some ⟨W3.heap.size, 0, none⟩) 1 1 [0]) := by
    refine ⟨rfl, ⟨rfl, by decide, fun e => by simp at e, fun j v hv => ⟨_, _, rfl, ?_⟩⟩⟩
    rw [World.cell?_alloc_at _ _ _ _ rfl]
    simpa [ci] using hv
  have u1 := M3.out.bl.cell 1 _ rfl
  go_wp2_with fail
  refine Calls.mono (sameInts_same _ a2 1 c2 [0] (Q3.out.2.1.below X4.out) _ 1 SI.out (by decide)) ?_
  rintro e w4 ⟨rfl, x4⟩
  have X5 := hide (chain X4.out x4)
  have M4 := hide (M3.out.below X5.out)
  have B4 := hide (chain B3.out X5.out)
  clear x4 X4 SI u1
  obtain ⟨b, off, rfl, hr⟩ := (Q3.out.1.below X5.out).at pro21 (by decide) HP0.out
  have hn0 : (0 : Int) < (n1 : Int) := by
    have h1 := (List.getElem?_eq_some_iff.1 HP0.out).1
    have h2 := Q3.out.1.size
    omega
  have p16 := hr 16 _ rfl
  have p17 := hr 17 _ rfl
  have p18 := hr 18 _ rfl
  simp only [Nat.zero_mul, Nat.add_zero, newP] at p16 p17 p18
  have u0 := M4.out.bl.cell 0 _ rfl
  clear hr Q3 X5
  go_wp2
  clear p16 p17 p18 u0 hn0
  go_loopw [55] (fun i wr => ∃ (k : Nat) (a1 : Option Addr) (n1 c1 : Nat) (a2 : Option Addr) (n2 c2 : Nat) (a3 : Option Addr) (n3 c3 : Nat) (l : List Pro) (r : List Int) (t : List Tm), k ≤ mn ∧ i = .int .i64 (k : Int) ∧ Hid (Mine wr w.heap.size tb (.slice a1 n1 c1) (.slice a2 n2 c2) (.slice a3 n3 c3) l r t) ∧ Hid (Good l r t) ∧ Hid (Below w.heap.size w wr)) (fun i _ => mn - (intOf i).toNat)
  case atStart => exact ⟨0, _, _, _, _, _, _, _, _, _, _, _, _, by omega, rfl, M4.out, HG1.out, B4.out⟩
  case round =>
    clear M4 M3 B3 B4 HG1 HP0 hL1 l1
    obtain ⟨k, a1, n1, c1, a2, n2, c2, a3, n3, c3, l, r, t, hk, rfl, hM, hG, hb⟩ := hrel
    by_cases hlt : k < mn
    · obtain ⟨m, hmk⟩ : ∃ m, ms[k]? = some m := ⟨_, List.getElem?_eq_getElem (by rw [HL.out]; exact hlt)⟩
      obtain ⟨b, off, rfl, hr⟩ := (HS.out.below hb.out).at mv7 (by decide) hmk
      have r0 := hr 0 _ rfl
      have r1 := hr 1 _ rfl
      have r2 := hr 2 _ rfl
      have r3 := hr 3 _ rfl
      have r4 := hr 4 _ rfl
      have r5 := hr 5 _ rfl
      have r6 := hr 6 _ rfl
      simp only [Nat.add_zero] at r0
      have hk1 : (k : Int) < (mn : Int) := by omega
      have X1 := hide (new_below wr (.cells #[.int .i64 m.kd, .int .i64 m.p, .int .i64 m.wt, .int .i64 m.ob, .int .i64 m.du, .int .i64 m.st, .int .i64 m.pr] 39))
      have NB : Hid (Bl (wr.alloc (.cells #[.int .i64 m.kd, .int .i64 m.p, .int .i64 m.wt, .int .i64 m.ob, .int .i64 m.du, .int .i64 m.st, .int .i64 m.pr] 39)) wr.heap.size [.int .i64 m.kd, .int .i64 m.p, .int .i64 m.wt, .int .i64 m.ob, .int .i64 m.du, .int .i64 m.st, .int .i64 m.pr]) := bl_alloc wr #[.int .i64 m.kd, .int .i64 m.p, .int .i64 m.wt, .int .i64 m.ob, .int .i64 m.du, .int .i64 m.st, .int .i64 m.pr] 39
      have M1 := hide (hM.out.below X1.out)
      have B1 := hide (chain hb.out X1.out)
      have HZ1 : Hid (tb < wr.heap.size) := hM.out.lt
      clear hr hmk
      go_upto_region 8 with fail
      clear r0 r1 r2 r3 r4 r5 r6 X1
      generalize wr.alloc (.cells #[.int .i64 m.kd, .int .i64 m.p, .int .i64 m.wt, .int .i64 m.ob, .int .i64 m.du, .int .i64 m.st, .int .i64 m.pr] 39) = W1 at *
      generalize wr.heap.size = mb at *
      have Q1 := hide (tab_listsM M1.out.tab)
      have u0 := M1.out.bl.cell 0 _ rfl
      have u1 := M1.out.bl.cell 1 _ rfl
      have u2 := M1.out.bl.cell 2 _ rfl
      have s0 := NB.out.cell 0 _ rfl
      have s1 := NB.out.cell 1 _ rfl
      have s2 := NB.out.cell 2 _ rfl
      have s3 := NB.out.cell 3 _ rfl
      have s4 := NB.out.cell 4 _ rfl
      have s5 := NB.out.cell 5 _ rfl
      have s6 := NB.out.cell 6 _ rfl
      go_wp2_with fail
      refine Calls.mono (moved_any (HE.out.below B1.out) _ _ _ l Q1.out.1 _ _ _ r Q1.out.2.1 _ _ _ t Q1.out.2.2 hG.out m.kd m.p m.wt m.ob m.du m.st m.pr) ?_
      rintro e w3 ⟨b1, m1, d1, b2, m2, d2, b3, m3, d3, v, rfl, hmv, x3⟩
      have X4 := new_below w3 (.cells #[.slice b1 m1 d1, .slice b2 m2 d2, .slice b3 m3 d3] 28)
      have x4 := chain x3 X4
      have NB4 : Hid (Bl (w3.alloc (.cells #[.slice b1 m1 d1, .slice b2 m2 d2, .slice b3 m3 d3] 28)) w3.heap.size [.slice b1 m1 d1, .slice b2 m2 d2, .slice b3 m3 d3]) := bl_alloc w3 #[.slice b1 m1 d1, .slice b2 m2 d2, .slice b3 m3 d3] 28
      have M4 := hide (M1.out.below x4)
      have HMV := hide (hmv.below X4)
      have B4 := hide (chain B1.out x4)
      have X5 := hide x4
      clear hmv x3 X4 x4 u0 u1 u2 s0 s1 s2 s3 s4 s5 s6 Q1 NB
      go_upto_region 9 with fail
      generalize w3.alloc (.cells #[.slice b1 m1 d1, .slice b2 m2 d2, .slice b3 m3 d3] 28) = W4 at *
      generalize w3.heap.size = nb at *
      rcases HMV.out with ⟨i, hi⟩ | ⟨hi, l', r', t', hg', htb⟩
      · subst hi
        have HGX := hide hG.out
        clear HMV
        unfold sent
        have HQ := hide (tab_listsM M4.out.tab)
        have HS8 : Hid (n1 ≤ 8 ∧ n2 ≤ 8 ∧ n3 ≤ 8) := by
          have g1 := HGX.out.1
          have g2 := goodR_few HGX.out.2.2.1 HGX.out.1
          have g3 := HGX.out.tfew
          have s1 := HQ.out.1.size
          have s2 := HQ.out.2.1.size
          have s3 := HQ.out.2.2.size
          exact ⟨by omega, by omega, by omega⟩
        have u0 := M4.out.bl.cell 0 _ rfl
        have u1 := M4.out.bl.cell 1 _ rfl
        have u2 := M4.out.bl.cell 2 _ rfl
        go_wp2_with fail
        refine Calls.mono (rgood_any (HE.out.below B4.out).er3 _ _ _ _ HQ.out.1 _ _ _ _ HQ.out.2.1 _ _ _ _ HQ.out.2.2 (by have := HS8.out; omega) (by have := HS8.out; omega) (by have := HS8.out; omega)) ?_
        rintro e w6 ⟨rfl, x6⟩
        rw [decide_eq_true HGX.out]
        have M6 := hide (M4.out.below x6)
        have Q6 : Hid (Pros w6 a1 n1 c1 l ∧ Is w6 a2 n2 c2 r ∧ Tms w6 a3 n3 c3 t) := ⟨HQ.out.1.below x6, HQ.out.2.1.below x6, HQ.out.2.2.below x6⟩
        have B6 := hide (chain B4.out x6)
        clear x6 u0 u1 u2
        have u0 := M6.out.bl.cell 0 _ rfl
        have u1 := M6.out.bl.cell 1 _ rfl
        have u2 := M6.out.bl.cell 2 _ rfl
        go_wp2_with fail
        refine Calls.mono (keeps_any (HE.out.below B6.out) _ _ _ _ Q6.out.1 _ _ _ _ Q6.out.2.1 _ _ _ _ Q6.out.2.2 HGX.out) ?_
        rintro e w7 ⟨rfl, x7⟩
        have M7 := hide (M6.out.below x7)
        have B7 := hide (chain B6.out x7)
        clear x7 u0 u1 u2
        go_wp2
        go_roundw
        case rel => exact ⟨k + 1, _, _, _, _, _, _, _, _, _, _, _, _, by omega, by go_num, M7.out, HGX.out, B7.out⟩
        case measure => simp [intOf]; omega
      · subst hi
        have HGX := hide hg'
        have hbW : w.heap.size ≤ W1.heap.size := Nat.le_trans M1.out.hb (Nat.le_of_lt M1.out.lt)
        have M5 := hide (mine_put3 (w := W4) (w' := W4) M4.out (Below.refl _ _) M1.out.lt hbW htb)
        have B5 := hide (below3 (g := tb) (.slice b1 m1 d1) (.slice b2 m2 d2) (.slice b3 m3 d3) B4.out M4.out.hb)
        have n0 := NB4.out.cell 0 _ rfl
        have n1' := NB4.out.cell 1 _ rfl
        have n2' := NB4.out.cell 2 _ rfl
        have g0 := M4.out.bl.cell 0 _ rfl
        have g1 := M4.out.bl.cell 1 _ rfl
        have g2 := M4.out.bl.cell 2 _ rfl
        have f0 := M4.out.bl.free 0
        have f1 := M4.out.bl.free 1
        have f2 := M4.out.bl.free 2
        clear HMV htb hg'
        go_upto_region 11 with fail
        clear n0 n1' n2' g0 g1 g2 f0 f1 f2
        generalize (((W4.setCell ⟨tb, 0, none⟩ (.slice b1 m1 d1)).setCell ⟨tb, 1, none⟩ (.slice b2 m2 d2)).setCell ⟨tb, 2, none⟩ (.slice b3 m3 d3)) = W5 at *
        have HQ := hide (tab_listsM M5.out.tab)
        have HS8 : Hid (m1 ≤ 8 ∧ m2 ≤ 8 ∧ m3 ≤ 8) := by
          have g1 := HGX.out.1
          have g2 := goodR_few HGX.out.2.2.1 HGX.out.1
          have g3 := HGX.out.tfew
          have s1 := HQ.out.1.size
          have s2 := HQ.out.2.1.size
          have s3 := HQ.out.2.2.size
          exact ⟨by omega, by omega, by omega⟩
        have u0 := M5.out.bl.cell 0 _ rfl
        have u1 := M5.out.bl.cell 1 _ rfl
        have u2 := M5.out.bl.cell 2 _ rfl
        go_wp2_with fail
        refine Calls.mono (rgood_any (HE.out.below B5.out).er3 _ _ _ _ HQ.out.1 _ _ _ _ HQ.out.2.1 _ _ _ _ HQ.out.2.2 (by have := HS8.out; omega) (by have := HS8.out; omega) (by have := HS8.out; omega)) ?_
        rintro e w6 ⟨rfl, x6⟩
        rw [decide_eq_true HGX.out]
        have M6 := hide (M5.out.below x6)
        have Q6 : Hid (Pros w6 b1 m1 d1 l' ∧ Is w6 b2 m2 d2 r' ∧ Tms w6 b3 m3 d3 t') := ⟨HQ.out.1.below x6, HQ.out.2.1.below x6, HQ.out.2.2.below x6⟩
        have B6 := hide (chain B5.out x6)
        clear x6 u0 u1 u2
        have u0 := M6.out.bl.cell 0 _ rfl
        have u1 := M6.out.bl.cell 1 _ rfl
        have u2 := M6.out.bl.cell 2 _ rfl
        go_wp2_with fail
        refine Calls.mono (keeps_any (HE.out.below B6.out) _ _ _ _ Q6.out.1 _ _ _ _ Q6.out.2.1 _ _ _ _ Q6.out.2.2 HGX.out) ?_
        rintro e w7 ⟨rfl, x7⟩
        have M7 := hide (M6.out.below x7)
        have B7 := hide (chain B6.out x7)
        clear x7 u0 u1 u2
        go_wp2
        go_roundw
        case rel => exact ⟨k + 1, _, _, _, _, _, _, _, _, _, _, _, _, by omega, by go_num, M7.out, HGX.out, B7.out⟩
        case measure => simp [intOf]; omega
    · obtain rfl : mn = k := by omega
      go_wp2
      go_ret
      exact ⟨rfl, hb.out⟩
end Go.Proofs.YtnjabidelpafgaaDoor.ferryTablesKeep
