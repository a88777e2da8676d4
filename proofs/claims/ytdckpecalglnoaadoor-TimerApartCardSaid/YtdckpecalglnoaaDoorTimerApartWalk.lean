/-
  Walk of the law TimerApart.
-/
import Derived.Test.YtdckpecalglnoaaDoorTaEnd
import Derived.Test.YtdckpecalglnoaaDoorOp3Open
import Derived.Deep.Cut
namespace Go.Proofs.YtdckpecalglnoaaDoor.timerApart
open Classical
open Go.RowKit
set_option linter.unusedVariables false
set_option linter.unusedSimpArgs false

set_option maxRecDepth 100000 in
set_option maxHeartbeats 4000000 in
theorem law (a : Option Addr) (len cap : Nat) (l : List Tm) (kd pr n : Int) (w : World) {E : Nat → Addr} (he : Errs w E) (hs : Tms w a len cap l) (ok : ∀ t ∈ l, t.Ok) (hm : len ≤ 8796093021952) :
    Calls Tryd.prog 7 #[.slice a len cap, .agg #[.int .i64 kd, .int .i64 pr, .int .i64 n]] w fun e w' => e = .returned (.bool true) ∧ Below w.heap.size w w' := by
  have N0 := new_below w (.cells #[.int .i64 kd, .int .i64 pr, .int .i64 n] 29)
  have HL := hs.size
  have HS := hide (hs.below N0)
  have HE0 := hide he
  have X0 := hide N0
  have g1 : (w.alloc (.cells #[.int .i64 kd, .int .i64 pr, .int .i64 n] 29)).cell? ⟨w.heap.size, 1, none⟩ = some (.int .i64 pr) := by rw [World.cell?_alloc_at _ _ _ _ rfl]; rfl
  have g2 : (w.alloc (.cells #[.int .i64 kd, .int .i64 pr, .int .i64 n] 29)).cell? ⟨w.heap.size, 2, none⟩ = some (.int .i64 n) := by rw [World.cell?_alloc_at _ _ _ _ rfl]; rfl
  have GG := hide (And.intro g1 g2)
  clear hs he ok N0 g1 g2
  go_enter Tryd.func7, Tryd.ntmps7
  go_wp2_with fail
  generalize w.alloc (.cells #[.int .i64 kd, .int .i64 pr, .int .i64 n] 29) = W0 at *
  refine Calls.mono (known_any (HE0.out.below X0.out).er3) ?_
  rintro e w1 ⟨rfl, b1⟩
  have HS := hide (HS.out.below b1)
  have X1 := hide (chain X0.out b1)
  have GG := hide (And.intro (cell_below GG.out.1 b1) (cell_below GG.out.2 b1))
  clear b1 X0
  have HP1 : Hid (w.heap.size < w1.heap.size) := block_lt_of_cell GG.out.1
  have h9 : wrap64 ((len : Int) + 9) = (len : Int) + 9 := by
    rw [← IntWalk.i64_left, IntKind.wrap_i64]
    omega
  go_wp2_with (refine make_tms rfl (.tmp 39) (.tmp 39) rfl ((len : Int) + 9) ((len : Int) + 9) (len + 9) rfl rfl (by omega) (by omega) (by omega) ?_; intro w2 hO2 hb2; have HO2 := hide hO2; have HB2 := hide hb2; clear hO2 hb2)
  obtain ⟨w3, hrun, ho3, hb3⟩ := copy_tms HO2.out (HS.out.below HB2.out) 3
  have O := hide ho3
  have b := HB2.out.trans hb3
  have X := hide (chain X1.out b)
  have GG := hide (And.intro (cell_below GG.out.1 b) (cell_below GG.out.2 b))
  rw [hrun]
  clear hrun ho3 hb3 b HO2 HB2 HS X1
  simp only [Result.andThen_ok]
  obtain ⟨g, hg⟩ : ∃ g, w1.heap.size = g := ⟨_, rfl⟩
  obtain ⟨p, hp⟩ : ∃ p, w.heap.size = p := ⟨_, rfl⟩
  have HPW := hide hp
  have HGP : Hid (p < g) := by
    have h1 := HP1.out
    unfold Hid
    omega
  rw [hg] at O ⊢
  rw [hp] at GG ⊢
  clear hg hp
  go_wp2
  go_loopw [7] (fun i wr => ∃ (q : Nat) (M : List Tm), q ≤ 2 ∧ i = .int .i64 (q : Int) ∧ Hid (M.length = len) ∧ Hid (TOwn wr g (.slice (some ⟨g, 0, none⟩) (len + 9) (len + 9)) (M ++ z9)) ∧ Hid (wr.cell? ⟨p, 1, none⟩ = some (.int .i64 pr) ∧ wr.cell? ⟨p, 2, none⟩ = some (.int .i64 n)) ∧ Hid (Below w.heap.size w wr)) (fun i _ => 2 - (intOf i).toNat)
  case atStart => exact ⟨0, l, by omega, rfl, HL, O.out, GG.out, X.out⟩
  case round =>
    obtain ⟨q, M, hq, rfl, HM, O, GG, X⟩ := hrel
    by_cases hq2 : q < 2
    ·
      have hqq : (q : Int) < 2 := by omega
      go_wp2_with fail
      refine Calls.mono (copied_any wr _ len (len + 9) M (front_tms O.out HM.out) (by omega)) ?_
      rintro e w4 ⟨x4, rfl, h4, b⟩
      obtain ⟨a4, c4, rfl, t4⟩ := town_tms h4
      have T4 := hide t4
      have O := hide (show TOwn _ _ _ _ from ownsRow_below O.out b)
      have X := hide (chain X.out b)
      have GG := hide (And.intro (cell_below GG.out.1 b) (cell_below GG.out.2 b))
      have HGB : Hid (g < w4.heap.size) := (World.ownsRow.lt O.out g rfl).2
      have FB := hide (Five.nil w4 w4.heap.size)
      have HBB : Hid (w4.heap.size ≤ w4.heap.size) := Nat.le_refl _
      have hMl : M.length ≤ 8796093021952 := by have := HM.out; omega
      have HT4 : Hid (∀ ad, a4 = some ad → ad.block < w4.heap.size) := fun ad e => by
        subst e
        exact (World.ownsRow.lt h4 ad.block rfl).2
      have HPL : Hid (p < w4.heap.size ∧ w.heap.size ≤ w4.heap.size) := ⟨block_lt_of_cell GG.out.1, X.out.size⟩
      clear h4 t4 b
      have g1 := GG.out.1
      have g2 := GG.out.2
      go_wp2_with fail
      clear g1 g2
      refine Calls.mono (rset_any w4 a4 _ c4 M T4.out pr n (by omega)) ?_
      rintro e w5 ⟨x5, q5, rfl, hq5, h5, b⟩
      subst hq5
      obtain ⟨a5, c5, rfl, t5⟩ := town_tms h5
      have T5 := hide t5
      have O := hide (show TOwn _ _ _ _ from ownsRow_below O.out b)
      have X := hide (chain X.out b)
      have GG := hide (And.intro (cell_below GG.out.1 b) (cell_below GG.out.2 b))
      have T4 := hide (T4.out.below b)
      have FB := hide (FB.out.below b)
      have HBB := hide (Nat.le_trans HBB.out b.size)
      clear b h5 t5
      have g1 := GG.out.1
      have g2 := GG.out.2
      go_wp2_with fail
      clear g1 g2
      refine Calls.mono (rdrop_any w5 a4 _ c4 M T4.out pr (by omega)) ?_
      rintro e w6 ⟨x6, d6, q6, rfl, hd6, hq6, h6, b⟩
      subst hq6 hd6
      obtain ⟨a6, c6, rfl, t6⟩ := town_tms h6
      have T6 := hide t6
      have O := hide (show TOwn _ _ _ _ from ownsRow_below O.out b)
      have X := hide (chain X.out b)
      have GG := hide (And.intro (cell_below GG.out.1 b) (cell_below GG.out.2 b))
      have T4 := hide (T4.out.below b)
      have T5 := hide (T5.out.below b)
      have FB := hide (FB.out.below b)
      have HBB := hide (Nat.le_trans HBB.out b.size)
      clear b h6 t6
      have g1 := GG.out.1
      have g2 := GG.out.2
      go_wp2_with fail
      clear g1 g2
      refine Calls.mono (rfire_any w6 a4 _ c4 M T4.out n (by omega)) ?_
      rintro e w7 ⟨y7, x7, q7, rfl, hq7, hi7, h7, b⟩
      subst hq7
      obtain ⟨ai7, ci7, rfl, ti7⟩ := iown_is hi7
      have I7 := hide ti7
      clear hi7 ti7
      obtain ⟨a7, c7, rfl, t7⟩ := town_tms h7
      have T7 := hide t7
      have O := hide (show TOwn _ _ _ _ from ownsRow_below O.out b)
      have X := hide (chain X.out b)
      have GG := hide (And.intro (cell_below GG.out.1 b) (cell_below GG.out.2 b))
      have T4 := hide (T4.out.below b)
      have T5 := hide (T5.out.below b)
      have T6 := hide (T6.out.below b)
      have FB := hide (FB.out.below b)
      have HBB := hide (Nat.le_trans HBB.out b.size)
      clear b h7 t7
      have g1 := GG.out.1
      have g2 := GG.out.2
      go_wp2_with fail
      clear g1 g2
      refine Calls.mono (rshift_any w7 a4 _ c4 M T4.out n (by omega)) ?_
      rintro e w8 ⟨x8, q8, rfl, hq8, h8, b⟩
      subst hq8
      obtain ⟨a8, c8, rfl, t8⟩ := town_tms h8
      have T8 := hide t8
      have O := hide (show TOwn _ _ _ _ from ownsRow_below O.out b)
      have X := hide (chain X.out b)
      have GG := hide (And.intro (cell_below GG.out.1 b) (cell_below GG.out.2 b))
      have T4 := hide (T4.out.below b)
      have T5 := hide (T5.out.below b)
      have T6 := hide (T6.out.below b)
      have T7 := hide (T7.out.below b)
      have I7 := hide (I7.out.below b)
      have FB := hide (FB.out.below b)
      have HBB := hide (Nat.le_trans HBB.out b.size)
      clear b h8 t8
      have g1 := GG.out.1
      have g2 := GG.out.2
      go_wp2_with fail
      clear g1 g2
      refine Calls.mono (rsort_any w8 a4 _ c4 M T4.out  (by omega)) ?_
      rintro e w9 ⟨x9, q9, rfl, hq9, h9, b⟩
      subst hq9
      obtain ⟨a9, c9, rfl, t9⟩ := town_tms h9
      have T9 := hide t9
      have O := hide (show TOwn _ _ _ _ from ownsRow_below O.out b)
      have X := hide (chain X.out b)
      have GG := hide (And.intro (cell_below GG.out.1 b) (cell_below GG.out.2 b))
      have T4 := hide (T4.out.below b)
      have T5 := hide (T5.out.below b)
      have T6 := hide (T6.out.below b)
      have T7 := hide (T7.out.below b)
      have T8 := hide (T8.out.below b)
      have I7 := hide (I7.out.below b)
      have FB := hide (FB.out.below b)
      have HBB := hide (Nat.le_trans HBB.out b.size)
      clear b h9 t9
      have g1 := GG.out.1
      have g2 := GG.out.2
      go_wp2_with fail
      clear g1 g2
      refine Calls.mono (tset_any (HE0.out.below X.out).er3 (some ⟨g, 0, none⟩) len (len + 9) M (front_tms O.out HM.out) pr n (by omega)) ?_
      rintro e w10 ⟨x10, v10, rfl, hv10, h10, b⟩
      have V10 := hide hv10
      obtain ⟨a10, c10, rfl, f10⟩ := FB.out.snoc rfl b HBB.out h10
      have FB := hide f10
      have O := hide (show TOwn _ _ _ _ from ownsRow_below O.out b)
      have X := hide (chain X.out b)
      have GG := hide (And.intro (cell_below GG.out.1 b) (cell_below GG.out.2 b))
      have T4 := hide (T4.out.below b)
      have T5 := hide (T5.out.below b)
      have T6 := hide (T6.out.below b)
      have T7 := hide (T7.out.below b)
      have T8 := hide (T8.out.below b)
      have T9 := hide (T9.out.below b)
      have I7 := hide (I7.out.below b)
      have HBB := hide (Nat.le_trans HBB.out b.size)
      clear b h10 f10 hv10
      have g1 := GG.out.1
      have g2 := GG.out.2
      go_wp2_with fail
      clear g1 g2
      refine Calls.mono (tdrop_any (HE0.out.below X.out).er3 (some ⟨g, 0, none⟩) len (len + 9) M (front_tms O.out HM.out) pr (by omega)) ?_
      rintro e w11 ⟨x11, d11, v11, rfl, hd11, hv11, h11, b⟩
      subst hd11
      have V11 := hide hv11
      obtain ⟨a11, c11, rfl, f11⟩ := FB.out.snoc rfl b HBB.out h11
      have FB := hide f11
      have O := hide (show TOwn _ _ _ _ from ownsRow_below O.out b)
      have X := hide (chain X.out b)
      have GG := hide (And.intro (cell_below GG.out.1 b) (cell_below GG.out.2 b))
      have T4 := hide (T4.out.below b)
      have T5 := hide (T5.out.below b)
      have T6 := hide (T6.out.below b)
      have T7 := hide (T7.out.below b)
      have T8 := hide (T8.out.below b)
      have T9 := hide (T9.out.below b)
      have I7 := hide (I7.out.below b)
      have HBB := hide (Nat.le_trans HBB.out b.size)
      clear b h11 f11 hv11
      have g1 := GG.out.1
      have g2 := GG.out.2
      go_wp2_with fail
      clear g1 g2
      refine Calls.mono (tfire_any (HE0.out.below X.out).er3 (some ⟨g, 0, none⟩) len (len + 9) M (front_tms O.out HM.out) n (by omega)) ?_
      rintro e w12 ⟨y12, x12, v12, rfl, hv12, hi12, h12, b⟩
      obtain ⟨ai12, ci12, rfl, ti12⟩ := iown_is hi12
      have I12 := hide ti12
      clear hi12 ti12
      have V12 := hide hv12
      obtain ⟨a12, c12, rfl, f12⟩ := FB.out.snoc rfl b HBB.out h12
      have FB := hide f12
      have O := hide (show TOwn _ _ _ _ from ownsRow_below O.out b)
      have X := hide (chain X.out b)
      have GG := hide (And.intro (cell_below GG.out.1 b) (cell_below GG.out.2 b))
      have T4 := hide (T4.out.below b)
      have T5 := hide (T5.out.below b)
      have T6 := hide (T6.out.below b)
      have T7 := hide (T7.out.below b)
      have T8 := hide (T8.out.below b)
      have T9 := hide (T9.out.below b)
      have I7 := hide (I7.out.below b)
      have HBB := hide (Nat.le_trans HBB.out b.size)
      clear b h12 f12 hv12
      have g1 := GG.out.1
      have g2 := GG.out.2
      go_wp2_with fail
      clear g1 g2
      refine Calls.mono (tshift_any (HE0.out.below X.out).er3 (some ⟨g, 0, none⟩) len (len + 9) M (front_tms O.out HM.out) n (by omega)) ?_
      rintro e w13 ⟨x13, v13, rfl, hv13, h13, b⟩
      have V13 := hide hv13
      obtain ⟨a13, c13, rfl, f13⟩ := FB.out.snoc rfl b HBB.out h13
      have FB := hide f13
      have O := hide (show TOwn _ _ _ _ from ownsRow_below O.out b)
      have X := hide (chain X.out b)
      have GG := hide (And.intro (cell_below GG.out.1 b) (cell_below GG.out.2 b))
      have T4 := hide (T4.out.below b)
      have T5 := hide (T5.out.below b)
      have T6 := hide (T6.out.below b)
      have T7 := hide (T7.out.below b)
      have T8 := hide (T8.out.below b)
      have T9 := hide (T9.out.below b)
      have I7 := hide (I7.out.below b)
      have I12 := hide (I12.out.below b)
      have HBB := hide (Nat.le_trans HBB.out b.size)
      clear b h13 f13 hv13
      have g1 := GG.out.1
      have g2 := GG.out.2
      go_wp2_with fail
      clear g1 g2
      refine Calls.mono (tsort_any (HE0.out.below X.out).er3 (some ⟨g, 0, none⟩) len (len + 9) M (front_tms O.out HM.out)  (by omega)) ?_
      rintro e w14 ⟨x14, v14, rfl, hv14, h14, b⟩
      have V14 := hide hv14
      obtain ⟨a14, c14, rfl, f14⟩ := FB.out.snoc rfl b HBB.out h14
      have FB := hide f14
      have O := hide (show TOwn _ _ _ _ from ownsRow_below O.out b)
      have X := hide (chain X.out b)
      have GG := hide (And.intro (cell_below GG.out.1 b) (cell_below GG.out.2 b))
      have T4 := hide (T4.out.below b)
      have T5 := hide (T5.out.below b)
      have T6 := hide (T6.out.below b)
      have T7 := hide (T7.out.below b)
      have T8 := hide (T8.out.below b)
      have T9 := hide (T9.out.below b)
      have I7 := hide (I7.out.below b)
      have I12 := hide (I12.out.below b)
      have HBB := hide (Nat.le_trans HBB.out b.size)
      clear b h14 f14 hv14
      go_wp2_with fail
      refine Calls.mono (lcode_any (HE0.out.below X.out) v10 _ V10.out) ?_
      rintro e w15 ⟨rfl, b⟩
      have O := hide (show TOwn _ _ _ _ from ownsRow_below O.out b)
      have X := hide (chain X.out b)
      have GG := hide (And.intro (cell_below GG.out.1 b) (cell_below GG.out.2 b))
      have T4 := hide (T4.out.below b)
      have T5 := hide (T5.out.below b)
      have T6 := hide (T6.out.below b)
      have T7 := hide (T7.out.below b)
      have T8 := hide (T8.out.below b)
      have T9 := hide (T9.out.below b)
      have I7 := hide (I7.out.below b)
      have I12 := hide (I12.out.below b)
      have FB := hide (FB.out.below b)
      have HBB := hide (Nat.le_trans HBB.out b.size)
      clear b V10
      go_wp2_with fail
      refine Calls.mono (lcode_any (HE0.out.below X.out) v11 _ V11.out) ?_
      rintro e w16 ⟨rfl, b⟩
      have O := hide (show TOwn _ _ _ _ from ownsRow_below O.out b)
      have X := hide (chain X.out b)
      have GG := hide (And.intro (cell_below GG.out.1 b) (cell_below GG.out.2 b))
      have T4 := hide (T4.out.below b)
      have T5 := hide (T5.out.below b)
      have T6 := hide (T6.out.below b)
      have T7 := hide (T7.out.below b)
      have T8 := hide (T8.out.below b)
      have T9 := hide (T9.out.below b)
      have I7 := hide (I7.out.below b)
      have I12 := hide (I12.out.below b)
      have FB := hide (FB.out.below b)
      have HBB := hide (Nat.le_trans HBB.out b.size)
      clear b V11
      go_wp2_with fail
      refine Calls.mono (lcode_any (HE0.out.below X.out) v12 _ V12.out) ?_
      rintro e w17 ⟨rfl, b⟩
      have O := hide (show TOwn _ _ _ _ from ownsRow_below O.out b)
      have X := hide (chain X.out b)
      have GG := hide (And.intro (cell_below GG.out.1 b) (cell_below GG.out.2 b))
      have T4 := hide (T4.out.below b)
      have T5 := hide (T5.out.below b)
      have T6 := hide (T6.out.below b)
      have T7 := hide (T7.out.below b)
      have T8 := hide (T8.out.below b)
      have T9 := hide (T9.out.below b)
      have I7 := hide (I7.out.below b)
      have I12 := hide (I12.out.below b)
      have FB := hide (FB.out.below b)
      have HBB := hide (Nat.le_trans HBB.out b.size)
      clear b V12
      go_wp2_with fail
      refine Calls.mono (lcode_any (HE0.out.below X.out) v13 _ V13.out) ?_
      rintro e w18 ⟨rfl, b⟩
      have O := hide (show TOwn _ _ _ _ from ownsRow_below O.out b)
      have X := hide (chain X.out b)
      have GG := hide (And.intro (cell_below GG.out.1 b) (cell_below GG.out.2 b))
      have T4 := hide (T4.out.below b)
      have T5 := hide (T5.out.below b)
      have T6 := hide (T6.out.below b)
      have T7 := hide (T7.out.below b)
      have T8 := hide (T8.out.below b)
      have T9 := hide (T9.out.below b)
      have I7 := hide (I7.out.below b)
      have I12 := hide (I12.out.below b)
      have FB := hide (FB.out.below b)
      have HBB := hide (Nat.le_trans HBB.out b.size)
      clear b V13
      go_wp2_with fail
      refine Calls.mono (lcode_any (HE0.out.below X.out) v14 _ V14.out) ?_
      rintro e w19 ⟨rfl, b⟩
      have O := hide (show TOwn _ _ _ _ from ownsRow_below O.out b)
      have X := hide (chain X.out b)
      have GG := hide (And.intro (cell_below GG.out.1 b) (cell_below GG.out.2 b))
      have T4 := hide (T4.out.below b)
      have T5 := hide (T5.out.below b)
      have T6 := hide (T6.out.below b)
      have T7 := hide (T7.out.below b)
      have T8 := hide (T8.out.below b)
      have T9 := hide (T9.out.below b)
      have I7 := hide (I7.out.below b)
      have I12 := hide (I12.out.below b)
      have FB := hide (FB.out.below b)
      have HBB := hide (Nat.le_trans HBB.out b.size)
      clear b V14
      go_wp2_with fail
      refine Calls.mono (same_any _ a4 len _ (len + 9) c4 M M (front_tms O.out HM.out) T4.out (by omega) (by omega)) ?_
      rintro e w20 ⟨rfl, b⟩
      rw [decide_eq_true rfl]
      have O := hide (show TOwn _ _ _ _ from ownsRow_below O.out b)
      have X := hide (chain X.out b)
      have GG := hide (And.intro (cell_below GG.out.1 b) (cell_below GG.out.2 b))
      have T4 := hide (T4.out.below b)
      have T5 := hide (T5.out.below b)
      have T6 := hide (T6.out.below b)
      have T7 := hide (T7.out.below b)
      have T8 := hide (T8.out.below b)
      have T9 := hide (T9.out.below b)
      have I7 := hide (I7.out.below b)
      have I12 := hide (I12.out.below b)
      have FB := hide (FB.out.below b)
      have HBB := hide (Nat.le_trans HBB.out b.size)
      clear b
      go_wp2_with fail
      refine Calls.mono (same_any a10 a5 _ _ c10 c5 _ _ (FB.out.tms 0 rfl rfl) T5.out (by have := setL_len M pr n; omega) (by have := setL_len M pr n; omega)) ?_
      rintro e w21 ⟨rfl, b⟩
      rw [decide_eq_true rfl]
      have O := hide (show TOwn _ _ _ _ from ownsRow_below O.out b)
      have X := hide (chain X.out b)
      have GG := hide (And.intro (cell_below GG.out.1 b) (cell_below GG.out.2 b))
      have T4 := hide (T4.out.below b)
      have T6 := hide (T6.out.below b)
      have T7 := hide (T7.out.below b)
      have T8 := hide (T8.out.below b)
      have T9 := hide (T9.out.below b)
      have I7 := hide (I7.out.below b)
      have I12 := hide (I12.out.below b)
      have FB := hide (FB.out.below b)
      have HBB := hide (Nat.le_trans HBB.out b.size)
      clear b T5
      go_wp2_with fail
      refine Calls.mono (same_any a11 a6 _ _ c11 c6 _ _ (FB.out.tms 1 rfl rfl) T6.out (by have := dropL_len M pr; omega) (by have := dropL_len M pr; omega)) ?_
      rintro e w22 ⟨rfl, b⟩
      rw [decide_eq_true rfl]
      have O := hide (show TOwn _ _ _ _ from ownsRow_below O.out b)
      have X := hide (chain X.out b)
      have GG := hide (And.intro (cell_below GG.out.1 b) (cell_below GG.out.2 b))
      have T4 := hide (T4.out.below b)
      have T7 := hide (T7.out.below b)
      have T8 := hide (T8.out.below b)
      have T9 := hide (T9.out.below b)
      have I7 := hide (I7.out.below b)
      have I12 := hide (I12.out.below b)
      have FB := hide (FB.out.below b)
      have HBB := hide (Nat.le_trans HBB.out b.size)
      clear b T6
      go_wp2_with fail
      refine Calls.mono (same_any a12 a7 _ _ c12 c7 _ _ (FB.out.tms 2 rfl rfl) T7.out (by have := fireL_len M n; omega) (by have := fireL_len M n; omega)) ?_
      rintro e w23 ⟨rfl, b⟩
      rw [decide_eq_true rfl]
      have O := hide (show TOwn _ _ _ _ from ownsRow_below O.out b)
      have X := hide (chain X.out b)
      have GG := hide (And.intro (cell_below GG.out.1 b) (cell_below GG.out.2 b))
      have T4 := hide (T4.out.below b)
      have T8 := hide (T8.out.below b)
      have T9 := hide (T9.out.below b)
      have I7 := hide (I7.out.below b)
      have I12 := hide (I12.out.below b)
      have FB := hide (FB.out.below b)
      have HBB := hide (Nat.le_trans HBB.out b.size)
      clear b T7
      go_wp2_with fail
      refine Calls.mono (same_any a13 a8 _ _ c13 c8 _ _ (FB.out.tms 3 rfl rfl) T8.out (by have := shiftL_len M n; omega) (by have := shiftL_len M n; omega)) ?_
      rintro e w24 ⟨rfl, b⟩
      rw [decide_eq_true rfl]
      have O := hide (show TOwn _ _ _ _ from ownsRow_below O.out b)
      have X := hide (chain X.out b)
      have GG := hide (And.intro (cell_below GG.out.1 b) (cell_below GG.out.2 b))
      have T4 := hide (T4.out.below b)
      have T9 := hide (T9.out.below b)
      have I7 := hide (I7.out.below b)
      have I12 := hide (I12.out.below b)
      have FB := hide (FB.out.below b)
      have HBB := hide (Nat.le_trans HBB.out b.size)
      clear b T8
      go_wp2_with fail
      refine Calls.mono (same_any a14 a9 _ _ c14 c9 _ _ (FB.out.tms 4 rfl rfl) T9.out (by have := sortL_len M; omega) (by have := sortL_len M; omega)) ?_
      rintro e w25 ⟨rfl, b⟩
      rw [decide_eq_true rfl]
      have O := hide (show TOwn _ _ _ _ from ownsRow_below O.out b)
      have X := hide (chain X.out b)
      have GG := hide (And.intro (cell_below GG.out.1 b) (cell_below GG.out.2 b))
      have T4 := hide (T4.out.below b)
      have I7 := hide (I7.out.below b)
      have I12 := hide (I12.out.below b)
      have FB := hide (FB.out.below b)
      have HBB := hide (Nat.le_trans HBB.out b.size)
      clear b T9
      go_wp2_with fail
      refine Calls.mono (ints_eq ai12 ai7 _ ci12 ci7 _ I12.out I7.out (by have := fireP_len M n; omega)) ?_
      rintro e w26 ⟨rfl, b⟩
      have O := hide (show TOwn _ _ _ _ from ownsRow_below O.out b)
      have X := hide (chain X.out b)
      have GG := hide (And.intro (cell_below GG.out.1 b) (cell_below GG.out.2 b))
      have T4 := hide (T4.out.below b)
      have FB := hide (FB.out.below b)
      have HBB := hide (Nat.le_trans HBB.out b.size)
      clear b I7 I12
      go_wp2_with fail
      have F5 : Five w26 w4.heap.size [⟨a10, (setL M pr n).length, c10⟩, ⟨a11, (dropL M pr).length, c11⟩, ⟨a12, (fireL M n).length, c12⟩, ⟨a13, (shiftL M n).length, c13⟩, ⟨a14, (sortL M).length, c14⟩] [setL M pr n, dropL M pr, fireL M n, shiftL M n, sortL M] := FB.out
      have bA : Below w26.heap.size w26 (w26.alloc (.cells #[.slice a10 (setL M pr n).length c10, .slice a11 (dropL M pr).length c11, .slice a12 (fireL M n).length c12, .slice a13 (shiftL M n).length c13, .slice a14 (sortL M).length c14] 22)) := (Below.refl _ _).alloc (Nat.le_refl _) _
      have hLL : Rcs Sl.cell 1 (w26.alloc (.cells #[.slice a10 (setL M pr n).length c10, .slice a11 (dropL M pr).length c11, .slice a12 (fireL M n).length c12, .slice a13 (shiftL M n).length c13, .slice a14 (sortL M).length c14] 22)) (some ⟨w26.heap.size, 0, none⟩) 5 5 [⟨a10, (setL M pr n).length, c10⟩, ⟨a11, (dropL M pr).length, c11⟩, ⟨a12, (fireL M n).length, c12⟩, ⟨a13, (shiftL M n).length, c13⟩, ⟨a14, (sortL M).length, c14⟩] := five_row w26 ⟨a10, (setL M pr n).length, c10⟩ ⟨a11, (dropL M pr).length, c11⟩ ⟨a12, (fireL M n).length, c12⟩ ⟨a13, (shiftL M n).length, c13⟩ ⟨a14, (sortL M).length, c14⟩ 22
      have hnn : ∀ s ∈ ([⟨a10, (setL M pr n).length, c10⟩, ⟨a11, (dropL M pr).length, c11⟩, ⟨a12, (fireL M n).length, c12⟩, ⟨a13, (shiftL M n).length, c13⟩, ⟨a14, (sortL M).length, c14⟩] : List Sl), s.n ≤ 9 := fun s hs => by
        simp only [List.mem_cons, List.not_mem_nil, or_false] at hs
        rcases hs with rfl | rfl | rfl | rfl | rfl
        · exact setL_len M pr n
        · exact Nat.le_trans (dropL_len M pr) (by decide)
        · exact Nat.le_trans (fireL_len M n) (by decide)
        · exact Nat.le_trans (shiftL_len M n) (by decide)
        · exact Nat.le_trans (sortL_len M) (by decide)
      refine Calls.mono (apart_any w4.heap.size w26.heap.size 5 5 [⟨a10, (setL M pr n).length, c10⟩, ⟨a11, (dropL M pr).length, c11⟩, ⟨a12, (fireL M n).length, c12⟩, ⟨a13, (shiftL M n).length, c13⟩, ⟨a14, (sortL M).length, c14⟩] _ hLL (by decide) (F5.below bA).lists F5.apt hnn (fun s hs e => by have := F5.lt hs e; omega) (Nat.le_trans HBB.out bA.size) (alloc_lt _ _)) ?_
      rintro e w27 ⟨rfl, b⟩
      have O := hide (own_low (show TOwn _ _ _ _ from ownsRow_below O.out bA) b HGB.out)
      have X := hide ((chain X.out bA).trans (b.mono HPL.out.2))
      have GG := hide (And.intro (cell_low (cell_below GG.out.1 bA) b HPL.out.1) (cell_low (cell_below GG.out.2 bA) b HPL.out.1))
      have T4 := hide (tms_low (T4.out.below bA) b HT4.out)
      clear b bA hLL hnn F5 FB HBB
      go_wp2_with fail
      refine Calls.mono (same_any _ a4 len _ (len + 9) c4 M M (front_tms O.out HM.out) T4.out (by omega) (by omega)) ?_
      rintro e w28 ⟨rfl, b⟩
      rw [decide_eq_true rfl]
      have O := hide (show TOwn _ _ _ _ from ownsRow_below O.out b)
      have X := hide (chain X.out b)
      have GG := hide (And.intro (cell_below GG.out.1 b) (cell_below GG.out.2 b))
      clear b T4
      go_wp2
      go_loopw [33] (fun i wx => ∃ (r : Nat) (M2 : List Tm), r ≤ len ∧ i = .int .i64 (r : Int) ∧ Hid (M2.length = len) ∧ Hid (TOwn wx g (.slice (some ⟨g, 0, none⟩) (len + 9) (len + 9)) (M2 ++ z9)) ∧ Hid (wx.cell? ⟨p, 1, none⟩ = some (.int .i64 pr) ∧ wx.cell? ⟨p, 2, none⟩ = some (.int .i64 n)) ∧ Hid (Below w.heap.size w wx)) (fun i _ => len - (intOf i).toNat)
      case atStart => exact ⟨0, M, by omega, rfl, HM.out, O.out, GG.out, X.out⟩
      case round =>
        clear O X GG
        obtain ⟨r, M2, hr, rfl, HM2, O, GG, X⟩ := hrel
        by_cases hrl : r < len
        · have hrr : (r : Int) < (len : Int) := by omega
          obtain ⟨t, ht⟩ : ∃ t, M2[r]? = some t := ⟨_, List.getElem?_eq_getElem (by have := HM2.out; omega)⟩
          have hz : (M2 ++ z9).length = len + 9 := by rw [List.length_append, HM2.out]; rfl
          have ht2 : (M2 ++ z9)[r]? = some t := by rw [List.getElem?_append_left (by have := HM2.out; omega)]; exact ht
          obtain ⟨c0, f0, h2⟩ := TOwn.due O.out hz ht2 (wrap64 (t.due + 1))
          have hO2 : Hid (TOwn (wr.setCell ⟨g, r * 2 + 1, none⟩ (.int .i64 (wrap64 (t.due + 1)))) g (.slice (some ⟨g, 0, none⟩) (len + 9) (len + 9)) (M2.set r ⟨t.proc, wrap64 (t.due + 1)⟩ ++ z9)) := by
            rw [List.set_append_left _ _ (by have := HM2.out; omega)] at h2
            exact h2
          have hGG2 : Hid ((wr.setCell ⟨g, r * 2 + 1, none⟩ (.int .i64 (wrap64 (t.due + 1)))).cell? ⟨p, 1, none⟩ = some (.int .i64 pr) ∧ (wr.setCell ⟨g, r * 2 + 1, none⟩ (.int .i64 (wrap64 (t.due + 1)))).cell? ⟨p, 2, none⟩ = some (.int .i64 n)) := by
            have hne := HGP.out
            exact ⟨by rw [World.cell?_setCell_other _ _ _ _ (by first | (simp; done) | (simp; omega))]; exact GG.out.1, by rw [World.cell?_setCell_other _ _ _ _ (by first | (simp; done) | (simp; omega))]; exact GG.out.2⟩
          have hX2 := hide (X.out.setCell (p := ⟨g, r * 2 + 1, none⟩) (show w.heap.size ≤ g by have := HGP.out; have := HPW.out; omega) (.int .i64 (wrap64 (t.due + 1))))
          clear h2 ht ht2 hz
          go_wp2
          go_roundw
          case rel => exact ⟨r + 1, _, by omega, by go_num, by rw [Hid, List.length_set]; exact HM2.out, hO2.out, hGG2.out, hX2.out⟩
          case measure => simp [intOf]; omega
        · obtain rfl : len = r := by omega
          go_wp2
          exact ⟨⟨q + 1, M2, by omega, by first | rfl | simp, HM2.out, O.out, GG.out, X.out⟩, by simp [intOf]; omega⟩
    · obtain rfl : q = 2 := by omega
      obtain ⟨W2, hW2⟩ : ∃ W, W = wr := ⟨_, rfl⟩
      subst hW2
      go_wp2
      go_loopw [34] (fun i wx => ∃ r : Nat, len ≤ r ∧ r ≤ len + 9 ∧ i = .int .i64 (r : Int) ∧ wx = W2) (fun i _ => len + 9 - (intOf i).toNat)
      case atStart => exact ⟨len, by omega, by omega, rfl, rfl⟩
      case round =>
        obtain ⟨r, hr0, hr1, rfl, rfl⟩ := hrel
        by_cases hrl : r < len + 9
        · have hrr : (r : Int) < ((len + 9 : Nat) : Int) := by omega
          obtain ⟨c0, c1⟩ := z9_cells O.out HM.out hr0 hrl
          go_wp2
          exact ⟨⟨r + 1, by omega, by omega, by first | rfl | simp, trivial⟩, by simp [intOf]; omega⟩
        · obtain rfl : r = len + 9 := by omega
          go_wp2
          go_ret
          exact ⟨rfl, X.out⟩
end Go.Proofs.YtdckpecalglnoaaDoor.timerApart
