/-
  The law's done: Size and Done of both writers, asked twice.
-/
import Derived.Test.YtkkogkdalcigkaaDoorWwDoc
import Derived.Test.YtkkogkdalcigkaaDoorRdBoth
import Derived.Test.YtkkogkdalcigkaaDoorWOpen1
namespace Go.Proofs.YtkkogkdalcigkaaDoor
open Go.RowKit FerryCrc
set_option linter.unusedVariables false
set_option linter.unusedSimpArgs false

set_option maxRecDepth 100000 in
set_option maxHeartbeats 4000000 in
theorem done_any {E : Nat → Addr} (b d : Nat) (v u : Value) (k : Nat) (L : List Nat) (w : World) (hw : Wr w b v (spv E k) L) (hd : DW w d u k (dq k L) L) (he : Errs w E) (hk20 : k ≤ 20) (hl : L.length + 16 ≤ 140737488355328) :
    Calls Tryd.prog 36 #[.pointer (some ⟨b, 0, none⟩), .pointer (some ⟨d, 0, none⟩)] w fun e w' => e = .returned (.bool true) ∧ Below w.heap.size w w' := by
  have HW := hide hw
  have HD := hide hd
  have HE := hide he
  obtain ⟨M, hM⟩ : ∃ M, (if k = 0 then L else []) = M := ⟨_, rfl⟩
  have hML : M.length ≤ L.length := by rw [← hM]; split <;> simp
  have HMS : Hid (∀ c ∈ M, c < 256) := fun c hc => by
    rw [← hM] at hc
    split at hc
    · exact hw.small c hc
    · simp at hc
  obtain ⟨N, hN⟩ : ∃ N, M.length = N := ⟨_, rfl⟩
  obtain ⟨n, hn⟩ : ∃ n, L.length = n := ⟨_, rfl⟩
  have hNn : N ≤ n := by omega
  have HLL : Hid (M.length ≤ 140737488355328) := by unfold Hid; omega
  obtain ⟨q, hq⟩ : ∃ q, dq k L = q := ⟨_, rfl⟩
  have HPC := hide (fun W (h : Wr W b v (spv E k) L) => wDone_all b v E k L W h hk20 (by omega))
  have HDC := hide (fun W (h : DW W d u k (dq k L) L) => ddone_all d u k L W h (by omega))
  have HSZ := hide (fun W (h : Wr W b v (spv E k) L) => wSize_any b v (spv E k) L W h (by omega))
  unfold PDone at HPC
  unfold DDone at HDC
  have hq2 : (if k = 0 then (-1 : Int) else (L.length : Int)) = q := hq
  rw [hM] at HPC HDC
  rw [hq2] at HPC
  rw [hq] at HDC HD
  rw [hn] at HSZ
  obtain ⟨ua, uc, eu, hub⟩ := hd.own.shown (by omega) hd.small
  rw [hn] at eu
  have HNH := hide hN
  rw [hn] at hl
  clear hw hd he hub hq hq2 hM hML hn
  subst eu
  go_enter Tryd.func36, Tryd.ntmps36
  go_wp2_with fail
  go_loopw [5] (fun i wr => ∃ t : Nat, t ≤ 2 ∧ i = .int .i64 (t : Int) ∧ Hid (Below w.heap.size w wr)) (fun i _ => 2 - (intOf i).toNat)
  case atStart => exact ⟨0, by omega, rfl, Below.refl _ _⟩
  case round =>
    obtain ⟨t, ht, rfl, HB⟩ := hrel
    by_cases ht2 : t < 2
    · have ht3 : (t : Int) < 2 := by omega
      generalize wr = w0 at *
      go_wp2_with fail
      refine Calls.mono (HPC.out w0 (HW.out.below HB.out)) ?_
      rintro e w1 ⟨pv, ev, rfl, hi1, hop, hb1⟩
      obtain ⟨pa, pc, rfl, hbp⟩ := hop.shown HLL.out HMS.out
      rw [hN] at hop hbp ⊢
      have HI1 := hide hi1
      have HOP := hide hop
      have HBP := hide hbp
      have HB1 := hide hb1
      clear hi1 hop hbp hb1
      go_wp2_with fail
      refine Calls.mono (HDC.out w1 (HD.out.below (chain HB.out HB1.out))) ?_
      rintro e w2 ⟨dv, rfl, hod, hb2⟩
      obtain ⟨da, dc, rfl, hbd⟩ := hod.shown HLL.out HMS.out
      rw [hN] at hbd ⊢
      have HBD := hide hbd
      have HB2 := hide hb2
      clear hod hbd hb2
      have HT3 := hide (two_alloc w2 (.int .i64 (k : Int)) (.int .i64 q) 67)
      have HB3 : Hid (Below w2.heap.size w2 (w2.alloc (.cells #[.int .i64 (k : Int), .int .i64 q] 67))) := (Below.refl _ _).alloc (Nat.le_refl _) _
      unfold rerr
      go_wp2_with fail
      generalize w2.alloc (.cells #[.int .i64 (k : Int), .int .i64 q] 67) = W3 at *
      obtain ⟨eb, heb⟩ : ∃ eb, w2.heap.size = eb := ⟨_, rfl⟩
      rw [heb] at HT3 ⊢
      have HB13 := hide (chain HB2.out HB3.out)
      have HB03 := hide (chain HB1.out HB13.out)
      have HBw3 := hide (chain HB.out HB03.out)
      obtain ⟨SL, hSL⟩ : ∃ SL, str M = SL := ⟨_, rfl⟩
      have HSS : Hid (∀ W, Below W3.heap.size W3 W → W.cell? ⟨d, 0, none⟩ = some (.slice ua n uc) ∧ W.cell? ⟨eb, 0, none⟩ = some (.int .i64 (k : Int)) ∧ W.cell? ⟨eb, 1, none⟩ = some (.int .i64 q) ∧ (convert 41 9 (.slice pa N pc)).run Tryd.prog W = .ok (.string SL) W ∧ (convert 41 9 (.slice da N dc)).run Tryd.prog W = .ok (.string SL) W) := fun W hb => by
        rw [← hSL]
        exact ⟨(HD.out.below (chain HBw3.out hb)).c0, (HT3.out.below hb).c0, (HT3.out.below hb).c1, bts_string ((HBP.out.below HB13.out).below hb), bts_string ((HBD.out.below HB3.out).below hb)⟩
      have HDW : Hid (Below W3.heap.size W3 W3.drew) := (Below.refl _ _).drew
      clear hSL heb
      go_region_held3 (fun W => W.cell? ⟨d, 0, none⟩ = some (.slice ua n uc) ∧ W.cell? ⟨eb, 0, none⟩ = some (.int .i64 (k : Int)) ∧ W.cell? ⟨eb, 1, none⟩ = some (.int .i64 q) ∧ (convert 41 9 (.slice pa N pc)).run Tryd.prog W = .ok (.string SL) W ∧ (convert 41 9 (.slice da N dc)).run Tryd.prog W = .ok (.string SL) W) (first | exact HSS.out _ HH4.out | exact HSS.out _ HDW.out) (first
        | (go_at_call 60; refine (HSZ.out W3.drew (HW.out.below (chain HBw3.out HDW.out))).mono ?_; rintro e w4 ⟨rfl, rfl⟩)
        | (go_at_call 31; refine (same_yes ev k q W3.drew (HE.out.below (chain HBw3.out HDW.out)) (HI1.out.below (chain HB13.out HDW.out))).mono ?_; rintro e w4 ⟨rfl, hb4⟩; have HH4 := hide (chain HDW.out hb4); clear hb4))
      have HO4 := hide ((HOP.out.frm (S := fun _ => False) (Frm.ofBelow HB13.out) (fun _ _ h => h)).frm (S := fun _ => False) (Frm.ofBelow HH4.out) (fun _ _ h => h))
      have HBw4 := hide (chain HBw3.out HH4.out)
      obtain ⟨b0, hb0⟩ : ∃ b0, w0.heap.size = b0 := ⟨_, rfl⟩
      have HB00 : Hid (w.heap.size ≤ b0 ∧ b0 ≤ w4.heap.size) := ⟨by rw [← hb0]; exact HB.out.size, by rw [← hb0]; exact (chain HB03.out HH4.out).size⟩
      rw [hb0] at HO4
      have HNH2 := hide hN
      clear hb0 hN HOP HBP HBD HSS
      go_wp2_with fail
      go_loopw [10] (fun i wr => ∃ (j : Nat) (l' : List Nat), j ≤ N ∧ i = .int .i64 (j : Int) ∧ Hid (l'.length = N) ∧ Hid (Own wr b0 (.slice pa N pc) l') ∧ Hid (Frm (fun t => b0 ≤ t) w4 wr)) (fun i _ => N - (intOf i).toNat)
      case atStart => exact ⟨0, M, by omega, rfl, HNH2, HO4, Frm.refl _ _⟩
      case round =>
        obtain ⟨j, l', hj, rfl, HL', HOR, HFR⟩ := hrel
        by_cases hlt : j < N
        · obtain ⟨g3, c3, e3, hg3, hc3⟩ := own_some HOR.out HL'.out (by omega)
          injection e3 with e3 _ e4
          subst e3
          subst e4
          obtain ⟨y, hy⟩ : ∃ y, l'[j]? = some y := ⟨_, List.getElem?_eq_getElem (by rw [HL'.out]; exact hlt)⟩
          have kk := HOR.out.cellAt HL'.out j y hy
          have kf := HOR.out.frozenAt HL'.out j
          have HS := hide (HOR.out.stored HL'.out j 77)
          have hj1 : (j : Int) < (N : Int) := by omega
          have HG3 := hide hg3
          clear hy hg3
          go_wp2
          refine ⟨⟨j + 1, l'.set j 77, by omega, by first | rfl | simp, ?_, HS, HFR.out.trans (frm_setCell wr ⟨g3, j, none⟩ _) (fun t _ (e : t = g3) => by have := HG3.out; show b0 ≤ t; omega)⟩, by simp [intOf]; omega⟩
          unfold Hid
          rw [List.length_set, HL'.out]
        · obtain rfl : j = N := by omega
          have HF1 := HFR
          have HO1 := HOR
          have HL1 := HL'
          generalize wr = w7 at *
          go_wp2_with fail
          go_loopw [6, 11] (fun v i wr => ∃ (z : Nat) (l2 : List Nat) (vv : Value), vv = v ∧ z ≤ 8 ∧ i = .int .i64 (z : Int) ∧ Hid (l2.length = j + z) ∧ Hid (Own wr b0 v l2) ∧ Hid (Frm (fun t => b0 ≤ t) w4 wr)) (fun _ i _ => 8 - (intOf i).toNat)
          case atStart => exact ⟨0, l', _, rfl, by omega, rfl, HL1, HO1, HF1⟩
          case round =>
            obtain ⟨z, l2, vv, rfl, hz, rfl, HL2, HOR2, HFR2⟩ := hrel
            by_cases h8 : z < 8
            · have hz1 : (z : Int) < 8 := by omega
              have HAw : Hid (Below wr.heap.size wr (wr.alloc (.cells #[.int .u8 78] 5))) := (Below.refl _ _).alloc (Nat.le_refl _) _
              have HOa := hide (HOR2.out.frm (S := fun _ => False) (Frm.ofBelow HAw.out) (fun _ _ h => h))
              have HLa : Hid (l2.length + 1 ≤ 140737488355328) := by unfold Hid; rw [HL2.out]; omega
              have HSa : Hid (b0 ≤ (wr.alloc (.cells #[.int .u8 78] 5)).heap.size) := by unfold Hid; have := HAw.out.size; have := HFR2.out.size; have := HB00.out; omega
              go_wp2_with (first | (refine append_lie rfl (.tmp 60) (.tmp 61) rfl b0 vv _ rfl HOa.out _ 1 1 [78] rfl (one_byte wr 78 (by decide) _) HLa.out HSa.out ?_; intro v3 w8 ho hf hq; have HO8 := hide ho; have HF8 := hide ((HFR2.out.trans (Frm.ofBelow (S := fun _ => False) HAw.out) (fun j _ t => t.elim)).trans hf (fun k _ e => (World.ownsRow.lt HOR2.out k e).1)); clear ho hf hq))
              refine ⟨⟨z + 1, l2 ++ [78], v3, rfl, by omega, by first | rfl | simp, ?_, HO8, HF8⟩, by simp [intOf]; omega⟩
              unfold Hid
              rw [List.length_append, HL2.out]
              rfl
            · obtain rfl : z = 8 := by omega
              have HBF : Hid (Below w.heap.size w wr) := HBw4.out.trans (HFR2.out.below HBw4.out.size (fun k (e : b0 ≤ k) => by have := HB00.out; omega))
              go_wp2
              exact ⟨⟨t + 1, by omega, by first | rfl | simp, HBF⟩, by simp [intOf]; omega⟩
    · obtain rfl : t = 2 := by omega
      go_wp2
      go_ret
      exact ⟨rfl, HB.out⟩
end Go.Proofs.YtkkogkdalcigkaaDoor
