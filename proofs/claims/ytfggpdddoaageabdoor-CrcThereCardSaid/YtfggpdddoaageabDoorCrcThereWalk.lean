/-
  Walk of the law CrcThere.
-/
import Derived.Test.YtfggpdddoaageabDoorNine
import Derived.Test.YtfggpdddoaageabDoorTold
import Derived.Test.YtfggpdddoaageabDoorEqual
import Derived.Test.YtfggpdddoaageabDoorStepApp
import Derived.Deep.DeepCutAuto
import Derived.Deep.RegionLaw
namespace Go.Proofs.YtfggpdddoaageabDoor
open Go.RowKit FerryCrc
theorem cell_over2 {w w' : World} {a : Addr} {v : Value} (h : w.cell? a = some v) (hb : Below w.heap.size w w') : w'.cell? a = some v := by
  rw [hb.cell (p := a) (block_lt_of_cell h)]
  exact h
theorem below_alloc' (w : World) (o : Obj) : Below w.heap.size w (w.alloc o) := (Below.refl _ _).alloc (Nat.le_refl _) o
theorem one_bts (w : World) (c : Nat) (hc : c < 256) : Bts (w.alloc (.cells #[.int .u8 (c : Int)] 5)) (some ⟨w.heap.size, 0, none⟩) 1 1 [c] :=
  (show Own (w.alloc (.cells #[.int .u8 (c : Int)] 5)) w.heap.size (.slice (some ⟨w.heap.size, 0, none⟩) 1 1) [c] from World.ownsRow_lit w #[.int .u8 (c : Int)] 1 (Nat.le_refl _) (by decide) rfl).bts rfl (by decide) (by simpa using hc)
theorem one_bts2 (w : World) (B : Nat) (hB : w.heap.size = B) (c : Nat) (hc : c < 256) : Bts (w.alloc (.cells #[.int .u8 (c : Int)] 5)) (some ⟨B, 0, none⟩) 1 1 [c] := by
  subst hB
  exact one_bts w c hc
theorem own_empty2 (w : World) (B : Nat) (hB : w.heap.size = B) (base : Nat) (h : base ≤ B) : Own (w.alloc (.cells #[] 5)) base (.slice (some ⟨B, 0, none⟩) 0 0) [] := by
  subst hB
  exact (own_empty w).weaken h
theorem good_seal {l : List Nat} {n : Nat} (hn : l.length = n) (h4 : 4 ≤ n) (hs : ∀ c ∈ l, c < 256) (h : Good l) : sealOf (l.take (n - 4)) = l := by
  subst hn
  unfold Good at h
  have e := num4_inj (l := l.drop (l.length - 4)) (by rw [List.length_drop]; omega) (fun c hc => hs c (List.mem_of_mem_drop hc)) h.symm
  unfold sealOf
  rw [← e, List.take_append_drop]
theorem three0 (w : World) (A B C : Value) : (w.alloc (.cells #[A, B, C] 22)).cell? ⟨w.heap.size, 0, none⟩ = some A := (World.cell?_alloc_at #[A, B, C] _ _ 0 rfl).trans rfl
theorem three1 (w : World) (A B C : Value) : (w.alloc (.cells #[A, B, C] 22)).cell? ⟨w.heap.size, 1, none⟩ = some B := (World.cell?_alloc_at #[A, B, C] _ _ 1 rfl).trans rfl
theorem three2 (w : World) (A B C : Value) : (w.alloc (.cells #[A, B, C] 22)).cell? ⟨w.heap.size, 2, none⟩ = some C := (World.cell?_alloc_at #[A, B, C] _ _ 2 rfl).trans rfl
theorem pick {w : World} {g k : Nat} {P : World → Option Addr → Nat → Nat → Prop} {a0 a1 a2 : Option Addr} {l0 l1 l2 c0 c1 c2 : Nat} (hk : k < 3)
    (h0 : w.cell? ⟨g, 0, none⟩ = some (.slice a0 l0 c0)) (h1 : w.cell? ⟨g, 1, none⟩ = some (.slice a1 l1 c1)) (h2 : w.cell? ⟨g, 2, none⟩ = some (.slice a2 l2 c2)) (p0 : P w a0 l0 c0) (p1 : P w a1 l1 c1) (p2 : P w a2 l2 c2) :
    ∃ ta tl tc, w.cell? ⟨g, k, none⟩ = some (.slice ta tl tc) ∧ P w ta tl tc := by
  rcases (by omega : k = 0 ∨ k = 1 ∨ k = 2) with rfl | rfl | rfl
  · exact ⟨_, _, _, h0, p0⟩
  · exact ⟨_, _, _, h1, p1⟩
  · exact ⟨_, _, _, h2, p2⟩
theorem Bts.grown1 {w w' : World} {B len cap : Nat} {l : List Nat} {row : Option Nat} (h : Bts w (some ⟨B, 0, none⟩) len cap l) (hg : w.grownBy w' row) (hne : some B ≠ row) : Bts w' (some ⟨B, 0, none⟩) len cap l :=
  ⟨h.size, h.most, h.fit, h.small, h.null, fun k hk => by
    obtain ⟨b, off, ha, c, hl, hc⟩ := h.cell k hk
    simp only [Option.some.injEq, Addr.mk.injEq, and_true] at ha
    obtain ⟨rfl, rfl⟩ := ha
    exact ⟨B, 0, rfl, c, hl, hg.cell hc hne⟩⟩
theorem below_own {w0 wz w5 : World} {v : Value} {L : List Nat} (h : Below w0.heap.size w0 wz) (ho : Own wz w0.heap.size v L) (hg : wz.grownBy w5 v.ownBlock) : Below w0.heap.size w0 w5 :=
  h.grown hg h.size (fun k e => (World.ownsRow.lt ho k e).1)
theorem Own.alloc' {w : World} {base : Nat} {v : Value} {L : List Nat} (h : Own w base v L) (o : Obj) : Own (w.alloc o) base v L := World.ownsRow.alloc h o
end Go.Proofs.YtfggpdddoaageabDoor
namespace Go.Proofs.YtfggpdddoaageabDoor.crcThere
open Go.RowKit FerryCrc

set_option maxRecDepth 100000 in
set_option maxHeartbeats 1000000 in
theorem law (a1 a6 : Addr) (a : Option Addr) (len cap : Nat) (l : List Nat) (c : Nat) (w : World) (v1 : w.cell? ⟨1, 0, none⟩ = some (sent a1)) (v6 : w.cell? ⟨2, 0, none⟩ = some (sent a6)) (hs : Bts w a len cap l) (hr : len ≤ 140737488351232) (hc : c < 256) :
    Calls Tryd.prog 5 #[.slice a len cap, .int .u8 (c : Int)] w fun e w' => e = .returned (.bool true) ∧ Below w.heap.size w w' := by
  have V1 := hide v1
  have V6 := hide v6
  have HS := hide hs
  have HSM := hide hs.small
  have hsz := hide hs.size
  clear v1 v6 hs
  go_enter Tryd.func5, Tryd.ntmps5
  go_wp2_with fail
  refine (awake_any w).mono ?_
  rintro e w1 ⟨rfl, hb1⟩
  go_wp2_with fail
  refine (seal_any a len cap l w1 (HS.out.below hb1) (by omega)).mono ?_
  rintro e w2 ⟨gs, rfl, hown2, hb2⟩
  have hslen : (sealOf l).length = len + 4 := by rw [sealOf_length, hsz.out]
  have HB2 := hide (chain hb1 hb2)
  have HK2 := hide (hown2.bts hslen (by omega) (sealOf_small HSM.out))
  have HG : Hid (Good (sealOf l)) := seal_good HSM.out
  have HT : Hid ((sealOf l).take (len + 4 - 4) = l) := by
    unfold Hid sealOf
    rw [show len + 4 - 4 = l.length by rw [hsz.out]; omega, List.take_left]
  have HN := hide hslen
  clear hb1 hb2 hown2 hslen
  go_wp2_with fail
  refine (open_any _ (len + 4) (len + 4) (sealOf l) a6 w2 (cell_over2 V6.out HB2.out) HK2.out (by omega)).mono ?_
  rintro e w3 ⟨hb3, ⟨_, g3, rfl, hown3⟩ | ⟨hbad, _⟩⟩
  case inr => exact absurd HG.out hbad
  rw [HT.out] at hown3
  have HB3 := hide (chain HB2.out hb3)
  have HK3 := hide (HK2.out.below hb3)
  have HQ := hide (equal_any _ _ (len + 4 - 4) (len + 4 - 4) len cap l l w3 (hown3.bts (by rw [hsz.out]; omega) (by omega) HSM.out) (HS.out.below (chain HB2.out hb3)))
  rw [show decide (l = l) = true by simp] at HQ
  clear hown3 hb3
  go_wp2_with fail
  refine HQ.out.mono ?_
  rintro e w4 ⟨rfl, hb4⟩
  have HB4 := hide (chain HB3.out hb4)
  have HK4 := hide (HK3.out.below hb4)
  clear hb4 HQ HK3 HB3 HK2 HB2
  have HN5 : Hid ((([] ++ sealOf l) ++ [c]).length = len + 5) := by
    unfold Hid
    rw [List.length_append, List.nil_append, HN.out]
    rfl
  have HS5 : Hid (∀ x ∈ ([] ++ sealOf l) ++ [c], x < 256) := by
    intro x hx
    rcases List.mem_append.1 hx with h | h
    · exact sealOf_small HSM.out x h
    · rw [List.mem_singleton.1 h]
      exact hc
  go_upto_region 7 with fail
  go_cut [47, 48, 49] (fun v47 v48 v49 wx => v48 = .int .i64 3 ∧ v49 = .int .i64 0 ∧ ∃ g gx cx : Nat, v47 = .slice (some ⟨g, 0, none⟩) 3 3 ∧ wx.cell? ⟨g, 0, none⟩ = some (.slice a len cap) ∧ wx.cell? ⟨g, 1, none⟩ = some (.slice (some ⟨gx, 0, none⟩) (len + 5) cx) ∧ wx.cell? ⟨g, 2, none⟩ = some (.slice (some ⟨gs, 0, none⟩) (len + 3) (len + 4)) ∧ Bts wx (some ⟨gx, 0, none⟩) (len + 5) cx (sealOf l ++ [c]) ∧ Below w4.heap.size w4 wx)
  case first =>
    have hwr : IntKind.i64.wrap ((len : Int) + 4 - 1) = (len : Int) + 3 := by rw [IntKind.wrap_i64]; omega
    have h03 : (0 : Int) ≤ (len : Int) + 3 := by omega
    have h34 : (len : Int) + 3 ≤ (len : Int) + 4 := by omega
    have htn : ((len : Int) + 3).toNat = len + 3 := by omega
    go_region_law (first | (refine step_app rfl (.tmp 36) (.tmp 37) rfl w4.heap.size (.slice (some ⟨w4.heap.size, 0, none⟩) 0 0) [] (by simp [Act.eval]) ((own_empty w4).drew) ⟨gs, 0, none⟩ (len + 4) (len + 4) (sealOf l) (by simp [Act.eval]) (HK4.out.below ((below_alloc' w4 (.cells #[] 5)).drew)) (by simp; omega) (((below_alloc' w4 (.cells #[] 5)).drew).size) ?_; intro v38 w5 ho5 hg5 hi5; have HW5 := hide (below_own ((below_alloc' w4 (.cells #[] 5)).drew) ((own_empty w4).drew) hg5); have HO5 := hide ho5; clear ho5 hg5 hi5) | (refine step_app rfl (.tmp 36) (.tmp 37) rfl w4.heap.size (.slice (some ⟨w4.heap.size, 0, none⟩) 0 0) [] (by simp [Act.eval]) (((own_empty w4).alloc' (.cells #[.int .u8 (c : Int)] 5)).drew) ⟨gs, 0, none⟩ (len + 4) (len + 4) (sealOf l) (by simp [Act.eval]) (HK4.out.below ((chain (below_alloc' w4 (.cells #[] 5)) (below_alloc' (w4.alloc (.cells #[] 5)) (.cells #[.int .u8 (c : Int)] 5))).drew)) (by simp; omega) (((chain (below_alloc' w4 (.cells #[] 5)) (below_alloc' (w4.alloc (.cells #[] 5)) (.cells #[.int .u8 (c : Int)] 5))).drew).size) ?_; intro v38 w5 ho5 hg5 hi5; have HW5 := hide (below_own ((chain (below_alloc' w4 (.cells #[] 5)) (below_alloc' (w4.alloc (.cells #[] 5)) (.cells #[.int .u8 (c : Int)] 5))).drew) (((own_empty w4).alloc' (.cells #[.int .u8 (c : Int)] 5)).drew) hg5); have HO5 := hide ho5; have HX5 := hide (((one_bts2 (w4.alloc (.cells #[] 5)) (w4.heap.size + 1) (by simp) c hc).drew).grown1 hg5 (by simp [Value.ownBlock])); clear ho5 hg5 hi5) | (refine step_app rfl (.tmp 36) (.tmp 37) rfl w4.heap.size (.slice (some ⟨w4.heap.size + 1, 0, none⟩) 0 0) [] (by simp [Act.eval]) ((own_empty2 (w4.alloc (.cells #[.int .u8 (c : Int)] 5)) (w4.heap.size + 1) (by simp) w4.heap.size (by omega)).drew) ⟨gs, 0, none⟩ (len + 4) (len + 4) (sealOf l) (by simp [Act.eval]) (HK4.out.below ((chain (below_alloc' w4 (.cells #[.int .u8 (c : Int)] 5)) (below_alloc' (w4.alloc (.cells #[.int .u8 (c : Int)] 5)) (.cells #[] 5))).drew)) (by simp; omega) (((chain (below_alloc' w4 (.cells #[.int .u8 (c : Int)] 5)) (below_alloc' (w4.alloc (.cells #[.int .u8 (c : Int)] 5)) (.cells #[] 5))).drew).size) ?_; intro v38 w5 ho5 hg5 hi5; have HW5 := hide (below_own ((chain (below_alloc' w4 (.cells #[.int .u8 (c : Int)] 5)) (below_alloc' (w4.alloc (.cells #[.int .u8 (c : Int)] 5)) (.cells #[] 5))).drew) ((own_empty2 (w4.alloc (.cells #[.int .u8 (c : Int)] 5)) (w4.heap.size + 1) (by simp) w4.heap.size (by omega)).drew) hg5); have HO5 := hide ho5; have HX5 := hide ((((one_bts w4 c hc).below (below_alloc' (w4.alloc (.cells #[.int .u8 (c : Int)] 5)) (.cells #[] 5))).drew).grown1 hg5 (by simp [Value.ownBlock])); clear ho5 hg5 hi5) | (refine step_app rfl (.tmp 38) (.tmp 40) rfl w4.heap.size v38 ([] ++ sealOf l) (by simp [Act.eval]) (HO5.out) ⟨w4.heap.size + 1, 0, none⟩ 1 1 [c] (by simp [Act.eval]) (HX5.out) (by rw [List.nil_append, HN.out]; omega) ((HW5.out).size) ?_; intro v41 w6 ho6 hg6 hi6; have HW6 := hide (below_own (HW5.out) (HO5.out) hg6); obtain ⟨gx, cx, e41, hgx⟩ := own_form ho6 (fun e => by simpa using (hi6.1 e).2); rw [HN5.out] at e41; subst e41; have HK6 := hide (ho6.bts HN5.out (by omega) HS5.out); clear ho6 hg6 hi6 hgx) | (refine step_app rfl (.tmp 38) (.tmp 40) rfl w4.heap.size v38 ([] ++ sealOf l) (by simp [Act.eval]) (HO5.out) ⟨w4.heap.size, 0, none⟩ 1 1 [c] (by simp [Act.eval]) (HX5.out) (by rw [List.nil_append, HN.out]; omega) ((HW5.out).size) ?_; intro v41 w6 ho6 hg6 hi6; have HW6 := hide (below_own (HW5.out) (HO5.out) hg6); obtain ⟨gx, cx, e41, hgx⟩ := own_form ho6 (fun e => by simpa using (hi6.1 e).2); rw [HN5.out] at e41; subst e41; have HK6 := hide (ho6.bts HN5.out (by omega) HS5.out); clear ho6 hg6 hi6 hgx) | (refine step_app rfl (.tmp 38) (.tmp 40) rfl w4.heap.size v38 ([] ++ sealOf l) (by simp [Act.eval]) (HO5.out.alloc' (.cells #[.int .u8 (c : Int)] 5)) ⟨w5.heap.size, 0, none⟩ 1 1 [c] (by simp [Act.eval]) (one_bts w5 c hc) (by rw [List.nil_append, HN.out]; omega) ((chain HW5.out (below_alloc' w5 (.cells #[.int .u8 (c : Int)] 5))).size) ?_; intro v41 w6 ho6 hg6 hi6; have HW6 := hide (below_own (chain HW5.out (below_alloc' w5 (.cells #[.int .u8 (c : Int)] 5))) (HO5.out.alloc' (.cells #[.int .u8 (c : Int)] 5)) hg6); obtain ⟨gx, cx, e41, hgx⟩ := own_form ho6 (fun e => by simpa using (hi6.1 e).2); rw [HN5.out] at e41; subst e41; have HK6 := hide (ho6.bts HN5.out (by omega) HS5.out); clear ho6 hg6 hi6 hgx))
    all_goals go_wp2
    all_goals go_meet
    all_goals exact ⟨rfl, rfl, w6.heap.size, gx, cx, rfl, three0 _ _ _ _, three1 _ _ _ _, three2 _ _ _ _, HK6.out.below (below_alloc' _ _), chain HW6.out (below_alloc' _ _)⟩
  case rest =>
    obtain ⟨rfl, rfl, g, gx, cx, rfl, hc0, hc1, hc2, hk5, hb5⟩ := hcut
    have HC0 := hide hc0
    have HC1 := hide hc1
    have HC2 := hide hc2
    have HKX := hide hk5
    have HB5 := hide (chain HB4.out hb5)
    have HK5 := hide ((HK4.out.below hb5).take (len + 3) (by omega))
    clear hc0 hc1 hc2 hk5 hb5 HB4 HK4
    go_wp2
    go_loopw [49] (fun i wr => ∃ k : Nat, k ≤ 3 ∧ i = .int .i64 k ∧ Below wc.heap.size wc wr) (fun i _ => 3 - (intOf i).toNat)
    case atStart => exact ⟨0, by omega, rfl, Below.refl _ _⟩
    case round =>
      obtain ⟨k, hk, rfl, hbw⟩ := hrel
      have HBW := hide hbw
      have HB6 := hide (chain HB5.out hbw)
      clear hbw
      by_cases hlt : k < 3
      · obtain ⟨ta, tl, tc, hct, L, hbt, htl⟩ := pick (P := fun w a l c => ∃ L, Bts w a l c L ∧ l ≤ 140737488351240) hlt (cell_over2 HC0.out HBW.out) (cell_over2 HC1.out HBW.out) (cell_over2 HC2.out HBW.out) ⟨_, HS.out.below HB6.out, by omega⟩ ⟨_, HKX.out.below HBW.out, by omega⟩ ⟨_, HK5.out.below HBW.out, by omega⟩
        have HT := hide hbt
        clear hbt
        by_cases h4 : tl < 4
        · go_wp2_with fail
          refine (open_short ta tl tc a1 wr (cell_over2 V1.out HB6.out) h4).mono ?_
          rintro e w7 ⟨rfl, hb7⟩
          have HB7 := hide (chain HBW.out hb7)
          clear hb7
          unfold sent
          go_wp2
          go_roundw
          case rel => exact ⟨k + 1, by omega, by go_num, HB7.out⟩
          case measure => simp [intOf]; omega
        · go_wp2_with fail
          refine (open_any ta tl tc L a6 wr (cell_over2 V6.out HB6.out) HT.out (by omega)).mono ?_
          rintro e w7 ⟨hb7, ⟨hgood, g7, rfl, hown7⟩ | ⟨_, rfl⟩⟩
          · have HB7 := hide (chain HBW.out hb7)
            have HE7 := hide (good_seal HT.out.size (by omega) HT.out.small hgood)
            have HO7 := hide (hown7.bts (show (L.take (tl - 4)).length = tl - 4 by rw [List.length_take, HT.out.size]; omega) (by omega) (fun c hc => HT.out.small c (List.mem_of_mem_take hc)))
            have HT7 := hide (HT.out.below hb7)
            clear hb7 hgood hown7
            go_wp2_with fail
            refine (seal_any _ (tl - 4) (tl - 4) (L.take (tl - 4)) w7 HO7.out (by omega)).mono ?_
            rintro e w8 ⟨g8, rfl, hown8, hb8⟩
            rw [HE7.out] at hown8
            have HQ := hide (equal_any _ _ (tl - 4 + 4) (tl - 4 + 4) tl tc L L w8 (hown8.bts (by rw [HT.out.size]; omega) (by omega) HT.out.small) (HT7.out.below hb8))
            rw [show decide (L = L) = true by simp] at HQ
            have HB8 := hide (chain HB7.out hb8)
            clear hown8 hb8
            go_wp2_with fail
            refine HQ.out.mono ?_
            rintro e w9 ⟨rfl, hb9⟩
            have HB9 := hide (chain HB8.out hb9)
            clear hb9
            go_wp2
            go_roundw
            case rel => exact ⟨k + 1, by omega, by go_num, HB9.out⟩
            case measure => simp [intOf]; omega
          · have HB7 := hide (chain HBW.out hb7)
            clear hb7
            unfold sent
            go_wp2
            go_roundw
            case rel => exact ⟨k + 1, by omega, by go_num, HB7.out⟩
            case measure => simp [intOf]; omega
      · go_wp2
        go_ret
        exact ⟨rfl, HB6.out⟩
end Go.Proofs.YtfggpdddoaageabDoor.crcThere
