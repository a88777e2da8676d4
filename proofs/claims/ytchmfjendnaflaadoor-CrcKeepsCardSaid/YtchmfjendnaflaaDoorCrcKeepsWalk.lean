/-
  Walk of the law CrcKeeps.
-/
import Derived.Test.YtchmfjendnaflaaDoorCkStore
import Derived.Test.YtchmfjendnaflaaDoorNine
namespace Go.Proofs.YtchmfjendnaflaaDoor.crcKeeps
open Go.RowKit FerryCrc
set_option linter.unusedVariables false
set_option linter.unusedSimpArgs false

set_option maxRecDepth 100000 in
set_option maxHeartbeats 4000000 in
theorem law {E : Nat → Addr} (a : Option Addr) (len cap : Nat) (l : List Nat) (pos : Int) (mask : Nat) (w : World) (he : K6 w E) (hs : Bts w a len cap l) (hr : len ≤ 140737488351232) (_hp0 : -9223372036854775808 ≤ pos) (_hp1 : pos ≤ 9223372036854775807) (hm : mask < 4294967296) :
    Calls Tryd.prog 3 #[.slice a len cap, .int .i64 pos, .int .u32 (mask : Int)] w fun e w' => e = .returned (.bool true) ∧ Below w.heap.size w w' := by
  have HE := hide he
  have HS := hide hs
  have HL := hide hs.size
  obtain ⟨n4, hn4⟩ : ∃ n4, len + 4 = n4 := ⟨_, rfl⟩
  have hn5 : n4 ≤ 140737488351236 := by omega
  have HSL : Hid ((sealOf l).length = n4 ∧ ∀ c ∈ sealOf l, c < 256) := ⟨by rw [sealOf_length, hs.size, hn4], sealOf_small hs.small⟩
  obtain ⟨o, t, p, P, M, hsix⟩ := six_ex (l := sealOf l) (r := l) (n := n4) (m := len) HSL.out.1 HSL.out.2 hs.size hs.small (by omega) pos mask hm
  have H6 := hide hsix
  have HRC : Hid (∀ (a : Option Addr) (n c : Nat) (l : List Nat) (wx : World), Bts wx a n c l → n ≤ 140737488354000 → Calls Tryd.prog 11 #[.slice a n c] wx fun e w' => ∃ g c', e = .returned (.slice (some ⟨g, 0, none⟩) (n + 80) c') ∧ Own w' wx.heap.size (.slice (some ⟨g, 0, none⟩) (n + 80) c') (l ++ spare) ∧ Below wx.heap.size wx w') := fun a n c l wx h1 h2 => room_any a n c l wx h1 h2
  have HN4 := hide hn4
  clear he hs hsix hn4
  go_enter Tryd.func3, Tryd.ntmps3
  go_wp2_with fail
  refine Calls.mono (awake_any w) ?_
  rintro e w1 ⟨rfl, hb1⟩
  have HB1 := hide hb1
  clear hb1
  go_wp2_with fail
  refine Calls.mono (refSeal_any a len cap l w1 (HS.out.below HB1.out) (by omega)) ?_
  rintro e w2 ⟨gb, cb, rfl, ho2, hb2⟩
  rw [HN4.out] at ho2 ⊢
  have HOB2 := hide ho2
  have HB2 := hide (chain HB1.out hb2)
  clear ho2 hb2
  have HBb2 := hide (HOB2.out.bts HSL.out.1 (by omega) HSL.out.2)
  go_wp2_with fail
  refine Calls.mono (HRC.out _ _ _ _ w2 HBb2.out (by omega)) ?_
  rintro e w3 ⟨gx, cx, rfl, ho3, hb3⟩
  have HX3 := hide ho3
  have H23 := hide hb3
  have HB3 := hide (chain HB2.out hb3)
  clear ho3 hb3
  go_wp2_with fail
  refine Calls.mono (HRC.out _ _ _ _ w3 (HS.out.below HB3.out) (by omega)) ?_
  rintro e w4 ⟨gy, cy, rfl, ho4, hb4⟩
  have HY4 := hide ho4
  have H34 := hide hb4
  have HB4 := hide (chain HB3.out hb4)
  have HBb4 := hide (HBb2.out.below (chain H23.out hb4))
  clear ho4 hb4
  go_wp2_with fail
  refine Calls.mono (want_any (some ⟨gb, 0, none⟩) n4 cb (sealOf l) a len cap l pos mask o t p P M w4 H6.out HBb4.out (HS.out.below HB4.out) (by omega) hm) ?_
  rintro e w5 ⟨v0, v1, v2, v3, rfl, ho0, ho1, ho2, ho3, _, hb5⟩
  obtain ⟨a0w, m0w, d0w, rfl⟩ := ho0.sl
  obtain ⟨a1w, m1w, d1w, rfl⟩ := ho1.sl
  obtain ⟨a2w, m2w, d2w, rfl⟩ := ho2.sl
  obtain ⟨a3w, m3w, d3w, rfl⟩ := ho3.sl
  have HWO5 : Hid (Four w5 w4.heap.size (.slice a0w m0w d0w) (.slice a1w m1w d1w) (.slice a2w m2w d2w) (.slice a3w m3w d3w) (sealOf (sealOf l)) o t p) := ⟨ho0, ho1, ho2, ho3⟩
  have HZ45 : Hid (w4.heap.size ≤ w5.heap.size) := hb5.size
  have HA5 : Hid (Below w5.heap.size w5 (w5.alloc (.cells #[.int .u32 0, .int .u32 0, .int .u32 0, .int .u32 0, .int .u32 0, .int .i64 0, .slice none 0 0, .slice none 0 0, .slice none 0 0, .slice none 0 0] 29))) := (Below.refl _ _).alloc (Nat.le_refl _) _
  have hst := ask_store (bl_alloc w5 #[.int .u32 0, .int .u32 0, .int .u32 0, .int .u32 0, .int .u32 0, .int .i64 0, .slice none 0 0, .slice none 0 0, .slice none 0 0, .slice none 0 0] 29) rfl (sumOf (sealOf l)) (moreOf mask (sealOf l)) M (P : Int) a0w a1w a2w a3w m0w d0w m1w d1w m2w d2w m3w d3w
  have HT6 := hide (bl_setCells (vs := (askC (sumOf (sealOf l)) (moreOf mask (sealOf l)) M (P : Int) (.slice a0w m0w d0w) (.slice a1w m1w d1w) (.slice a2w m2w d2w) (.slice a3w m3w d3w))) (bl_alloc w5 #[.int .u32 0, .int .u32 0, .int .u32 0, .int .u32 0, .int .u32 0, .int .i64 0, .slice none 0 0, .slice none 0 0, .slice none 0 0, .slice none 0 0] 29) rfl)
  have HFr := hide ((Frm.ofBelow (S := fun k => k = w5.heap.size) HA5.out).trans (frm_setCells w5.heap.size (askC (sumOf (sealOf l)) (moreOf mask (sealOf l)) M (P : Int) (.slice a0w m0w d0w) (.slice a1w m1w d1w) (.slice a2w m2w d2w) (.slice a3w m3w d3w)) 0 _) (fun _ _ t => t))
  have H56 := hide (HFr.out.below (B := w5.heap.size) (Nat.le_refl _) (fun q (e : q = w5.heap.size) => by omega))
  have H46 := hide (chain hb5 H56.out)
  clear ho0 ho1 ho2 ho3 hb5 HA5 HFr
  go_upto_region 7 with fail
  clear hst
  generalize ((w5.alloc (.cells #[.int .u32 0, .int .u32 0, .int .u32 0, .int .u32 0, .int .u32 0, .int .i64 0, .slice none 0 0, .slice none 0 0, .slice none 0 0, .slice none 0 0] 29)).setCells w5.heap.size 0 (askC (sumOf (sealOf l)) (moreOf mask (sealOf l)) M (P : Int) (.slice a0w m0w d0w) (.slice a1w m1w d1w) (.slice a2w m2w d2w) (.slice a3w m3w d3w))) = W6 at *
  have HWO6 := hide (HWO5.out.below H56.out)
  have HG10 : Hid (w4.heap.size ≤ w5.heap.size ∧ w5.heap.size < W6.heap.size) := ⟨HZ45.out, block_lt_of_cell (HT6.out.cell 0 _ rfl)⟩
  generalize w5.heap.size = g10 at *
  have HB6 := hide (chain HB4.out H46.out)
  have HXc : Hid (n4 + 80 ≤ cx) := (own_some HX3.out (show (sealOf l ++ spare).length = n4 + 80 by rw [List.length_append, HSL.out.1, spare_len]) (by omega)).elim (fun g h => by obtain ⟨c', e, _, hc⟩ := h; simp only [Value.slice.injEq] at e; show _ ≤ cx; omega)
  have HYc : Hid (len + 80 ≤ cy) := (own_some HY4.out (show (l ++ spare).length = len + 80 by rw [List.length_append, HL.out, spare_len]) (by omega)).elim (fun g h => by obtain ⟨c', e, _, hc⟩ := h; simp only [Value.slice.injEq] at e; show _ ≤ cy; omega)
  have HX6 := hide (HX3.out.below (chain H34.out H46.out))
  have HY6 := hide (HY4.out.below H46.out)
  have HBb6 := hide (HBb4.out.below H46.out)
  have HG6 : Hid (w2.heap.size ≤ gx ∧ gx < w3.heap.size ∧ w3.heap.size ≤ gy ∧ gy < w4.heap.size ∧ gb < w2.heap.size ∧ w1.heap.size ≤ gb ∧ w4.heap.size ≤ W6.heap.size ∧ w.heap.size ≤ w1.heap.size ∧ w2.heap.size ≤ w3.heap.size ∧ w3.heap.size ≤ w4.heap.size) := ⟨(World.ownsRow.lt HX3.out gx rfl).1, (World.ownsRow.lt HX3.out gx rfl).2, (World.ownsRow.lt HY4.out gy rfl).1, (World.ownsRow.lt HY4.out gy rfl).2, (World.ownsRow.lt HOB2.out gb rfl).2, (World.ownsRow.lt HOB2.out gb rfl).1, H46.out.size, HB1.out.size, H23.out.size, H34.out.size⟩
  clear HWO5 HZ45 H56 H46 HX3 HY4 HBb4 HBb2 HOB2 H23 H34 HB2 HB3 HB4
  have HXl : Hid ((sealOf l ++ spare).length = n4 + 80 ∧ ∀ c ∈ sealOf l ++ spare, c < 256) := ⟨by rw [List.length_append, HSL.out.1, spare_len], fun c hc => by rcases List.mem_append.1 hc with h | h; exact HSL.out.2 c h; exact spare_small c h⟩
  have HYl : Hid ((l ++ spare).length = len + 80 ∧ ∀ c ∈ l ++ spare, c < 256) := ⟨by rw [List.length_append, HL.out, spare_len], fun c hc => by rcases List.mem_append.1 hc with h | h; exact HS.out.small c h; exact spare_small c h⟩
  have HXb : Hid (Bts W6 (some ⟨gx, 0, none⟩) n4 cx (sealOf l)) := by
    have h1 := (HX6.out.bts HXl.out.1 (by omega) HXl.out.2).take n4 (by omega)
    rw [List.take_append_of_le_length (by rw [HSL.out.1]; exact Nat.le_refl _), List.take_of_length_le (by rw [HSL.out.1]; exact Nat.le_refl _)] at h1
    exact h1
  have HYb : Hid (Bts W6 (some ⟨gy, 0, none⟩) len cy l) := by
    have h1 := (HY6.out.bts HYl.out.1 (by omega) HYl.out.2).take len (by omega)
    rw [List.take_append_of_le_length (by rw [HL.out]; exact Nat.le_refl _), List.take_of_length_le (by rw [HL.out]; exact Nat.le_refl _)] at h1
    exact h1
  have HASK : Hid (∀ wx, Below W6.heap.size W6 wx → Calls Tryd.prog 13 #[.slice (some ⟨gx, 0, none⟩) n4 cx, .slice (some ⟨gy, 0, none⟩) len cy, .int .i64 pos, .int .u32 (mask : Int)] wx fun e w' => Asked wx (sealOf l) mask o t p P M e w') := fun wx hx => ask_any (some ⟨gx, 0, none⟩) n4 cx (sealOf l) (some ⟨gy, 0, none⟩) len cy l pos mask o t p P M wx H6.out (HE.out.below (chain HB6.out hx)) (HXb.out.below hx) (HYb.out.below hx) (by omega) hm
  have q1 : n4 ≤ cx := by have := HXc.out; omega
  have q2 : (n4 : Int) ≤ (cx : Int) := by omega
  have q3 : len ≤ cy := by have := HYc.out; omega
  have q4 : (len : Int) ≤ (cy : Int) := by omega
  go_cut [11] from 19 (fun v wx => ∃ (g1 : Nat) (a01 a11 a21 a31 : Option Addr) (m01 d01 m11 d11 m21 d21 m31 d31 : Nat), v = .pointer (some ⟨g1, 0, none⟩) ∧ Hid (Bl wx g1 (askC (sumOf (sealOf l)) (moreOf mask (sealOf l)) M (P : Int) (.slice a01 m01 d01) (.slice a11 m11 d11) (.slice a21 m21 d21) (.slice a31 m31 d31))) ∧ Hid (Four wx W6.heap.size (.slice a01 m01 d01) (.slice a11 m11 d11) (.slice a21 m21 d21) (.slice a31 m31 d31) (sealOf (sealOf l)) o t p) ∧ Hid (W6.heap.size ≤ g1) ∧ Hid (Ap4 (.slice a01 m01 d01) (.slice a11 m11 d11) (.slice a21 m21 d21) (.slice a31 m31 d31)) ∧ Hid (Below W6.heap.size W6 wx))
  case first =>
    as_aux_lemma =>
      have HD0 : Hid (Below W6.heap.size W6 W6.drew) := (Below.refl _ _).drew
      have HAb : Hid (Below W6.heap.size W6 ((W6.alloc (.cells #[.int .u32 0, .int .u32 0, .int .u32 0, .int .u32 0, .int .u32 0, .int .i64 0, .slice none 0 0, .slice none 0 0, .slice none 0 0, .slice none 0 0] 29)).drew)) := ((Below.refl _ _).alloc (Nat.le_refl _) _).drew
      have HLb : Hid (Bl ((W6.alloc (.cells #[.int .u32 0, .int .u32 0, .int .u32 0, .int .u32 0, .int .u32 0, .int .i64 0, .slice none 0 0, .slice none 0 0, .slice none 0 0, .slice none 0 0] 29)).drew) W6.heap.size (#[.int .u32 0, .int .u32 0, .int .u32 0, .int .u32 0, .int .u32 0, .int .i64 0, .slice none 0 0, .slice none 0 0, .slice none 0 0, .slice none 0 0] : Array Value).toList) := (bl_alloc W6 #[.int .u32 0, .int .u32 0, .int .u32 0, .int .u32 0, .int .u32 0, .int .i64 0, .slice none 0 0, .slice none 0 0, .slice none 0 0, .slice none 0 0] 29).below (Below.refl _ _).drew (by simp)
      have HSb : Hid (((W6.alloc (.cells #[.int .u32 0, .int .u32 0, .int .u32 0, .int .u32 0, .int .u32 0, .int .i64 0, .slice none 0 0, .slice none 0 0, .slice none 0 0, .slice none 0 0] 29)).drew).heap.size = W6.heap.size + 1) := by unfold Hid; simp
      go_region_held3 (fun wz => True) (exact True.intro)
        (first
          | (go_at_call 13; refine (HASK.out W6.drew HD0.out).mono ?_; rintro e w7 ⟨v0, v1, v2, v3, rfl, ho0, ho1, ho2, ho3, hap, hb7⟩; obtain ⟨a01, m01, d01, rfl⟩ := ho0.sl; obtain ⟨a11, m11, d11, rfl⟩ := ho1.sl; obtain ⟨a21, m21, d21, rfl⟩ := ho2.sl; obtain ⟨a31, m31, d31, rfl⟩ := ho3.sl; have hst := ask_store (bl_alloc w7 #[.int .u32 0, .int .u32 0, .int .u32 0, .int .u32 0, .int .u32 0, .int .i64 0, .slice none 0 0, .slice none 0 0, .slice none 0 0, .slice none 0 0] 29) rfl (sumOf (sealOf l)) (moreOf mask (sealOf l)) M (P : Int) a01 a11 a21 a31 m01 d01 m11 d11 m21 d21 m31 d31; have HBl := hide (bl_setCells (vs := (askC (sumOf (sealOf l)) (moreOf mask (sealOf l)) M (P : Int) (.slice a01 m01 d01) (.slice a11 m11 d11) (.slice a21 m21 d21) (.slice a31 m31 d31))) (bl_alloc w7 #[.int .u32 0, .int .u32 0, .int .u32 0, .int .u32 0, .int .u32 0, .int .i64 0, .slice none 0 0, .slice none 0 0, .slice none 0 0, .slice none 0 0] 29) rfl); have HFr := hide ((Frm.ofBelow (S := fun k => k = w7.heap.size) ((Below.refl w7.heap.size w7).alloc (Nat.le_refl _) (.cells #[.int .u32 0, .int .u32 0, .int .u32 0, .int .u32 0, .int .u32 0, .int .i64 0, .slice none 0 0, .slice none 0 0, .slice none 0 0, .slice none 0 0] 29))).trans (frm_setCells w7.heap.size (askC (sumOf (sealOf l)) (moreOf mask (sealOf l)) M (P : Int) (.slice a01 m01 d01) (.slice a11 m11 d11) (.slice a21 m21 d21) (.slice a31 m31 d31)) 0 _) (fun _ _ t => t)); have HOO := hide (And.intro (ho0.frm HFr.out (fun q hq (e : q = w7.heap.size) => by have := (World.ownsRow.lt ho0 q hq).2; omega)) (And.intro (ho1.frm HFr.out (fun q hq (e : q = w7.heap.size) => by have := (World.ownsRow.lt ho1 q hq).2; omega)) (And.intro (ho2.frm HFr.out (fun q hq (e : q = w7.heap.size) => by have := (World.ownsRow.lt ho2 q hq).2; omega)) (ho3.frm HFr.out (fun q hq (e : q = w7.heap.size) => by have := (World.ownsRow.lt ho3 q hq).2; omega))))); have HAP := hide hap; have HGe : Hid (W6.heap.size ≤ w7.heap.size) := (chain HD0.out hb7).size; have HBe := hide ((chain HD0.out hb7).trans (HFr.out.below (chain HD0.out hb7).size (fun q (e : q = w7.heap.size) => by have := (chain HD0.out hb7).size; omega))); clear ho0 ho1 ho2 ho3 hap hb7)
          | (go_at_call 13; refine (HASK.out ((W6.alloc (.cells #[.int .u32 0, .int .u32 0, .int .u32 0, .int .u32 0, .int .u32 0, .int .i64 0, .slice none 0 0, .slice none 0 0, .slice none 0 0, .slice none 0 0] 29)).drew) HAb.out).mono ?_; rintro e w7 ⟨v0, v1, v2, v3, rfl, ho0, ho1, ho2, ho3, hap, hb7⟩; obtain ⟨a01, m01, d01, rfl⟩ := ho0.sl; obtain ⟨a11, m11, d11, rfl⟩ := ho1.sl; obtain ⟨a21, m21, d21, rfl⟩ := ho2.sl; obtain ⟨a31, m31, d31, rfl⟩ := ho3.sl; rw [HSb.out] at ho0 ho1 ho2 ho3; have hst := ask_store (HLb.out.below hb7 (by simp)) rfl (sumOf (sealOf l)) (moreOf mask (sealOf l)) M (P : Int) a01 a11 a21 a31 m01 d01 m11 d11 m21 d21 m31 d31; have HBl := hide (bl_setCells (vs := (askC (sumOf (sealOf l)) (moreOf mask (sealOf l)) M (P : Int) (.slice a01 m01 d01) (.slice a11 m11 d11) (.slice a21 m21 d21) (.slice a31 m31 d31))) (HLb.out.below hb7 (by simp)) rfl); have HFr := hide (frm_setCells W6.heap.size (askC (sumOf (sealOf l)) (moreOf mask (sealOf l)) M (P : Int) (.slice a01 m01 d01) (.slice a11 m11 d11) (.slice a21 m21 d21) (.slice a31 m31 d31)) 0 w7); have HOO := hide (And.intro ((ho0.frm HFr.out (fun q hq (e : q = W6.heap.size) => by have := (World.ownsRow.lt ho0 q hq).1; omega)).wk (Nat.le_succ _)) (And.intro ((ho1.frm HFr.out (fun q hq (e : q = W6.heap.size) => by have := (World.ownsRow.lt ho1 q hq).1; omega)).wk (Nat.le_succ _)) (And.intro ((ho2.frm HFr.out (fun q hq (e : q = W6.heap.size) => by have := (World.ownsRow.lt ho2 q hq).1; omega)).wk (Nat.le_succ _)) ((ho3.frm HFr.out (fun q hq (e : q = W6.heap.size) => by have := (World.ownsRow.lt ho3 q hq).1; omega)).wk (Nat.le_succ _))))); have HAP := hide hap; have HGe : Hid (W6.heap.size ≤ W6.heap.size) := Nat.le_refl _; have HBe := hide ((chain HAb.out hb7).trans (HFr.out.below (chain HAb.out hb7).size (fun q (e : q = W6.heap.size) => by omega))); clear ho0 ho1 ho2 ho3 hap hb7))
      all_goals go_wp2
      all_goals go_meet
      all_goals exact ⟨_, _, _, _, _, _, _, _, _, _, _, _, _, rfl, HBl, HOO, HGe, HAP, HBe⟩
  case rest =>
    obtain ⟨g1, a01, a11, a21, a31, m01, d01, m11, d11, m21, d21, m31, d31, rfl, HT1, HO1, HGe1, HAP1, H67⟩ := hcut
    clear q1 q2 q3 q4
    obtain ⟨W7, hW7⟩ : ∃ x, x = wc := ⟨_, rfl⟩
    subst hW7
    have HSM4 := hide (six_sm H6.out (by omega))
    have HT67 := hide (HT6.out.below H67.out (by simp [askC]))
    have HWO7 := hide (HWO6.out.below H67.out)
    have x0 : W7.cell? ⟨g1, 0, none⟩ = some (.int .u32 ((sumOf (sealOf l) : Nat) : Int)) := HT1.out.cell 0 _ rfl
    have x1 : W7.cell? ⟨g1, 1, none⟩ = some (.int .u32 ((moreOf mask (sealOf l) : Nat) : Int)) := HT1.out.cell 1 _ rfl
    have x2 : W7.cell? ⟨g1, 2, none⟩ = some (.int .u32 (M : Int)) := HT1.out.cell 2 _ rfl
    have x3 : W7.cell? ⟨g1, 3, none⟩ = some (.int .u32 0) := HT1.out.cell 3 _ rfl
    have x4 : W7.cell? ⟨g1, 4, none⟩ = some (.int .u32 0) := HT1.out.cell 4 _ rfl
    have x5 : W7.cell? ⟨g1, 5, none⟩ = some (.int .i64 (P : Int)) := HT1.out.cell 5 _ rfl
    have x6 : W7.cell? ⟨g1, 6, none⟩ = some ((.slice a01 m01 d01)) := HT1.out.cell 6 _ rfl
    have x7 : W7.cell? ⟨g1, 7, none⟩ = some ((.slice a11 m11 d11)) := HT1.out.cell 7 _ rfl
    have x8 : W7.cell? ⟨g1, 8, none⟩ = some ((.slice a21 m21 d21)) := HT1.out.cell 8 _ rfl
    have x9 : W7.cell? ⟨g1, 9, none⟩ = some ((.slice a31 m31 d31)) := HT1.out.cell 9 _ rfl
    have y0 : W7.cell? ⟨g10, 0, none⟩ = some (.int .u32 ((sumOf (sealOf l) : Nat) : Int)) := HT67.out.cell 0 _ rfl
    have y1 : W7.cell? ⟨g10, 1, none⟩ = some (.int .u32 ((moreOf mask (sealOf l) : Nat) : Int)) := HT67.out.cell 1 _ rfl
    have y2 : W7.cell? ⟨g10, 2, none⟩ = some (.int .u32 (M : Int)) := HT67.out.cell 2 _ rfl
    have y3 : W7.cell? ⟨g10, 3, none⟩ = some (.int .u32 0) := HT67.out.cell 3 _ rfl
    have y4 : W7.cell? ⟨g10, 4, none⟩ = some (.int .u32 0) := HT67.out.cell 4 _ rfl
    have y5 : W7.cell? ⟨g10, 5, none⟩ = some (.int .i64 (P : Int)) := HT67.out.cell 5 _ rfl
    have y6 : W7.cell? ⟨g10, 6, none⟩ = some ((.slice a0w m0w d0w)) := HT67.out.cell 6 _ rfl
    have y7 : W7.cell? ⟨g10, 7, none⟩ = some ((.slice a1w m1w d1w)) := HT67.out.cell 7 _ rfl
    have y8 : W7.cell? ⟨g10, 8, none⟩ = some ((.slice a2w m2w d2w)) := HT67.out.cell 8 _ rfl
    have y9 : W7.cell? ⟨g10, 9, none⟩ = some ((.slice a3w m3w d3w)) := HT67.out.cell 9 _ rfl
    have HLK := hide (like_own (sumOf (sealOf l)) (moreOf mask (sealOf l)) M (P : Int) _ _ _ _ _ _ _ _ HO1.out HWO7.out HSM4.out)
    go_wp2_with fail
    clear x0 x1 x2 x3 x4 x5 x6 x7 x8 x9 y0 y1 y2 y3 y4 y5 y6 y7 y8 y9
    refine Calls.mono HLK.out ?_
    rintro e W8 ⟨rfl, hb8⟩
    have H68 := hide (chain H67.out hb8)
    have H78 := hide hb8
    have HASK8 : Hid (∀ wx, Below W8.heap.size W8 wx → Calls Tryd.prog 13 #[.slice (some ⟨gx, 0, none⟩) n4 cx, .slice (some ⟨gy, 0, none⟩) len cy, .int .i64 pos, .int .u32 (mask : Int)] wx fun e w' => Asked wx (sealOf l) mask o t p P M e w') := fun wx hx => HASK.out wx (chain H68.out hx)
    clear hb8 HLK HASK HT67 HWO7
    have HASK := hide HASK8.out
    clear HASK8
    go_upto_region 10 with fail
    have q1 : n4 ≤ cx := by have := HXc.out; omega
    have q2 : (n4 : Int) ≤ (cx : Int) := by omega
    have q3 : len ≤ cy := by have := HYc.out; omega
    have q4 : (len : Int) ≤ (cy : Int) := by omega
    go_cut [12] from 19 (fun v wx => ∃ (g2 : Nat) (a02 a12 a22 a32 : Option Addr) (m02 d02 m12 d12 m22 d22 m32 d32 : Nat), v = .pointer (some ⟨g2, 0, none⟩) ∧ Hid (Bl wx g2 (askC (sumOf (sealOf l)) (moreOf mask (sealOf l)) M (P : Int) (.slice a02 m02 d02) (.slice a12 m12 d12) (.slice a22 m22 d22) (.slice a32 m32 d32))) ∧ Hid (Four wx W8.heap.size (.slice a02 m02 d02) (.slice a12 m12 d12) (.slice a22 m22 d22) (.slice a32 m32 d32) (sealOf (sealOf l)) o t p) ∧ Hid (W8.heap.size ≤ g2) ∧ Hid (Ap4 (.slice a02 m02 d02) (.slice a12 m12 d12) (.slice a22 m22 d22) (.slice a32 m32 d32)) ∧ Hid (Below W8.heap.size W8 wx))
    case first =>
      as_aux_lemma =>
        have HD0 : Hid (Below W8.heap.size W8 W8.drew) := (Below.refl _ _).drew
        have HAb : Hid (Below W8.heap.size W8 ((W8.alloc (.cells #[.int .u32 0, .int .u32 0, .int .u32 0, .int .u32 0, .int .u32 0, .int .i64 0, .slice none 0 0, .slice none 0 0, .slice none 0 0, .slice none 0 0] 29)).drew)) := ((Below.refl _ _).alloc (Nat.le_refl _) _).drew
        have HLb : Hid (Bl ((W8.alloc (.cells #[.int .u32 0, .int .u32 0, .int .u32 0, .int .u32 0, .int .u32 0, .int .i64 0, .slice none 0 0, .slice none 0 0, .slice none 0 0, .slice none 0 0] 29)).drew) W8.heap.size (#[.int .u32 0, .int .u32 0, .int .u32 0, .int .u32 0, .int .u32 0, .int .i64 0, .slice none 0 0, .slice none 0 0, .slice none 0 0, .slice none 0 0] : Array Value).toList) := (bl_alloc W8 #[.int .u32 0, .int .u32 0, .int .u32 0, .int .u32 0, .int .u32 0, .int .i64 0, .slice none 0 0, .slice none 0 0, .slice none 0 0, .slice none 0 0] 29).below (Below.refl _ _).drew (by simp)
        have HSb : Hid (((W8.alloc (.cells #[.int .u32 0, .int .u32 0, .int .u32 0, .int .u32 0, .int .u32 0, .int .i64 0, .slice none 0 0, .slice none 0 0, .slice none 0 0, .slice none 0 0] 29)).drew).heap.size = W8.heap.size + 1) := by unfold Hid; simp
        go_region_held3 (fun wz => True) (exact True.intro)
          (first
            | (go_at_call 13; refine (HASK.out W8.drew HD0.out).mono ?_; rintro e w7 ⟨v0, v1, v2, v3, rfl, ho0, ho1, ho2, ho3, hap, hb7⟩; obtain ⟨a02, m02, d02, rfl⟩ := ho0.sl; obtain ⟨a12, m12, d12, rfl⟩ := ho1.sl; obtain ⟨a22, m22, d22, rfl⟩ := ho2.sl; obtain ⟨a32, m32, d32, rfl⟩ := ho3.sl; have hst := ask_store (bl_alloc w7 #[.int .u32 0, .int .u32 0, .int .u32 0, .int .u32 0, .int .u32 0, .int .i64 0, .slice none 0 0, .slice none 0 0, .slice none 0 0, .slice none 0 0] 29) rfl (sumOf (sealOf l)) (moreOf mask (sealOf l)) M (P : Int) a02 a12 a22 a32 m02 d02 m12 d12 m22 d22 m32 d32; have HBl := hide (bl_setCells (vs := (askC (sumOf (sealOf l)) (moreOf mask (sealOf l)) M (P : Int) (.slice a02 m02 d02) (.slice a12 m12 d12) (.slice a22 m22 d22) (.slice a32 m32 d32))) (bl_alloc w7 #[.int .u32 0, .int .u32 0, .int .u32 0, .int .u32 0, .int .u32 0, .int .i64 0, .slice none 0 0, .slice none 0 0, .slice none 0 0, .slice none 0 0] 29) rfl); have HFr := hide ((Frm.ofBelow (S := fun k => k = w7.heap.size) ((Below.refl w7.heap.size w7).alloc (Nat.le_refl _) (.cells #[.int .u32 0, .int .u32 0, .int .u32 0, .int .u32 0, .int .u32 0, .int .i64 0, .slice none 0 0, .slice none 0 0, .slice none 0 0, .slice none 0 0] 29))).trans (frm_setCells w7.heap.size (askC (sumOf (sealOf l)) (moreOf mask (sealOf l)) M (P : Int) (.slice a02 m02 d02) (.slice a12 m12 d12) (.slice a22 m22 d22) (.slice a32 m32 d32)) 0 _) (fun _ _ t => t)); have HOO := hide (And.intro (ho0.frm HFr.out (fun q hq (e : q = w7.heap.size) => by have := (World.ownsRow.lt ho0 q hq).2; omega)) (And.intro (ho1.frm HFr.out (fun q hq (e : q = w7.heap.size) => by have := (World.ownsRow.lt ho1 q hq).2; omega)) (And.intro (ho2.frm HFr.out (fun q hq (e : q = w7.heap.size) => by have := (World.ownsRow.lt ho2 q hq).2; omega)) (ho3.frm HFr.out (fun q hq (e : q = w7.heap.size) => by have := (World.ownsRow.lt ho3 q hq).2; omega))))); have HAP := hide hap; have HGe : Hid (W8.heap.size ≤ w7.heap.size) := (chain HD0.out hb7).size; have HBe := hide ((chain HD0.out hb7).trans (HFr.out.below (chain HD0.out hb7).size (fun q (e : q = w7.heap.size) => by have := (chain HD0.out hb7).size; omega))); clear ho0 ho1 ho2 ho3 hap hb7)
            | (go_at_call 13; refine (HASK.out ((W8.alloc (.cells #[.int .u32 0, .int .u32 0, .int .u32 0, .int .u32 0, .int .u32 0, .int .i64 0, .slice none 0 0, .slice none 0 0, .slice none 0 0, .slice none 0 0] 29)).drew) HAb.out).mono ?_; rintro e w7 ⟨v0, v1, v2, v3, rfl, ho0, ho1, ho2, ho3, hap, hb7⟩; obtain ⟨a02, m02, d02, rfl⟩ := ho0.sl; obtain ⟨a12, m12, d12, rfl⟩ := ho1.sl; obtain ⟨a22, m22, d22, rfl⟩ := ho2.sl; obtain ⟨a32, m32, d32, rfl⟩ := ho3.sl; rw [HSb.out] at ho0 ho1 ho2 ho3; have hst := ask_store (HLb.out.below hb7 (by simp)) rfl (sumOf (sealOf l)) (moreOf mask (sealOf l)) M (P : Int) a02 a12 a22 a32 m02 d02 m12 d12 m22 d22 m32 d32; have HBl := hide (bl_setCells (vs := (askC (sumOf (sealOf l)) (moreOf mask (sealOf l)) M (P : Int) (.slice a02 m02 d02) (.slice a12 m12 d12) (.slice a22 m22 d22) (.slice a32 m32 d32))) (HLb.out.below hb7 (by simp)) rfl); have HFr := hide (frm_setCells W8.heap.size (askC (sumOf (sealOf l)) (moreOf mask (sealOf l)) M (P : Int) (.slice a02 m02 d02) (.slice a12 m12 d12) (.slice a22 m22 d22) (.slice a32 m32 d32)) 0 w7); have HOO := hide (And.intro ((ho0.frm HFr.out (fun q hq (e : q = W8.heap.size) => by have := (World.ownsRow.lt ho0 q hq).1; omega)).wk (Nat.le_succ _)) (And.intro ((ho1.frm HFr.out (fun q hq (e : q = W8.heap.size) => by have := (World.ownsRow.lt ho1 q hq).1; omega)).wk (Nat.le_succ _)) (And.intro ((ho2.frm HFr.out (fun q hq (e : q = W8.heap.size) => by have := (World.ownsRow.lt ho2 q hq).1; omega)).wk (Nat.le_succ _)) ((ho3.frm HFr.out (fun q hq (e : q = W8.heap.size) => by have := (World.ownsRow.lt ho3 q hq).1; omega)).wk (Nat.le_succ _))))); have HAP := hide hap; have HGe : Hid (W8.heap.size ≤ W8.heap.size) := Nat.le_refl _; have HBe := hide ((chain HAb.out hb7).trans (HFr.out.below (chain HAb.out hb7).size (fun q (e : q = W8.heap.size) => by omega))); clear ho0 ho1 ho2 ho3 hap hb7))
        all_goals go_wp2
        all_goals go_meet
        all_goals exact ⟨_, _, _, _, _, _, _, _, _, _, _, _, _, rfl, HBl, HOO, HGe, HAP, HBe⟩
    case rest =>
      obtain ⟨g2, a02, a12, a22, a32, m02, d02, m12, d12, m22, d22, m32, d32, rfl, HT2, HO2, HGe2, HAP2, H8A⟩ := hcut
      clear q1 q2 q3 q4 HASK
      obtain ⟨W10, hW10⟩ : ∃ x, x = wc := ⟨_, rfl⟩
      subst hW10
      have H7A := hide (chain H78.out H8A.out)
      have H6A := hide (chain H68.out H8A.out)
      have HT1A := hide (HT1.out.below H7A.out (by simp [askC]))
      have HO1A := hide (HO1.out.below H7A.out)
      have HT6A := hide (HT6.out.below H6A.out (by simp [askC]))
      have HWOA := hide (HWO6.out.below H6A.out)
      have x0 : W10.cell? ⟨g1, 0, none⟩ = some (.int .u32 ((sumOf (sealOf l) : Nat) : Int)) := HT1A.out.cell 0 _ rfl
      have x1 : W10.cell? ⟨g1, 1, none⟩ = some (.int .u32 ((moreOf mask (sealOf l) : Nat) : Int)) := HT1A.out.cell 1 _ rfl
      have x2 : W10.cell? ⟨g1, 2, none⟩ = some (.int .u32 (M : Int)) := HT1A.out.cell 2 _ rfl
      have x3 : W10.cell? ⟨g1, 3, none⟩ = some (.int .u32 0) := HT1A.out.cell 3 _ rfl
      have x4 : W10.cell? ⟨g1, 4, none⟩ = some (.int .u32 0) := HT1A.out.cell 4 _ rfl
      have x5 : W10.cell? ⟨g1, 5, none⟩ = some (.int .i64 (P : Int)) := HT1A.out.cell 5 _ rfl
      have x6 : W10.cell? ⟨g1, 6, none⟩ = some ((.slice a01 m01 d01)) := HT1A.out.cell 6 _ rfl
      have x7 : W10.cell? ⟨g1, 7, none⟩ = some ((.slice a11 m11 d11)) := HT1A.out.cell 7 _ rfl
      have x8 : W10.cell? ⟨g1, 8, none⟩ = some ((.slice a21 m21 d21)) := HT1A.out.cell 8 _ rfl
      have x9 : W10.cell? ⟨g1, 9, none⟩ = some ((.slice a31 m31 d31)) := HT1A.out.cell 9 _ rfl
      have y0 : W10.cell? ⟨g10, 0, none⟩ = some (.int .u32 ((sumOf (sealOf l) : Nat) : Int)) := HT6A.out.cell 0 _ rfl
      have y1 : W10.cell? ⟨g10, 1, none⟩ = some (.int .u32 ((moreOf mask (sealOf l) : Nat) : Int)) := HT6A.out.cell 1 _ rfl
      have y2 : W10.cell? ⟨g10, 2, none⟩ = some (.int .u32 (M : Int)) := HT6A.out.cell 2 _ rfl
      have y3 : W10.cell? ⟨g10, 3, none⟩ = some (.int .u32 0) := HT6A.out.cell 3 _ rfl
      have y4 : W10.cell? ⟨g10, 4, none⟩ = some (.int .u32 0) := HT6A.out.cell 4 _ rfl
      have y5 : W10.cell? ⟨g10, 5, none⟩ = some (.int .i64 (P : Int)) := HT6A.out.cell 5 _ rfl
      have y6 : W10.cell? ⟨g10, 6, none⟩ = some ((.slice a0w m0w d0w)) := HT6A.out.cell 6 _ rfl
      have y7 : W10.cell? ⟨g10, 7, none⟩ = some ((.slice a1w m1w d1w)) := HT6A.out.cell 7 _ rfl
      have y8 : W10.cell? ⟨g10, 8, none⟩ = some ((.slice a2w m2w d2w)) := HT6A.out.cell 8 _ rfl
      have y9 : W10.cell? ⟨g10, 9, none⟩ = some ((.slice a3w m3w d3w)) := HT6A.out.cell 9 _ rfl
      have HLK := hide (like_own (sumOf (sealOf l)) (moreOf mask (sealOf l)) M (P : Int) _ _ _ _ _ _ _ _ HO1A.out HWOA.out HSM4.out)
      go_wp2_with fail
      clear x0 x1 x2 x3 x4 x5 x6 x7 x8 x9 y0 y1 y2 y3 y4 y5 y6 y7 y8 y9
      refine Calls.mono HLK.out ?_
      rintro e w11 ⟨rfl, hb11⟩
      have HAB := hide hb11
      have HT2B := hide (HT2.out.below hb11 (by simp [askC]))
      have HO2B := hide (HO2.out.below hb11)
      have HT6B := hide (HT6A.out.below hb11 (by simp [askC]))
      have HWOB := hide (HWOA.out.below hb11)
      clear hb11 HLK
      have x0 : w11.cell? ⟨g2, 0, none⟩ = some (.int .u32 ((sumOf (sealOf l) : Nat) : Int)) := HT2B.out.cell 0 _ rfl
      have x1 : w11.cell? ⟨g2, 1, none⟩ = some (.int .u32 ((moreOf mask (sealOf l) : Nat) : Int)) := HT2B.out.cell 1 _ rfl
      have x2 : w11.cell? ⟨g2, 2, none⟩ = some (.int .u32 (M : Int)) := HT2B.out.cell 2 _ rfl
      have x3 : w11.cell? ⟨g2, 3, none⟩ = some (.int .u32 0) := HT2B.out.cell 3 _ rfl
      have x4 : w11.cell? ⟨g2, 4, none⟩ = some (.int .u32 0) := HT2B.out.cell 4 _ rfl
      have x5 : w11.cell? ⟨g2, 5, none⟩ = some (.int .i64 (P : Int)) := HT2B.out.cell 5 _ rfl
      have x6 : w11.cell? ⟨g2, 6, none⟩ = some ((.slice a02 m02 d02)) := HT2B.out.cell 6 _ rfl
      have x7 : w11.cell? ⟨g2, 7, none⟩ = some ((.slice a12 m12 d12)) := HT2B.out.cell 7 _ rfl
      have x8 : w11.cell? ⟨g2, 8, none⟩ = some ((.slice a22 m22 d22)) := HT2B.out.cell 8 _ rfl
      have x9 : w11.cell? ⟨g2, 9, none⟩ = some ((.slice a32 m32 d32)) := HT2B.out.cell 9 _ rfl
      have y0 : w11.cell? ⟨g10, 0, none⟩ = some (.int .u32 ((sumOf (sealOf l) : Nat) : Int)) := HT6B.out.cell 0 _ rfl
      have y1 : w11.cell? ⟨g10, 1, none⟩ = some (.int .u32 ((moreOf mask (sealOf l) : Nat) : Int)) := HT6B.out.cell 1 _ rfl
      have y2 : w11.cell? ⟨g10, 2, none⟩ = some (.int .u32 (M : Int)) := HT6B.out.cell 2 _ rfl
      have y3 : w11.cell? ⟨g10, 3, none⟩ = some (.int .u32 0) := HT6B.out.cell 3 _ rfl
      have y4 : w11.cell? ⟨g10, 4, none⟩ = some (.int .u32 0) := HT6B.out.cell 4 _ rfl
      have y5 : w11.cell? ⟨g10, 5, none⟩ = some (.int .i64 (P : Int)) := HT6B.out.cell 5 _ rfl
      have y6 : w11.cell? ⟨g10, 6, none⟩ = some ((.slice a0w m0w d0w)) := HT6B.out.cell 6 _ rfl
      have y7 : w11.cell? ⟨g10, 7, none⟩ = some ((.slice a1w m1w d1w)) := HT6B.out.cell 7 _ rfl
      have y8 : w11.cell? ⟨g10, 8, none⟩ = some ((.slice a2w m2w d2w)) := HT6B.out.cell 8 _ rfl
      have y9 : w11.cell? ⟨g10, 9, none⟩ = some ((.slice a3w m3w d3w)) := HT6B.out.cell 9 _ rfl
      have HLK := hide (like_own (sumOf (sealOf l)) (moreOf mask (sealOf l)) M (P : Int) _ _ _ _ _ _ _ _ HO2B.out HWOB.out HSM4.out)
      go_wp2_with fail
      clear x0 x1 x2 x3 x4 x5 x6 x7 x8 x9 y0 y1 y2 y3 y4 y5 y6 y7 y8 y9
      refine Calls.mono HLK.out ?_
      rintro e w12 ⟨rfl, hb12⟩
      have HAC := hide (chain HAB.out hb12)
      clear hb12 HLK HT2B HO2B HT6B HWOB
      have H6C := hide (chain H6A.out HAC.out)
      go_wp2_with fail
      refine Calls.mono (HRC.out _ _ _ _ w12 (HBb6.out.below H6C.out) (by omega)) ?_
      rintro e w13 ⟨gr, cr, rfl, ho13, hb13⟩
      have HAD := hide (chain HAC.out hb13)
      have H6D := hide (chain H6A.out HAD.out)
      have HQ := hide (equal_any (some ⟨gx, 0, none⟩) (some ⟨gr, 0, none⟩) (n4 + 80) cx (n4 + 80) cr (sealOf l ++ spare) (sealOf l ++ spare) w13 ((HX6.out.below H6D.out).bts HXl.out.1 (by omega) HXl.out.2) (ho13.bts HXl.out.1 (by omega) HXl.out.2))
      rw [show decide (sealOf l ++ spare = sealOf l ++ spare) = true by simp] at HQ
      clear ho13 hb13
      go_wp2_with fail
      refine Calls.mono HQ.out ?_
      rintro e w14 ⟨rfl, hb14⟩
      have HAE := hide (chain HAD.out hb14)
      have H6E := hide (chain H6A.out HAE.out)
      clear hb14 HQ
      go_wp2_with fail
      refine Calls.mono (HRC.out _ _ _ _ w14 (HS.out.below (chain HB6.out H6E.out)) (by omega)) ?_
      rintro e w15 ⟨gr2, cr2, rfl, ho15, hb15⟩
      have HAF := hide (chain HAE.out hb15)
      have H6F := hide (chain H6A.out HAF.out)
      have HQ := hide (equal_any (some ⟨gy, 0, none⟩) (some ⟨gr2, 0, none⟩) (len + 80) cy (len + 80) cr2 (l ++ spare) (l ++ spare) w15 ((HY6.out.below H6F.out).bts HYl.out.1 (by omega) HYl.out.2) (ho15.bts HYl.out.1 (by omega) HYl.out.2))
      rw [show decide (l ++ spare = l ++ spare) = true by simp] at HQ
      clear ho15 hb15
      go_wp2_with fail
      refine Calls.mono HQ.out ?_
      rintro e w16 ⟨rfl, hb16⟩
      have HAG := hide (chain HAF.out hb16)
      have H6G := hide (chain H6A.out HAG.out)
      clear hb16 HQ HAB HAC HAD HAE HAF H6C H6D H6E H6F
      have HOe := hide (own_empty w16)
      have HAe : Hid (Below w16.heap.size w16 (w16.alloc (.cells #[] 5))) := (Below.refl _ _).alloc (Nat.le_refl _) _
      have HBbe := hide (HBb6.out.below (chain H6G.out HAe.out))
      have HZL : Hid (([] : List Nat).length + n4 ≤ 140737488355328) := by unfold Hid; simp; omega
      go_wp2_with (refine append_lie rfl (.tmp 82) (.tmp 83) rfl w16.heap.size (.slice (some ⟨w16.heap.size, 0, none⟩) 0 0) [] rfl HOe.out (some ⟨gb, 0, none⟩) n4 cb (sealOf l) rfl HBbe.out HZL.out HAe.out.size ?_; intro vc w17 ho hf hq; rw [List.nil_append] at ho; have HOc := hide ho; have HBc := hide (HAe.out.trans (hf.below HAe.out.size (fun j e => (World.ownsRow.lt HOe.out j e).1))); clear ho hf hq)
      obtain ⟨gc, cc, ec, hgc, _⟩ := own_some HOc.out HSL.out.1 (by have := HN4.out; omega)
      subst ec
      have HGC : Hid (w16.heap.size ≤ gc ∧ gc < w17.heap.size) := World.ownsRow.lt HOc.out gc rfl
      have HAH := hide (chain HAG.out HBc.out)
      have H6H := hide (chain H6A.out HAH.out)
      have HX17 := hide (HX6.out.below H6H.out)
      have HB17 := hide (HBb6.out.below H6H.out)
      have HZs : Hid (W6.heap.size ≤ W7.heap.size ∧ W7.heap.size ≤ W8.heap.size ∧ W8.heap.size ≤ W10.heap.size ∧ W10.heap.size ≤ w16.heap.size ∧ w16.heap.size ≤ w17.heap.size) := ⟨H67.out.size, H78.out.size, H8A.out.size, HAG.out.size, HBc.out.size⟩
      clear hgc HOe HAe HBbe HZL HBc
      go_loopw [14] (fun i wr => ∃ (q : Nat) (C : List Nat), q ≤ n4 ∧ i = .int .i64 (q : Int) ∧ Hid (C.length = n4 ∧ ∀ x ∈ C, x < 256) ∧ Hid (Own wr w16.heap.size (.slice (some ⟨gc, 0, none⟩) n4 cc) C) ∧ Hid (Own wr w2.heap.size (.slice (some ⟨gx, 0, none⟩) (n4 + 80) cx) (C ++ spare)) ∧ Hid (Frm (fun k => k = gx ∨ k = gc) w17 wr)) (fun i _ => n4 - (intOf i).toNat)
      case atStart => exact ⟨0, sealOf l, by omega, rfl, HSL, HOc, HX17, Frm.refl _ _⟩
      case round =>
        obtain ⟨q, C, hq, rfl, HC, HCc, HCx, HF⟩ := hrel
        have hne : gx ≠ gc := by have h1 := HG6.out; have h2 := HGC.out; have h3 := HZs.out; omega
        by_cases hqn : q < n4
        · --
          as_aux_lemma =>
            have HNE := hide hne
            obtain ⟨b', off', hb', yb, hyb, hcb⟩ := HB17.out.cell q hqn
            simp only [Option.some.injEq, Addr.mk.injEq, and_true] at hb'
            obtain ⟨rfl, rfl⟩ := hb'
            have hyb2 : yb < 256 := HSL.out.2 yb (List.mem_of_getElem? hyb)
            have kb : wr.cell? ⟨gb, q, none⟩ = some (.int .u8 (yb : Int)) := by
              have h1 := HF.out.cell hcb (fun e => by have h1 := HG6.out; have h2 := HGC.out; have h3 := HZs.out; rcases e with e | e <;> (have e : gb = _ := e; omega))
              rw [Nat.zero_add] at h1
              exact h1
            obtain ⟨yc, hyc⟩ : ∃ y, C[q]? = some y := ⟨_, List.getElem?_eq_getElem (by rw [HC.out.1]; exact hqn)⟩
            have kc := HCc.out.cellAt HC.out.1 q yc hyc
            have fc := HCc.out.frozenAt HC.out.1 q
            obtain ⟨A, hA⟩ : ∃ A, 3 * q = A := ⟨_, rfl⟩
            obtain ⟨B1, hB1⟩ : ∃ B1, A % 256 = B1 := ⟨_, rfl⟩
            have e1 : 3 * (q : Int) = (A : Int) := by omega
            have e1w : IntKind.i64.wrap (A : Int) = (A : Int) := by rw [IntKind.wrap_i64]; omega
            have e2 : IntKind.u8.wrap (A : Int) = (B1 : Int) := by rw [IntKind.wrap_u8]; omega
            obtain ⟨z, hz, e3⟩ := xor_u8 B1 yb (by omega) hyb2
            have HZ := hide hz
            have HLx : Hid ((C ++ spare).length = n4 + 80) := by unfold Hid; rw [List.length_append, HC.out.1, spare_len]
            have HCc2 := hide (HCc.out.stored HC.out.1 q z)
            have HCx2 := hide (HCx.out.frm (frm_setCell wr ⟨gc, q, none⟩ (.int .u8 (z : Int))) (fun k hk (e : k = gc) => by have hk : some gx = some k := hk; simp only [Option.some.injEq] at hk; exact HNE.out (by omega)))
            have kc2 : (wr.setCell ⟨gc, q, none⟩ (.int .u8 (z : Int))).cell? ⟨gc, q, none⟩ = some (.int .u8 (z : Int)) := World.cell?_setCell_same _ _ _ kc
            obtain ⟨yx, hyx⟩ : ∃ y, (C ++ spare)[q]? = some y := ⟨_, List.getElem?_eq_getElem (by rw [HLx.out]; omega)⟩
            have kx2 := HCx2.out.cellAt HLx.out q yx hyx
            have fx2 := HCx2.out.frozenAt HLx.out q
            have HCx3 := hide (HCx2.out.stored HLx.out q z)
            have HCc3 := hide (HCc2.out.frm (frm_setCell (wr.setCell ⟨gc, q, none⟩ (.int .u8 (z : Int))) ⟨gx, q, none⟩ (.int .u8 (z : Int))) (fun k hk (e : k = gx) => by have hk : some gc = some k := hk; simp only [Option.some.injEq] at hk; exact HNE.out (by omega)))
            have HST : Hid ((C ++ spare).set q z = C.set q z ++ spare) := by unfold Hid; rw [List.set_append_left _ _ (by rw [HC.out.1]; exact hqn)]
            rw [HST.out] at HCx3
            clear hcb hyb hyc hyx hA hB1 hne
            go_wp2
            refine ⟨⟨q + 1, C.set q z, by omega, by first | rfl | simp, ?_, HCc3, HCx3, ?_⟩, by simp [intOf]; omega⟩
            · refine ⟨by rw [List.length_set]; exact HC.out.1, fun x hx => ?_⟩
              rcases List.mem_or_eq_of_mem_set hx with h | rfl
              · exact HC.out.2 x h
              · exact HZ.out
            · exact (HF.out.trans (frm_setCell wr ⟨gc, q, none⟩ (.int .u8 (z : Int))) (fun _ _ (t : _ = gc) => .inr t)).trans (frm_setCell _ ⟨gx, q, none⟩ (.int .u8 (z : Int))) (fun _ _ (t : _ = gx) => .inl t)
        · obtain rfl : n4 = q := by omega
          obtain ⟨W15, hW15⟩ : ∃ x, x = wr := ⟨_, rfl⟩
          subst hW15
          clear hq hqn
          have HNE := hide hne
          clear hne
          have HN1 : Hid (W6.heap.size ≤ g1 ∧ g1 < W7.heap.size) := ⟨HGe1.out, block_lt_of_cell (HT1.out.cell 0 _ rfl)⟩
          have HN2 : Hid (W8.heap.size ≤ g2 ∧ g2 < W10.heap.size) := ⟨HGe2.out, block_lt_of_cell (HT2.out.cell 0 _ rfl)⟩
          have HFA := hide ((Frm.ofBelow (S := fun k => k = gx ∨ k = gc) HAH.out).trans HF.out (fun _ _ t => t))
          have HF7 := hide ((Frm.ofBelow (S := fun k => k = gx ∨ k = gc) H7A.out).trans HFA.out (fun _ _ t => t))
          have HF6 := hide ((Frm.ofBelow (S := fun k => k = gx ∨ k = gc) H6A.out).trans HFA.out (fun _ _ t => t))
          have HT6F := hide (HT6.out.frm HF6.out (fun e => by have h1 := HG6.out; have h2 := HGC.out; have h3 := HZs.out; have h4 := HG10.out; rcases e with e | e <;> omega) (by simp [askC]))
          have HWOF := hide (HWO6.out.frm HF6.out (fun k h5 h6 e => by have h1 := HG6.out; have h2 := HGC.out; have h3 := HZs.out; rcases e with e | e <;> omega))
          have HT1F := hide (HT1.out.frm HF7.out (fun e => by have h1 := HG6.out; have h2 := HGC.out; have h3 := HZs.out; have h4 := HN1.out; rcases e with e | e <;> omega) (by simp [askC]))
          have HO1F := hide (HO1.out.frm HF7.out (fun k h5 h6 e => by have h1 := HG6.out; have h2 := HGC.out; have h3 := HZs.out; rcases e with e | e <;> omega))
          have HT2F := hide (HT2.out.frm HFA.out (fun e => by have h1 := HG6.out; have h2 := HGC.out; have h3 := HZs.out; have h4 := HN2.out; rcases e with e | e <;> omega) (by simp [askC]))
          have HO2F := hide (HO2.out.frm HFA.out (fun k h5 h6 e => by have h1 := HG6.out; have h2 := HGC.out; have h3 := HZs.out; rcases e with e | e <;> omega))
          have HYF := hide (HY6.out.frm HF6.out (fun k hk e => by have hk : some gy = some k := hk; simp only [Option.some.injEq] at hk; have h1 := HG6.out; have h2 := HGC.out; have h3 := HZs.out; rcases e with e | e <;> omega))
          have HBWF := hide (HB6.out.trans (HF6.out.below (B := w.heap.size) HB6.out.size (fun k e => by have h1 := HG6.out; have h2 := HGC.out; have h3 := HZs.out; have h4 := HB1.out.size; rcases e with e | e <;> omega)))
          have HZ15 : Hid (w17.heap.size ≤ W15.heap.size) := HF.out.size
          have HR1 : Hid (∀ k, W6.heap.size ≤ k → k < W7.heap.size → k ≠ gc) := fun k h1 h2 e => by have h3 := HGC.out; have h4 := HZs.out; omega
          have HRO1 : Hid (Four W7 W6.heap.size (.slice a01 m01 d01) (.slice a11 m11 d11) (.slice a21 m21 d21) (.slice a31 m31 d31) (sealOf (sealOf l)) o t p) := HO1.out
          have HRO2 : Hid (Four W10 W8.heap.size (.slice a02 m02 d02) (.slice a12 m12 d12) (.slice a22 m22 d22) (.slice a32 m32 d32) (sealOf (sealOf l)) o t p) := HO2.out
          clear HT6 HWO6 HT1 HO1 HT2 HO2 HY6 HX6 HXb HYb HBb6 HB17 HX17 HT1A HO1A HT6A HWOA HF6 HF7 HFA HF H67 H78 H68 H8A H7A H6A HAG H6G HAH H6H HOc HGe1 HGe2 HB6
          obtain ⟨o2, t2, p2, P2, M2, hsix2⟩ := six_ex (l := C) (r := l) (n := n4) (m := len) HC.out.1 HC.out.2 HL.out HS.out.small (by omega) pos mask hm
          have H62 := hide hsix2
          have HSM42 := hide (six_sm hsix2 (by omega))
          clear hsix2
          go_wp2_with fail
          refine Calls.mono (want_any (some ⟨gc, 0, none⟩) n4 cc C a len cap l pos mask o2 t2 p2 P2 M2 W15 H62.out (HCc.out.bts HC.out.1 (by omega) HC.out.2) (HS.out.below HBWF.out) (by omega) hm) ?_
          rintro e w18 ⟨v0, v1, v2, v3, rfl, ho0, ho1, ho2, ho3, _, hb18⟩
          obtain ⟨a0v, m0v, d0v, rfl⟩ := ho0.sl
          obtain ⟨a1v, m1v, d1v, rfl⟩ := ho1.sl
          obtain ⟨a2v, m2v, d2v, rfl⟩ := ho2.sl
          obtain ⟨a3v, m3v, d3v, rfl⟩ := ho3.sl
          have HVO18 : Hid (Four w18 W15.heap.size (.slice a0v m0v d0v) (.slice a1v m1v d1v) (.slice a2v m2v d2v) (.slice a3v m3v d3v) (sealOf C) o2 t2 p2) := ⟨ho0, ho1, ho2, ho3⟩
          have HA18 : Hid (Below w18.heap.size w18 (w18.alloc (.cells #[.int .u32 0, .int .u32 0, .int .u32 0, .int .u32 0, .int .u32 0, .int .i64 0, .slice none 0 0, .slice none 0 0, .slice none 0 0, .slice none 0 0] 29))) := (Below.refl _ _).alloc (Nat.le_refl _) _
          have hst := ask_store (bl_alloc w18 #[.int .u32 0, .int .u32 0, .int .u32 0, .int .u32 0, .int .u32 0, .int .i64 0, .slice none 0 0, .slice none 0 0, .slice none 0 0, .slice none 0 0] 29) rfl (sumOf C) (moreOf mask C) M2 (P2 : Int) a0v a1v a2v a3v m0v d0v m1v d1v m2v d2v m3v d3v
          have HTv := hide (bl_setCells (vs := (askC (sumOf C) (moreOf mask C) M2 (P2 : Int) (.slice a0v m0v d0v) (.slice a1v m1v d1v) (.slice a2v m2v d2v) (.slice a3v m3v d3v))) (bl_alloc w18 #[.int .u32 0, .int .u32 0, .int .u32 0, .int .u32 0, .int .u32 0, .int .i64 0, .slice none 0 0, .slice none 0 0, .slice none 0 0, .slice none 0 0] 29) rfl)
          have HFr := hide ((Frm.ofBelow (S := fun k => k = w18.heap.size) HA18.out).trans (frm_setCells w18.heap.size (askC (sumOf C) (moreOf mask C) M2 (P2 : Int) (.slice a0v m0v d0v) (.slice a1v m1v d1v) (.slice a2v m2v d2v) (.slice a3v m3v d3v)) 0 _) (fun _ _ t => t))
          have H1819 := hide (HFr.out.below (B := w18.heap.size) (Nat.le_refl _) (fun q (e : q = w18.heap.size) => by omega))
          have H1519 := hide (chain hb18 H1819.out)
          have HVO19 := hide (HVO18.out.below H1819.out)
          clear ho0 ho1 ho2 ho3 hb18 HA18 HFr HVO18
          go_upto_region 20 with fail
          clear hst
          generalize ((w18.alloc (.cells #[.int .u32 0, .int .u32 0, .int .u32 0, .int .u32 0, .int .u32 0, .int .i64 0, .slice none 0 0, .slice none 0 0, .slice none 0 0, .slice none 0 0] 29)).setCells w18.heap.size 0 (askC (sumOf C) (moreOf mask C) M2 (P2 : Int) (.slice a0v m0v d0v) (.slice a1v m1v d1v) (.slice a2v m2v d2v) (.slice a3v m3v d3v))) = W19 at *
          clear H1819
          generalize w18.heap.size = g15 at *
          have HXl2 : Hid ((C ++ spare).length = n4 + 80 ∧ ∀ c ∈ C ++ spare, c < 256) := ⟨by rw [List.length_append, HC.out.1, spare_len], fun c hc => by rcases List.mem_append.1 hc with h | h; exact HC.out.2 c h; exact spare_small c h⟩
          have HX19 := hide (HCx.out.below H1519.out)
          have HXb : Hid (Bts W19 (some ⟨gx, 0, none⟩) n4 cx C) := by
            have h1 := (HX19.out.bts HXl2.out.1 (by omega) HXl2.out.2).take n4 (by omega)
            rw [List.take_append_of_le_length (by rw [HC.out.1]; exact Nat.le_refl _), List.take_of_length_le (by rw [HC.out.1]; exact Nat.le_refl _)] at h1
            exact h1
          have HYb : Hid (Bts W19 (some ⟨gy, 0, none⟩) len cy l) := by
            have h1 := ((HYF.out.below H1519.out).bts HYl.out.1 (by omega) HYl.out.2).take len (by omega)
            rw [List.take_append_of_le_length (by rw [HL.out]; exact Nat.le_refl _), List.take_of_length_le (by rw [HL.out]; exact Nat.le_refl _)] at h1
            exact h1
          have HASK : Hid (∀ wx, Below W19.heap.size W19 wx → Calls Tryd.prog 13 #[.slice (some ⟨gx, 0, none⟩) n4 cx, .slice (some ⟨gy, 0, none⟩) len cy, .int .i64 pos, .int .u32 (mask : Int)] wx fun e w' => Asked wx C mask o2 t2 p2 P2 M2 e w') := fun wx hx => ask_any (some ⟨gx, 0, none⟩) n4 cx C (some ⟨gy, 0, none⟩) len cy l pos mask o2 t2 p2 P2 M2 wx H62.out (HE.out.below (chain HBWF.out (chain H1519.out hx))) (HXb.out.below hx) (HYb.out.below hx) (by omega) hm
          have q1 : n4 ≤ cx := by have := HXc.out; omega
          have q2 : (n4 : Int) ≤ (cx : Int) := by omega
          have q3 : len ≤ cy := by have := HYc.out; omega
          have q4 : (len : Int) ≤ (cy : Int) := by omega
          go_cut [16] from 19 (fun v wx => ∃ (g3 : Nat) (a03 a13 a23 a33 : Option Addr) (m03 d03 m13 d13 m23 d23 m33 d33 : Nat), v = .pointer (some ⟨g3, 0, none⟩) ∧ Hid (Bl wx g3 (askC (sumOf C) (moreOf mask C) M2 (P2 : Int) (.slice a03 m03 d03) (.slice a13 m13 d13) (.slice a23 m23 d23) (.slice a33 m33 d33))) ∧ Hid (Four wx W19.heap.size (.slice a03 m03 d03) (.slice a13 m13 d13) (.slice a23 m23 d23) (.slice a33 m33 d33) (sealOf C) o2 t2 p2) ∧ Hid (W19.heap.size ≤ g3) ∧ Hid (Ap4 (.slice a03 m03 d03) (.slice a13 m13 d13) (.slice a23 m23 d23) (.slice a33 m33 d33)) ∧ Hid (Below W19.heap.size W19 wx))
          case first =>
            as_aux_lemma =>
              have HD0 : Hid (Below W19.heap.size W19 W19.drew) := (Below.refl _ _).drew
              have HAb : Hid (Below W19.heap.size W19 ((W19.alloc (.cells #[.int .u32 0, .int .u32 0, .int .u32 0, .int .u32 0, .int .u32 0, .int .i64 0, .slice none 0 0, .slice none 0 0, .slice none 0 0, .slice none 0 0] 29)).drew)) := ((Below.refl _ _).alloc (Nat.le_refl _) _).drew
              have HLb : Hid (Bl ((W19.alloc (.cells #[.int .u32 0, .int .u32 0, .int .u32 0, .int .u32 0, .int .u32 0, .int .i64 0, .slice none 0 0, .slice none 0 0, .slice none 0 0, .slice none 0 0] 29)).drew) W19.heap.size (#[.int .u32 0, .int .u32 0, .int .u32 0, .int .u32 0, .int .u32 0, .int .i64 0, .slice none 0 0, .slice none 0 0, .slice none 0 0, .slice none 0 0] : Array Value).toList) := (bl_alloc W19 #[.int .u32 0, .int .u32 0, .int .u32 0, .int .u32 0, .int .u32 0, .int .i64 0, .slice none 0 0, .slice none 0 0, .slice none 0 0, .slice none 0 0] 29).below (Below.refl _ _).drew (by simp)
              have HSb : Hid (((W19.alloc (.cells #[.int .u32 0, .int .u32 0, .int .u32 0, .int .u32 0, .int .u32 0, .int .i64 0, .slice none 0 0, .slice none 0 0, .slice none 0 0, .slice none 0 0] 29)).drew).heap.size = W19.heap.size + 1) := by unfold Hid; simp
              go_region_held3 (fun wz => True) (exact True.intro)
                (first
                  | (go_at_call 13; refine (HASK.out W19.drew HD0.out).mono ?_; rintro e w7 ⟨v0, v1, v2, v3, rfl, ho0, ho1, ho2, ho3, hap, hb7⟩; obtain ⟨a03, m03, d03, rfl⟩ := ho0.sl; obtain ⟨a13, m13, d13, rfl⟩ := ho1.sl; obtain ⟨a23, m23, d23, rfl⟩ := ho2.sl; obtain ⟨a33, m33, d33, rfl⟩ := ho3.sl; have hst := ask_store (bl_alloc w7 #[.int .u32 0, .int .u32 0, .int .u32 0, .int .u32 0, .int .u32 0, .int .i64 0, .slice none 0 0, .slice none 0 0, .slice none 0 0, .slice none 0 0] 29) rfl (sumOf C) (moreOf mask C) M2 (P2 : Int) a03 a13 a23 a33 m03 d03 m13 d13 m23 d23 m33 d33; have HBl := hide (bl_setCells (vs := (askC (sumOf C) (moreOf mask C) M2 (P2 : Int) (.slice a03 m03 d03) (.slice a13 m13 d13) (.slice a23 m23 d23) (.slice a33 m33 d33))) (bl_alloc w7 #[.int .u32 0, .int .u32 0, .int .u32 0, .int .u32 0, .int .u32 0, .int .i64 0, .slice none 0 0, .slice none 0 0, .slice none 0 0, .slice none 0 0] 29) rfl); have HFr := hide ((Frm.ofBelow (S := fun k => k = w7.heap.size) ((Below.refl w7.heap.size w7).alloc (Nat.le_refl _) (.cells #[.int .u32 0, .int .u32 0, .int .u32 0, .int .u32 0, .int .u32 0, .int .i64 0, .slice none 0 0, .slice none 0 0, .slice none 0 0, .slice none 0 0] 29))).trans (frm_setCells w7.heap.size (askC (sumOf C) (moreOf mask C) M2 (P2 : Int) (.slice a03 m03 d03) (.slice a13 m13 d13) (.slice a23 m23 d23) (.slice a33 m33 d33)) 0 _) (fun _ _ t => t)); have HOO := hide (And.intro (ho0.frm HFr.out (fun q hq (e : q = w7.heap.size) => by have := (World.ownsRow.lt ho0 q hq).2; omega)) (And.intro (ho1.frm HFr.out (fun q hq (e : q = w7.heap.size) => by have := (World.ownsRow.lt ho1 q hq).2; omega)) (And.intro (ho2.frm HFr.out (fun q hq (e : q = w7.heap.size) => by have := (World.ownsRow.lt ho2 q hq).2; omega)) (ho3.frm HFr.out (fun q hq (e : q = w7.heap.size) => by have := (World.ownsRow.lt ho3 q hq).2; omega))))); have HAP := hide hap; have HGe : Hid (W19.heap.size ≤ w7.heap.size) := (chain HD0.out hb7).size; have HBe := hide ((chain HD0.out hb7).trans (HFr.out.below (chain HD0.out hb7).size (fun q (e : q = w7.heap.size) => by have := (chain HD0.out hb7).size; omega))); clear ho0 ho1 ho2 ho3 hap hb7)
                  | (go_at_call 13; refine (HASK.out ((W19.alloc (.cells #[.int .u32 0, .int .u32 0, .int .u32 0, .int .u32 0, .int .u32 0, .int .i64 0, .slice none 0 0, .slice none 0 0, .slice none 0 0, .slice none 0 0] 29)).drew) HAb.out).mono ?_; rintro e w7 ⟨v0, v1, v2, v3, rfl, ho0, ho1, ho2, ho3, hap, hb7⟩; obtain ⟨a03, m03, d03, rfl⟩ := ho0.sl; obtain ⟨a13, m13, d13, rfl⟩ := ho1.sl; obtain ⟨a23, m23, d23, rfl⟩ := ho2.sl; obtain ⟨a33, m33, d33, rfl⟩ := ho3.sl; rw [HSb.out] at ho0 ho1 ho2 ho3; have hst := ask_store (HLb.out.below hb7 (by simp)) rfl (sumOf C) (moreOf mask C) M2 (P2 : Int) a03 a13 a23 a33 m03 d03 m13 d13 m23 d23 m33 d33; have HBl := hide (bl_setCells (vs := (askC (sumOf C) (moreOf mask C) M2 (P2 : Int) (.slice a03 m03 d03) (.slice a13 m13 d13) (.slice a23 m23 d23) (.slice a33 m33 d33))) (HLb.out.below hb7 (by simp)) rfl); have HFr := hide (frm_setCells W19.heap.size (askC (sumOf C) (moreOf mask C) M2 (P2 : Int) (.slice a03 m03 d03) (.slice a13 m13 d13) (.slice a23 m23 d23) (.slice a33 m33 d33)) 0 w7); have HOO := hide (And.intro ((ho0.frm HFr.out (fun q hq (e : q = W19.heap.size) => by have := (World.ownsRow.lt ho0 q hq).1; omega)).wk (Nat.le_succ _)) (And.intro ((ho1.frm HFr.out (fun q hq (e : q = W19.heap.size) => by have := (World.ownsRow.lt ho1 q hq).1; omega)).wk (Nat.le_succ _)) (And.intro ((ho2.frm HFr.out (fun q hq (e : q = W19.heap.size) => by have := (World.ownsRow.lt ho2 q hq).1; omega)).wk (Nat.le_succ _)) ((ho3.frm HFr.out (fun q hq (e : q = W19.heap.size) => by have := (World.ownsRow.lt ho3 q hq).1; omega)).wk (Nat.le_succ _))))); have HAP := hide hap; have HGe : Hid (W19.heap.size ≤ W19.heap.size) := Nat.le_refl _; have HBe := hide ((chain HAb.out hb7).trans (HFr.out.below (chain HAb.out hb7).size (fun q (e : q = W19.heap.size) => by omega))); clear ho0 ho1 ho2 ho3 hap hb7))
              all_goals go_wp2
              all_goals go_meet
              all_goals exact ⟨_, _, _, _, _, _, _, _, _, _, _, _, _, rfl, HBl, HOO, HGe, HAP, HBe⟩
          case rest =>
            obtain ⟨g3, a03, a13, a23, a33, m03, d03, m13, d13, m23, d23, m33, d33, rfl, HT3, HO3, HGe3, HAP3, H1920⟩ := hcut
            clear q1 q2 q3 q4 HASK HXb HYb
            obtain ⟨W20, hW20⟩ : ∃ x, x = wc := ⟨_, rfl⟩
            subst hW20
            have H1520 := hide (chain H1519.out H1920.out)
            have HTv20 := hide (HTv.out.below H1920.out (by simp [askC]))
            have HVO20 := hide (HVO19.out.below H1920.out)
            have x0 : W20.cell? ⟨g3, 0, none⟩ = some (.int .u32 ((sumOf C : Nat) : Int)) := HT3.out.cell 0 _ rfl
            have x1 : W20.cell? ⟨g3, 1, none⟩ = some (.int .u32 ((moreOf mask C : Nat) : Int)) := HT3.out.cell 1 _ rfl
            have x2 : W20.cell? ⟨g3, 2, none⟩ = some (.int .u32 (M2 : Int)) := HT3.out.cell 2 _ rfl
            have x3 : W20.cell? ⟨g3, 3, none⟩ = some (.int .u32 0) := HT3.out.cell 3 _ rfl
            have x4 : W20.cell? ⟨g3, 4, none⟩ = some (.int .u32 0) := HT3.out.cell 4 _ rfl
            have x5 : W20.cell? ⟨g3, 5, none⟩ = some (.int .i64 (P2 : Int)) := HT3.out.cell 5 _ rfl
            have x6 : W20.cell? ⟨g3, 6, none⟩ = some ((.slice a03 m03 d03)) := HT3.out.cell 6 _ rfl
            have x7 : W20.cell? ⟨g3, 7, none⟩ = some ((.slice a13 m13 d13)) := HT3.out.cell 7 _ rfl
            have x8 : W20.cell? ⟨g3, 8, none⟩ = some ((.slice a23 m23 d23)) := HT3.out.cell 8 _ rfl
            have x9 : W20.cell? ⟨g3, 9, none⟩ = some ((.slice a33 m33 d33)) := HT3.out.cell 9 _ rfl
            have y0 : W20.cell? ⟨g15, 0, none⟩ = some (.int .u32 ((sumOf C : Nat) : Int)) := HTv20.out.cell 0 _ rfl
            have y1 : W20.cell? ⟨g15, 1, none⟩ = some (.int .u32 ((moreOf mask C : Nat) : Int)) := HTv20.out.cell 1 _ rfl
            have y2 : W20.cell? ⟨g15, 2, none⟩ = some (.int .u32 (M2 : Int)) := HTv20.out.cell 2 _ rfl
            have y3 : W20.cell? ⟨g15, 3, none⟩ = some (.int .u32 0) := HTv20.out.cell 3 _ rfl
            have y4 : W20.cell? ⟨g15, 4, none⟩ = some (.int .u32 0) := HTv20.out.cell 4 _ rfl
            have y5 : W20.cell? ⟨g15, 5, none⟩ = some (.int .i64 (P2 : Int)) := HTv20.out.cell 5 _ rfl
            have y6 : W20.cell? ⟨g15, 6, none⟩ = some ((.slice a0v m0v d0v)) := HTv20.out.cell 6 _ rfl
            have y7 : W20.cell? ⟨g15, 7, none⟩ = some ((.slice a1v m1v d1v)) := HTv20.out.cell 7 _ rfl
            have y8 : W20.cell? ⟨g15, 8, none⟩ = some ((.slice a2v m2v d2v)) := HTv20.out.cell 8 _ rfl
            have y9 : W20.cell? ⟨g15, 9, none⟩ = some ((.slice a3v m3v d3v)) := HTv20.out.cell 9 _ rfl
            have HLK := hide (like_own (sumOf C) (moreOf mask C) M2 (P2 : Int) _ _ _ _ _ _ _ _ HO3.out HVO20.out HSM42.out)
            go_wp2_with fail
            clear x0 x1 x2 x3 x4 x5 x6 x7 x8 x9 y0 y1 y2 y3 y4 y5 y6 y7 y8 y9
            refine Calls.mono HLK.out ?_
            rintro e w21 ⟨rfl, hb21⟩
            have H2021 := hide hb21
            have H1521 := hide (chain H1520.out hb21)
            clear hb21 HLK
            have HTa := hide (HT1F.out.below H1521.out (by simp [askC]))
            have HTb := hide (HT6F.out.below H1521.out (by simp [askC]))
            have x0 : w21.cell? ⟨g1, 0, none⟩ = some (.int .u32 ((sumOf (sealOf l) : Nat) : Int)) := HTa.out.cell 0 _ rfl
            have x1 : w21.cell? ⟨g1, 1, none⟩ = some (.int .u32 ((moreOf mask (sealOf l) : Nat) : Int)) := HTa.out.cell 1 _ rfl
            have x2 : w21.cell? ⟨g1, 2, none⟩ = some (.int .u32 (M : Int)) := HTa.out.cell 2 _ rfl
            have x3 : w21.cell? ⟨g1, 3, none⟩ = some (.int .u32 0) := HTa.out.cell 3 _ rfl
            have x4 : w21.cell? ⟨g1, 4, none⟩ = some (.int .u32 0) := HTa.out.cell 4 _ rfl
            have x5 : w21.cell? ⟨g1, 5, none⟩ = some (.int .i64 (P : Int)) := HTa.out.cell 5 _ rfl
            have x6 : w21.cell? ⟨g1, 6, none⟩ = some ((.slice a01 m01 d01)) := HTa.out.cell 6 _ rfl
            have x7 : w21.cell? ⟨g1, 7, none⟩ = some ((.slice a11 m11 d11)) := HTa.out.cell 7 _ rfl
            have x8 : w21.cell? ⟨g1, 8, none⟩ = some ((.slice a21 m21 d21)) := HTa.out.cell 8 _ rfl
            have x9 : w21.cell? ⟨g1, 9, none⟩ = some ((.slice a31 m31 d31)) := HTa.out.cell 9 _ rfl
            have y0 : w21.cell? ⟨g10, 0, none⟩ = some (.int .u32 ((sumOf (sealOf l) : Nat) : Int)) := HTb.out.cell 0 _ rfl
            have y1 : w21.cell? ⟨g10, 1, none⟩ = some (.int .u32 ((moreOf mask (sealOf l) : Nat) : Int)) := HTb.out.cell 1 _ rfl
            have y2 : w21.cell? ⟨g10, 2, none⟩ = some (.int .u32 (M : Int)) := HTb.out.cell 2 _ rfl
            have y3 : w21.cell? ⟨g10, 3, none⟩ = some (.int .u32 0) := HTb.out.cell 3 _ rfl
            have y4 : w21.cell? ⟨g10, 4, none⟩ = some (.int .u32 0) := HTb.out.cell 4 _ rfl
            have y5 : w21.cell? ⟨g10, 5, none⟩ = some (.int .i64 (P : Int)) := HTb.out.cell 5 _ rfl
            have y6 : w21.cell? ⟨g10, 6, none⟩ = some ((.slice a0w m0w d0w)) := HTb.out.cell 6 _ rfl
            have y7 : w21.cell? ⟨g10, 7, none⟩ = some ((.slice a1w m1w d1w)) := HTb.out.cell 7 _ rfl
            have y8 : w21.cell? ⟨g10, 8, none⟩ = some ((.slice a2w m2w d2w)) := HTb.out.cell 8 _ rfl
            have y9 : w21.cell? ⟨g10, 9, none⟩ = some ((.slice a3w m3w d3w)) := HTb.out.cell 9 _ rfl
            have HLK := hide (like_own (sumOf (sealOf l)) (moreOf mask (sealOf l)) M (P : Int) _ _ _ _ _ _ _ _ (HO1F.out.below H1521.out) (HWOF.out.below H1521.out) HSM4.out)
            go_wp2_with fail
            clear x0 x1 x2 x3 x4 x5 x6 x7 x8 x9 y0 y1 y2 y3 y4 y5 y6 y7 y8 y9
            clear HTa HTb
            refine Calls.mono HLK.out ?_
            rintro e w22 ⟨rfl, hb22⟩
            have H2022 := hide (chain H2021.out hb22)
            have H1522 := hide (chain H1521.out hb22)
            clear hb22 HLK
            have HTa := hide (HT2F.out.below H1522.out (by simp [askC]))
            have HTb := hide (HT6F.out.below H1522.out (by simp [askC]))
            have x0 : w22.cell? ⟨g2, 0, none⟩ = some (.int .u32 ((sumOf (sealOf l) : Nat) : Int)) := HTa.out.cell 0 _ rfl
            have x1 : w22.cell? ⟨g2, 1, none⟩ = some (.int .u32 ((moreOf mask (sealOf l) : Nat) : Int)) := HTa.out.cell 1 _ rfl
            have x2 : w22.cell? ⟨g2, 2, none⟩ = some (.int .u32 (M : Int)) := HTa.out.cell 2 _ rfl
            have x3 : w22.cell? ⟨g2, 3, none⟩ = some (.int .u32 0) := HTa.out.cell 3 _ rfl
            have x4 : w22.cell? ⟨g2, 4, none⟩ = some (.int .u32 0) := HTa.out.cell 4 _ rfl
            have x5 : w22.cell? ⟨g2, 5, none⟩ = some (.int .i64 (P : Int)) := HTa.out.cell 5 _ rfl
            have x6 : w22.cell? ⟨g2, 6, none⟩ = some ((.slice a02 m02 d02)) := HTa.out.cell 6 _ rfl
            have x7 : w22.cell? ⟨g2, 7, none⟩ = some ((.slice a12 m12 d12)) := HTa.out.cell 7 _ rfl
            have x8 : w22.cell? ⟨g2, 8, none⟩ = some ((.slice a22 m22 d22)) := HTa.out.cell 8 _ rfl
            have x9 : w22.cell? ⟨g2, 9, none⟩ = some ((.slice a32 m32 d32)) := HTa.out.cell 9 _ rfl
            have y0 : w22.cell? ⟨g10, 0, none⟩ = some (.int .u32 ((sumOf (sealOf l) : Nat) : Int)) := HTb.out.cell 0 _ rfl
            have y1 : w22.cell? ⟨g10, 1, none⟩ = some (.int .u32 ((moreOf mask (sealOf l) : Nat) : Int)) := HTb.out.cell 1 _ rfl
            have y2 : w22.cell? ⟨g10, 2, none⟩ = some (.int .u32 (M : Int)) := HTb.out.cell 2 _ rfl
            have y3 : w22.cell? ⟨g10, 3, none⟩ = some (.int .u32 0) := HTb.out.cell 3 _ rfl
            have y4 : w22.cell? ⟨g10, 4, none⟩ = some (.int .u32 0) := HTb.out.cell 4 _ rfl
            have y5 : w22.cell? ⟨g10, 5, none⟩ = some (.int .i64 (P : Int)) := HTb.out.cell 5 _ rfl
            have y6 : w22.cell? ⟨g10, 6, none⟩ = some ((.slice a0w m0w d0w)) := HTb.out.cell 6 _ rfl
            have y7 : w22.cell? ⟨g10, 7, none⟩ = some ((.slice a1w m1w d1w)) := HTb.out.cell 7 _ rfl
            have y8 : w22.cell? ⟨g10, 8, none⟩ = some ((.slice a2w m2w d2w)) := HTb.out.cell 8 _ rfl
            have y9 : w22.cell? ⟨g10, 9, none⟩ = some ((.slice a3w m3w d3w)) := HTb.out.cell 9 _ rfl
            have HLK := hide (like_own (sumOf (sealOf l)) (moreOf mask (sealOf l)) M (P : Int) _ _ _ _ _ _ _ _ (HO2F.out.below H1522.out) (HWOF.out.below H1522.out) HSM4.out)
            go_wp2_with fail
            clear x0 x1 x2 x3 x4 x5 x6 x7 x8 x9 y0 y1 y2 y3 y4 y5 y6 y7 y8 y9
            clear HTa HTb
            refine Calls.mono HLK.out ?_
            rintro e w23 ⟨rfl, hb23⟩
            have H2023 := hide (chain H2022.out hb23)
            have H1523 := hide (chain H1522.out hb23)
            clear hb23 HLK
            go_wp2_with fail
            refine Calls.mono (HRC.out _ _ _ _ w23 ((HCc.out.bts HC.out.1 (by omega) HC.out.2).below H1523.out) (by omega)) ?_
            rintro e w24 ⟨gr, cr, rfl, ho24, hb24⟩
            have H2024 := hide (chain H2023.out hb24)
            have H1524 := hide (chain H1523.out hb24)
            have HQ := hide (equal_any (some ⟨gx, 0, none⟩) (some ⟨gr, 0, none⟩) (n4 + 80) cx (n4 + 80) cr (C ++ spare) (C ++ spare) w24 ((HCx.out.below H1524.out).bts HXl2.out.1 (by omega) HXl2.out.2) (ho24.bts HXl2.out.1 (by omega) HXl2.out.2))
            rw [show decide (C ++ spare = C ++ spare) = true by simp] at HQ
            clear ho24 hb24
            go_wp2_with fail
            refine Calls.mono HQ.out ?_
            rintro e W21 ⟨rfl, hb25⟩
            have H20Z := hide (chain H2024.out hb25)
            have H15Z := hide (chain H1524.out hb25)
            clear hb25 HQ H2021 H2022 H2023 H2024 H1521 H1522 H1523 H1524
            have HN3 : Hid (W19.heap.size ≤ g3 ∧ g3 < W20.heap.size) := ⟨HGe3.out, block_lt_of_cell (HT3.out.cell 0 _ rfl)⟩
            have HT1Z := hide (HT1F.out.below H15Z.out (by simp [askC]))
            have HT2Z := hide (HT2F.out.below H15Z.out (by simp [askC]))
            have HT3Z := hide (HT3.out.below H20Z.out (by simp [askC]))
            have HO1Z := hide (HO1F.out.below H15Z.out)
            have HO2Z := hide (HO2F.out.below H15Z.out)
            have HO3Z := hide (HO3.out.below H20Z.out)
            have HRO3 : Hid (Four W20 W19.heap.size (.slice a03 m03 d03) (.slice a13 m13 d13) (.slice a23 m23 d23) (.slice a33 m33 d33) (sealOf C) o2 t2 p2) := HO3.out
            have HZt : Hid (W15.heap.size ≤ W19.heap.size ∧ W19.heap.size ≤ W20.heap.size ∧ W20.heap.size ≤ W21.heap.size) := ⟨H1519.out.size, H1920.out.size, H20Z.out.size⟩
            clear HTv20 HVO20 HTv HVO19 HX19 HT1F HT2F HT3 HO1F HO2F HO3 HT6F HWOF H1520 H1920 H1519 HGe3
            obtain ⟨ALL, hALL⟩ : ∃ ALL : List JW, ALL = [(⟨0, a01, m01, d01, (sealOf (sealOf l))⟩ : JW), (⟨0, a02, m02, d02, (sealOf (sealOf l))⟩ : JW), (⟨0, a03, m03, d03, (sealOf C)⟩ : JW), (⟨0, a11, m11, d11, o⟩ : JW), (⟨0, a12, m12, d12, o⟩ : JW), (⟨0, a13, m13, d13, o2⟩ : JW), (⟨0, a21, m21, d21, t⟩ : JW), (⟨0, a22, m22, d22, t⟩ : JW), (⟨0, a23, m23, d23, t2⟩ : JW), (⟨0, a31, m31, d31, p⟩ : JW), (⟨0, a32, m32, d32, p⟩ : JW), (⟨0, a33, m33, d33, p2⟩ : JW)] := ⟨_, rfl⟩
            have HALL := hide hALL
            clear hALL
            have HBLK : Hid (∀ r ∈ ALL, ∀ b, r.v.ownBlock = some b → (W6.heap.size ≤ b ∧ b < W7.heap.size) ∨ (W8.heap.size ≤ b ∧ b < W10.heap.size) ∨ (W19.heap.size ≤ b ∧ b < W20.heap.size)) := fun r hr b hb => by
              rw [HALL.out] at hr
              simp only [List.mem_cons, List.not_mem_nil, or_false] at hr
              rcases hr with rfl | rfl | rfl | rfl | rfl | rfl | rfl | rfl | rfl | rfl | rfl | rfl
              · exact .inl (World.ownsRow.lt HRO1.out.1 b hb)
              · exact .inr (.inl (World.ownsRow.lt HRO2.out.1 b hb))
              · exact .inr (.inr (World.ownsRow.lt HRO3.out.1 b hb))
              · exact .inl (World.ownsRow.lt HRO1.out.2.1 b hb)
              · exact .inr (.inl (World.ownsRow.lt HRO2.out.2.1 b hb))
              · exact .inr (.inr (World.ownsRow.lt HRO3.out.2.1 b hb))
              · exact .inl (World.ownsRow.lt HRO1.out.2.2.1 b hb)
              · exact .inr (.inl (World.ownsRow.lt HRO2.out.2.2.1 b hb))
              · exact .inr (.inr (World.ownsRow.lt HRO3.out.2.2.1 b hb))
              · exact .inl (World.ownsRow.lt HRO1.out.2.2.2 b hb)
              · exact .inr (.inl (World.ownsRow.lt HRO2.out.2.2.2 b hb))
              · exact .inr (.inr (World.ownsRow.lt HRO3.out.2.2.2 b hb))
            have HPALL : Hid (Pw ALL) := by
              as_aux_lemma =>
                rw [HALL.out]
                have hz := HZs.out
                have hy := HZt.out
                have hx := HZ15.out
                have hg := HGC.out
                have r10 : ∀ b, (JW.v (⟨0, a01, m01, d01, (sealOf (sealOf l))⟩ : JW)).ownBlock = some b → W6.heap.size ≤ b ∧ b < W7.heap.size := fun b hb => World.ownsRow.lt HRO1.out.1 b hb
                have r20 : ∀ b, (JW.v (⟨0, a02, m02, d02, (sealOf (sealOf l))⟩ : JW)).ownBlock = some b → W8.heap.size ≤ b ∧ b < W10.heap.size := fun b hb => World.ownsRow.lt HRO2.out.1 b hb
                have r30 : ∀ b, (JW.v (⟨0, a03, m03, d03, (sealOf C)⟩ : JW)).ownBlock = some b → W19.heap.size ≤ b ∧ b < W20.heap.size := fun b hb => World.ownsRow.lt HRO3.out.1 b hb
                have r11 : ∀ b, (JW.v (⟨0, a11, m11, d11, o⟩ : JW)).ownBlock = some b → W6.heap.size ≤ b ∧ b < W7.heap.size := fun b hb => World.ownsRow.lt HRO1.out.2.1 b hb
                have r21 : ∀ b, (JW.v (⟨0, a12, m12, d12, o⟩ : JW)).ownBlock = some b → W8.heap.size ≤ b ∧ b < W10.heap.size := fun b hb => World.ownsRow.lt HRO2.out.2.1 b hb
                have r31 : ∀ b, (JW.v (⟨0, a13, m13, d13, o2⟩ : JW)).ownBlock = some b → W19.heap.size ≤ b ∧ b < W20.heap.size := fun b hb => World.ownsRow.lt HRO3.out.2.1 b hb
                have r12 : ∀ b, (JW.v (⟨0, a21, m21, d21, t⟩ : JW)).ownBlock = some b → W6.heap.size ≤ b ∧ b < W7.heap.size := fun b hb => World.ownsRow.lt HRO1.out.2.2.1 b hb
                have r22 : ∀ b, (JW.v (⟨0, a22, m22, d22, t⟩ : JW)).ownBlock = some b → W8.heap.size ≤ b ∧ b < W10.heap.size := fun b hb => World.ownsRow.lt HRO2.out.2.2.1 b hb
                have r32 : ∀ b, (JW.v (⟨0, a23, m23, d23, t2⟩ : JW)).ownBlock = some b → W19.heap.size ≤ b ∧ b < W20.heap.size := fun b hb => World.ownsRow.lt HRO3.out.2.2.1 b hb
                have r13 : ∀ b, (JW.v (⟨0, a31, m31, d31, p⟩ : JW)).ownBlock = some b → W6.heap.size ≤ b ∧ b < W7.heap.size := fun b hb => World.ownsRow.lt HRO1.out.2.2.2 b hb
                have r23 : ∀ b, (JW.v (⟨0, a32, m32, d32, p⟩ : JW)).ownBlock = some b → W8.heap.size ≤ b ∧ b < W10.heap.size := fun b hb => World.ownsRow.lt HRO2.out.2.2.2 b hb
                have r33 : ∀ b, (JW.v (⟨0, a33, m33, d33, p2⟩ : JW)).ownBlock = some b → W19.heap.size ≤ b ∧ b < W20.heap.size := fun b hb => World.ownsRow.lt HRO3.out.2.2.2 b hb
                intro i j x y hij hx1 hy1 k h1 h3
                have hi := (List.getElem?_eq_some_iff.1 hx1).1
                have hj := (List.getElem?_eq_some_iff.1 hy1).1
                simp only [List.length_cons, List.length_nil] at hi hj
                rcases (by omega : i = 0 ∨ i = 1 ∨ i = 2 ∨ i = 3 ∨ i = 4 ∨ i = 5 ∨ i = 6 ∨ i = 7 ∨ i = 8 ∨ i = 9 ∨ i = 10 ∨ i = 11) with rfl | rfl | rfl | rfl | rfl | rfl | rfl | rfl | rfl | rfl | rfl | rfl <;> rcases (by omega : j = 0 ∨ j = 1 ∨ j = 2 ∨ j = 3 ∨ j = 4 ∨ j = 5 ∨ j = 6 ∨ j = 7 ∨ j = 8 ∨ j = 9 ∨ j = 10 ∨ j = 11) with rfl | rfl | rfl | rfl | rfl | rfl | rfl | rfl | rfl | rfl | rfl | rfl <;> simp only [List.getElem?_cons_succ, List.getElem?_cons_zero, Option.some.injEq] at hx1 hy1 <;> subst hx1 <;> subst hy1
                all_goals first | exact absurd rfl hij | exact HAP1.out.h01 k h1 h3 | exact HAP1.out.h02 k h1 h3 | exact HAP1.out.h03 k h1 h3 | exact HAP1.out.h01 k h3 h1 | exact HAP1.out.h12 k h1 h3 | exact HAP1.out.h13 k h1 h3 | exact HAP1.out.h02 k h3 h1 | exact HAP1.out.h12 k h3 h1 | exact HAP1.out.h23 k h1 h3 | exact HAP1.out.h03 k h3 h1 | exact HAP1.out.h13 k h3 h1 | exact HAP1.out.h23 k h3 h1 | exact HAP2.out.h01 k h1 h3 | exact HAP2.out.h02 k h1 h3 | exact HAP2.out.h03 k h1 h3 | exact HAP2.out.h01 k h3 h1 | exact HAP2.out.h12 k h1 h3 | exact HAP2.out.h13 k h1 h3 | exact HAP2.out.h02 k h3 h1 | exact HAP2.out.h12 k h3 h1 | exact HAP2.out.h23 k h1 h3 | exact HAP2.out.h03 k h3 h1 | exact HAP2.out.h13 k h3 h1 | exact HAP2.out.h23 k h3 h1 | exact HAP3.out.h01 k h1 h3 | exact HAP3.out.h02 k h1 h3 | exact HAP3.out.h03 k h1 h3 | exact HAP3.out.h01 k h3 h1 | exact HAP3.out.h12 k h1 h3 | exact HAP3.out.h13 k h1 h3 | exact HAP3.out.h02 k h3 h1 | exact HAP3.out.h12 k h3 h1 | exact HAP3.out.h23 k h1 h3 | exact HAP3.out.h03 k h3 h1 | exact HAP3.out.h13 k h3 h1 | exact HAP3.out.h23 k h3 h1 | ((first | have c1 := r10 k h1 | have c1 := r11 k h1 | have c1 := r12 k h1 | have c1 := r13 k h1 | have c1 := r20 k h1 | have c1 := r21 k h1 | have c1 := r22 k h1 | have c1 := r23 k h1 | have c1 := r30 k h1 | have c1 := r31 k h1 | have c1 := r32 k h1 | have c1 := r33 k h1); (first | have c2 := r10 k h3 | have c2 := r11 k h3 | have c2 := r12 k h3 | have c2 := r13 k h3 | have c2 := r20 k h3 | have c2 := r21 k h3 | have c2 := r22 k h3 | have c2 := r23 k h3 | have c2 := r30 k h3 | have c2 := r31 k h3 | have c2 := r32 k h3 | have c2 := r33 k h3); omega)
            have HMALL : Hid (∀ r ∈ ALL, r.l.length ≤ 140737488354100) := fun r hr => by
              rw [HALL.out] at hr
              have h1 := HSM4.out
              have h2 := HSM42.out
              simp only [List.mem_cons, List.not_mem_nil, or_false] at hr
              rcases hr with rfl | rfl | rfl | rfl | rfl | rfl | rfl | rfl | rfl | rfl | rfl | rfl
              · exact h1.1.1
              · exact h1.1.1
              · exact h2.1.1
              · exact h1.2.1.1
              · exact h1.2.1.1
              · exact h2.2.1.1
              · exact h1.2.2.1.1
              · exact h1.2.2.1.1
              · exact h2.2.2.1.1
              · exact h1.2.2.2.1
              · exact h1.2.2.2.1
              · exact h2.2.2.2.1
            go_wp2_with fail
            go_loopw [17, 18] (fun v i wx => ∃ k : Nat, k ≤ 4 ∧ i = .int .i64 (k : Int) ∧ Hid (DbOwn wx W6.heap.size v (ALL.take (3 * k))) ∧ Hid (Below W21.heap.size W21 wx) ∧ Hid (∀ b, v.ownBlock = some b → W21.heap.size ≤ b)) (fun _ i _ => 4 - (intOf i).toNat)
            case atStart => exact ⟨0, by omega, rfl, db_nil _ _, Below.refl _ _, fun b hb => by cases hb⟩
            case round =>
              obtain ⟨k, hk, rfl, HD, HBR, HVB⟩ := hrel
              have hz := HZs.out
              have hy := HZt.out
              have hx15 := HZ15.out
              rcases (by omega : k = 0 ∨ k = 1 ∨ k = 2 ∨ k = 3 ∨ k = 4) with rfl | rfl | rfl | rfl | rfl
              · --
                as_aux_lemma =>
                  have x1 : wr.cell? ⟨g1, 6, none⟩ = some (.slice a01 m01 d01) := cell_below (HT1Z.out.cell 6 _ rfl) HBR.out
                  have x2 : wr.cell? ⟨g2, 6, none⟩ = some (.slice a02 m02 d02) := cell_below (HT2Z.out.cell 6 _ rfl) HBR.out
                  have x3 : wr.cell? ⟨g3, 6, none⟩ = some (.slice a03 m03 d03) := cell_below (HT3Z.out.cell 6 _ rfl) HBR.out
                  have HA : Hid (Below wr.heap.size wr ((wr.alloc (.cells #[.slice a01 m01 d01, .slice a02 m02 d02, .slice a03 m03 d03] 22)).drew)) := ((Below.refl _ _).alloc (Nat.le_refl _) _).drew
                  have HC0 : Hid (((wr.alloc (.cells #[.slice a01 m01 d01, .slice a02 m02 d02, .slice a03 m03 d03] 22)).drew).cell? ⟨wr.heap.size, 0, none⟩ = some (JW.v (⟨0, a01, m01, d01, (sealOf (sealOf l))⟩ : JW))) := (World.cell?_alloc_at _ _ _ _ rfl).trans rfl
                  have HC1 : Hid (((wr.alloc (.cells #[.slice a01 m01 d01, .slice a02 m02 d02, .slice a03 m03 d03] 22)).drew).cell? ⟨wr.heap.size, 1, none⟩ = some (JW.v (⟨0, a02, m02, d02, (sealOf (sealOf l))⟩ : JW))) := (World.cell?_alloc_at _ _ _ _ rfl).trans rfl
                  have HC2 : Hid (((wr.alloc (.cells #[.slice a01 m01 d01, .slice a02 m02 d02, .slice a03 m03 d03] 22)).drew).cell? ⟨wr.heap.size, 2, none⟩ = some (JW.v (⟨0, a03, m03, d03, (sealOf C)⟩ : JW))) := (World.cell?_alloc_at _ _ _ _ rfl).trans rfl
                  have HDA := hide (HD.out.below HA.out)
                  have HRW : Hid (∀ r ∈ [(⟨0, a01, m01, d01, (sealOf (sealOf l))⟩ : JW), (⟨0, a02, m02, d02, (sealOf (sealOf l))⟩ : JW), (⟨0, a03, m03, d03, (sealOf C)⟩ : JW)], Own ((wr.alloc (.cells #[.slice a01 m01 d01, .slice a02 m02 d02, .slice a03 m03 d03] 22)).drew) W6.heap.size r.v r.l) := fun r hr => by
                    simp only [List.mem_cons, List.not_mem_nil, or_false] at hr
                    rcases hr with rfl | rfl | rfl
                    · exact (HO1Z.out.1.below (chain HBR.out HA.out))
                    · exact (HO2Z.out.1.below (chain HBR.out HA.out)).wk (by omega)
                    · exact (HO3Z.out.1.below (chain HBR.out HA.out)).wk (by omega)
                  have HNW : Hid (∀ r ∈ [(⟨0, a01, m01, d01, (sealOf (sealOf l))⟩ : JW), (⟨0, a02, m02, d02, (sealOf (sealOf l))⟩ : JW), (⟨0, a03, m03, d03, (sealOf C)⟩ : JW)], ∀ q, r.v.ownBlock = some q → u17.ownBlock ≠ some q) := fun r hr q hq e => by
                    have h9 := HVB.out q e
                    have h8 := HBLK.out r (by rw [HALL.out]; simp only [List.mem_cons, List.not_mem_nil, or_false] at hr ⊢; rcases hr with rfl | rfl | rfl <;> simp) q hq
                    omega
                  have HLW : Hid ((ALL.take (3 * 0)).length + 3 ≤ 4398046511104) := by unfold Hid; rw [List.length_take]; omega
                  have HWW : Hid (W6.heap.size ≤ ((wr.alloc (.cells #[.slice a01 m01 d01, .slice a02 m02 d02, .slice a03 m03 d03] 22)).drew).heap.size) := by unfold Hid; have h1 := (chain HBR.out HA.out).size; omega
                  have HTK : Hid (ALL.take (3 * 1) = ALL.take (3 * 0) ++ [(⟨0, a01, m01, d01, (sealOf (sealOf l))⟩ : JW), (⟨0, a02, m02, d02, (sealOf (sealOf l))⟩ : JW), (⟨0, a03, m03, d03, (sealOf C)⟩ : JW)]) := by unfold Hid; rw [HALL.out]; rfl
                  have HZA : Hid (W21.heap.size ≤ ((wr.alloc (.cells #[.slice a01 m01 d01, .slice a02 m02 d02, .slice a03 m03 d03] 22)).drew).heap.size) := (chain HBR.out HA.out).size
                  have HL1 : Hid (g1 < W21.heap.size) := by unfold Hid; have h1 := HN1.out; have h2 := HGC.out; omega
                  have HL2 : Hid (g2 < W21.heap.size) := by unfold Hid; have h1 := HN2.out; have h2 := HGC.out; omega
                  have HL3 : Hid (g3 < W21.heap.size) := by unfold Hid; have h1 := HN3.out; omega
                  clear hz hy hx15 hk
                  generalize ALL.take (3 * 0) = RS at *
                  go_wp2_with fail
                  go_region_held3 (fun wz => wz.cell? ⟨g1, 6, none⟩ = some (.slice a01 m01 d01) ∧ wz.cell? ⟨g2, 6, none⟩ = some (.slice a02 m02 d02) ∧ wz.cell? ⟨g3, 6, none⟩ = some (.slice a03 m03 d03)) (first | exact ⟨x1, x2, x3⟩ | exact ⟨cell_below x1 HA.out, cell_below x2 HA.out, cell_below x3 HA.out⟩ | exact ⟨z1, z2, z3⟩)
                    (first | (refine step_db3 rfl (.tmp 152) (.tmp 165) rfl W6.heap.size u17 RS (by simp [Act.eval]) HDA.out wr.heap.size (⟨0, a01, m01, d01, (sealOf (sealOf l))⟩ : JW) (⟨0, a02, m02, d02, (sealOf (sealOf l))⟩ : JW) (⟨0, a03, m03, d03, (sealOf C)⟩ : JW) (by simp [Act.eval]) HC0.out HC1.out HC2.out HRW.out HNW.out HLW.out HWW.out ?_; intro v6 w6 ho hf hq; have HO6 := hide ho; have HF6 := hide hf; have HQ6 := hide hq; have HB6w := hide ((chain HBR.out HA.out).trans (hf.below HZA.out (fun b e => HVB.out b e))); have z1 := far_cell hf (cell_below x1 HA.out) HVB.out HL1.out; have z2 := far_cell hf (cell_below x2 HA.out) HVB.out HL2.out; have z3 := far_cell hf (cell_below x3 HA.out) HVB.out HL3.out; clear ho hf hq))
                  all_goals go_wp2
                  all_goals exact ⟨⟨1, by omega, by first | rfl | simp, by rw [HTK.out]; exact HO6, HB6w, fun b hb => by rcases HQ6.out b hb with e | e; exact HVB.out b e; exact Nat.le_trans HZA.out e⟩, by simp [intOf]⟩
              · --
                as_aux_lemma =>
                  have x1 : wr.cell? ⟨g1, 7, none⟩ = some (.slice a11 m11 d11) := cell_below (HT1Z.out.cell 7 _ rfl) HBR.out
                  have x2 : wr.cell? ⟨g2, 7, none⟩ = some (.slice a12 m12 d12) := cell_below (HT2Z.out.cell 7 _ rfl) HBR.out
                  have x3 : wr.cell? ⟨g3, 7, none⟩ = some (.slice a13 m13 d13) := cell_below (HT3Z.out.cell 7 _ rfl) HBR.out
                  have HA : Hid (Below wr.heap.size wr ((wr.alloc (.cells #[.slice a11 m11 d11, .slice a12 m12 d12, .slice a13 m13 d13] 22)).drew)) := ((Below.refl _ _).alloc (Nat.le_refl _) _).drew
                  have HC0 : Hid (((wr.alloc (.cells #[.slice a11 m11 d11, .slice a12 m12 d12, .slice a13 m13 d13] 22)).drew).cell? ⟨wr.heap.size, 0, none⟩ = some (JW.v (⟨0, a11, m11, d11, o⟩ : JW))) := (World.cell?_alloc_at _ _ _ _ rfl).trans rfl
                  have HC1 : Hid (((wr.alloc (.cells #[.slice a11 m11 d11, .slice a12 m12 d12, .slice a13 m13 d13] 22)).drew).cell? ⟨wr.heap.size, 1, none⟩ = some (JW.v (⟨0, a12, m12, d12, o⟩ : JW))) := (World.cell?_alloc_at _ _ _ _ rfl).trans rfl
                  have HC2 : Hid (((wr.alloc (.cells #[.slice a11 m11 d11, .slice a12 m12 d12, .slice a13 m13 d13] 22)).drew).cell? ⟨wr.heap.size, 2, none⟩ = some (JW.v (⟨0, a13, m13, d13, o2⟩ : JW))) := (World.cell?_alloc_at _ _ _ _ rfl).trans rfl
                  have HDA := hide (HD.out.below HA.out)
                  have HRW : Hid (∀ r ∈ [(⟨0, a11, m11, d11, o⟩ : JW), (⟨0, a12, m12, d12, o⟩ : JW), (⟨0, a13, m13, d13, o2⟩ : JW)], Own ((wr.alloc (.cells #[.slice a11 m11 d11, .slice a12 m12 d12, .slice a13 m13 d13] 22)).drew) W6.heap.size r.v r.l) := fun r hr => by
                    simp only [List.mem_cons, List.not_mem_nil, or_false] at hr
                    rcases hr with rfl | rfl | rfl
                    · exact (HO1Z.out.2.1.below (chain HBR.out HA.out))
                    · exact (HO2Z.out.2.1.below (chain HBR.out HA.out)).wk (by omega)
                    · exact (HO3Z.out.2.1.below (chain HBR.out HA.out)).wk (by omega)
                  have HNW : Hid (∀ r ∈ [(⟨0, a11, m11, d11, o⟩ : JW), (⟨0, a12, m12, d12, o⟩ : JW), (⟨0, a13, m13, d13, o2⟩ : JW)], ∀ q, r.v.ownBlock = some q → u17.ownBlock ≠ some q) := fun r hr q hq e => by
                    have h9 := HVB.out q e
                    have h8 := HBLK.out r (by rw [HALL.out]; simp only [List.mem_cons, List.not_mem_nil, or_false] at hr ⊢; rcases hr with rfl | rfl | rfl <;> simp) q hq
                    omega
                  have HLW : Hid ((ALL.take (3 * 1)).length + 3 ≤ 4398046511104) := by unfold Hid; rw [List.length_take]; omega
                  have HWW : Hid (W6.heap.size ≤ ((wr.alloc (.cells #[.slice a11 m11 d11, .slice a12 m12 d12, .slice a13 m13 d13] 22)).drew).heap.size) := by unfold Hid; have h1 := (chain HBR.out HA.out).size; omega
                  have HTK : Hid (ALL.take (3 * 2) = ALL.take (3 * 1) ++ [(⟨0, a11, m11, d11, o⟩ : JW), (⟨0, a12, m12, d12, o⟩ : JW), (⟨0, a13, m13, d13, o2⟩ : JW)]) := by unfold Hid; rw [HALL.out]; rfl
                  have HZA : Hid (W21.heap.size ≤ ((wr.alloc (.cells #[.slice a11 m11 d11, .slice a12 m12 d12, .slice a13 m13 d13] 22)).drew).heap.size) := (chain HBR.out HA.out).size
                  have HL1 : Hid (g1 < W21.heap.size) := by unfold Hid; have h1 := HN1.out; have h2 := HGC.out; omega
                  have HL2 : Hid (g2 < W21.heap.size) := by unfold Hid; have h1 := HN2.out; have h2 := HGC.out; omega
                  have HL3 : Hid (g3 < W21.heap.size) := by unfold Hid; have h1 := HN3.out; omega
                  clear hz hy hx15 hk
                  generalize ALL.take (3 * 1) = RS at *
                  go_wp2_with fail
                  go_region_held3 (fun wz => wz.cell? ⟨g1, 7, none⟩ = some (.slice a11 m11 d11) ∧ wz.cell? ⟨g2, 7, none⟩ = some (.slice a12 m12 d12) ∧ wz.cell? ⟨g3, 7, none⟩ = some (.slice a13 m13 d13)) (first | exact ⟨x1, x2, x3⟩ | exact ⟨cell_below x1 HA.out, cell_below x2 HA.out, cell_below x3 HA.out⟩ | exact ⟨z1, z2, z3⟩)
                    (first | (refine step_db3 rfl (.tmp 152) (.tmp 165) rfl W6.heap.size u17 RS (by simp [Act.eval]) HDA.out wr.heap.size (⟨0, a11, m11, d11, o⟩ : JW) (⟨0, a12, m12, d12, o⟩ : JW) (⟨0, a13, m13, d13, o2⟩ : JW) (by simp [Act.eval]) HC0.out HC1.out HC2.out HRW.out HNW.out HLW.out HWW.out ?_; intro v6 w6 ho hf hq; have HO6 := hide ho; have HF6 := hide hf; have HQ6 := hide hq; have HB6w := hide ((chain HBR.out HA.out).trans (hf.below HZA.out (fun b e => HVB.out b e))); have z1 := far_cell hf (cell_below x1 HA.out) HVB.out HL1.out; have z2 := far_cell hf (cell_below x2 HA.out) HVB.out HL2.out; have z3 := far_cell hf (cell_below x3 HA.out) HVB.out HL3.out; clear ho hf hq))
                  all_goals go_wp2
                  all_goals exact ⟨⟨2, by omega, by first | rfl | simp, by rw [HTK.out]; exact HO6, HB6w, fun b hb => by rcases HQ6.out b hb with e | e; exact HVB.out b e; exact Nat.le_trans HZA.out e⟩, by simp [intOf]⟩
              · --
                as_aux_lemma =>
                  have x1 : wr.cell? ⟨g1, 8, none⟩ = some (.slice a21 m21 d21) := cell_below (HT1Z.out.cell 8 _ rfl) HBR.out
                  have x2 : wr.cell? ⟨g2, 8, none⟩ = some (.slice a22 m22 d22) := cell_below (HT2Z.out.cell 8 _ rfl) HBR.out
                  have x3 : wr.cell? ⟨g3, 8, none⟩ = some (.slice a23 m23 d23) := cell_below (HT3Z.out.cell 8 _ rfl) HBR.out
                  have HA : Hid (Below wr.heap.size wr ((wr.alloc (.cells #[.slice a21 m21 d21, .slice a22 m22 d22, .slice a23 m23 d23] 22)).drew)) := ((Below.refl _ _).alloc (Nat.le_refl _) _).drew
                  have HC0 : Hid (((wr.alloc (.cells #[.slice a21 m21 d21, .slice a22 m22 d22, .slice a23 m23 d23] 22)).drew).cell? ⟨wr.heap.size, 0, none⟩ = some (JW.v (⟨0, a21, m21, d21, t⟩ : JW))) := (World.cell?_alloc_at _ _ _ _ rfl).trans rfl
                  have HC1 : Hid (((wr.alloc (.cells #[.slice a21 m21 d21, .slice a22 m22 d22, .slice a23 m23 d23] 22)).drew).cell? ⟨wr.heap.size, 1, none⟩ = some (JW.v (⟨0, a22, m22, d22, t⟩ : JW))) := (World.cell?_alloc_at _ _ _ _ rfl).trans rfl
                  have HC2 : Hid (((wr.alloc (.cells #[.slice a21 m21 d21, .slice a22 m22 d22, .slice a23 m23 d23] 22)).drew).cell? ⟨wr.heap.size, 2, none⟩ = some (JW.v (⟨0, a23, m23, d23, t2⟩ : JW))) := (World.cell?_alloc_at _ _ _ _ rfl).trans rfl
                  have HDA := hide (HD.out.below HA.out)
                  have HRW : Hid (∀ r ∈ [(⟨0, a21, m21, d21, t⟩ : JW), (⟨0, a22, m22, d22, t⟩ : JW), (⟨0, a23, m23, d23, t2⟩ : JW)], Own ((wr.alloc (.cells #[.slice a21 m21 d21, .slice a22 m22 d22, .slice a23 m23 d23] 22)).drew) W6.heap.size r.v r.l) := fun r hr => by
                    simp only [List.mem_cons, List.not_mem_nil, or_false] at hr
                    rcases hr with rfl | rfl | rfl
                    · exact (HO1Z.out.2.2.1.below (chain HBR.out HA.out))
                    · exact (HO2Z.out.2.2.1.below (chain HBR.out HA.out)).wk (by omega)
                    · exact (HO3Z.out.2.2.1.below (chain HBR.out HA.out)).wk (by omega)
                  have HNW : Hid (∀ r ∈ [(⟨0, a21, m21, d21, t⟩ : JW), (⟨0, a22, m22, d22, t⟩ : JW), (⟨0, a23, m23, d23, t2⟩ : JW)], ∀ q, r.v.ownBlock = some q → u17.ownBlock ≠ some q) := fun r hr q hq e => by
                    have h9 := HVB.out q e
                    have h8 := HBLK.out r (by rw [HALL.out]; simp only [List.mem_cons, List.not_mem_nil, or_false] at hr ⊢; rcases hr with rfl | rfl | rfl <;> simp) q hq
                    omega
                  have HLW : Hid ((ALL.take (3 * 2)).length + 3 ≤ 4398046511104) := by unfold Hid; rw [List.length_take]; omega
                  have HWW : Hid (W6.heap.size ≤ ((wr.alloc (.cells #[.slice a21 m21 d21, .slice a22 m22 d22, .slice a23 m23 d23] 22)).drew).heap.size) := by unfold Hid; have h1 := (chain HBR.out HA.out).size; omega
                  have HTK : Hid (ALL.take (3 * 3) = ALL.take (3 * 2) ++ [(⟨0, a21, m21, d21, t⟩ : JW), (⟨0, a22, m22, d22, t⟩ : JW), (⟨0, a23, m23, d23, t2⟩ : JW)]) := by unfold Hid; rw [HALL.out]; rfl
                  have HZA : Hid (W21.heap.size ≤ ((wr.alloc (.cells #[.slice a21 m21 d21, .slice a22 m22 d22, .slice a23 m23 d23] 22)).drew).heap.size) := (chain HBR.out HA.out).size
                  have HL1 : Hid (g1 < W21.heap.size) := by unfold Hid; have h1 := HN1.out; have h2 := HGC.out; omega
                  have HL2 : Hid (g2 < W21.heap.size) := by unfold Hid; have h1 := HN2.out; have h2 := HGC.out; omega
                  have HL3 : Hid (g3 < W21.heap.size) := by unfold Hid; have h1 := HN3.out; omega
                  clear hz hy hx15 hk
                  generalize ALL.take (3 * 2) = RS at *
                  go_wp2_with fail
                  go_region_held3 (fun wz => wz.cell? ⟨g1, 8, none⟩ = some (.slice a21 m21 d21) ∧ wz.cell? ⟨g2, 8, none⟩ = some (.slice a22 m22 d22) ∧ wz.cell? ⟨g3, 8, none⟩ = some (.slice a23 m23 d23)) (first | exact ⟨x1, x2, x3⟩ | exact ⟨cell_below x1 HA.out, cell_below x2 HA.out, cell_below x3 HA.out⟩ | exact ⟨z1, z2, z3⟩)
                    (first | (refine step_db3 rfl (.tmp 152) (.tmp 165) rfl W6.heap.size u17 RS (by simp [Act.eval]) HDA.out wr.heap.size (⟨0, a21, m21, d21, t⟩ : JW) (⟨0, a22, m22, d22, t⟩ : JW) (⟨0, a23, m23, d23, t2⟩ : JW) (by simp [Act.eval]) HC0.out HC1.out HC2.out HRW.out HNW.out HLW.out HWW.out ?_; intro v6 w6 ho hf hq; have HO6 := hide ho; have HF6 := hide hf; have HQ6 := hide hq; have HB6w := hide ((chain HBR.out HA.out).trans (hf.below HZA.out (fun b e => HVB.out b e))); have z1 := far_cell hf (cell_below x1 HA.out) HVB.out HL1.out; have z2 := far_cell hf (cell_below x2 HA.out) HVB.out HL2.out; have z3 := far_cell hf (cell_below x3 HA.out) HVB.out HL3.out; clear ho hf hq))
                  all_goals go_wp2
                  all_goals exact ⟨⟨3, by omega, by first | rfl | simp, by rw [HTK.out]; exact HO6, HB6w, fun b hb => by rcases HQ6.out b hb with e | e; exact HVB.out b e; exact Nat.le_trans HZA.out e⟩, by simp [intOf]⟩
              · --
                as_aux_lemma =>
                  have x1 : wr.cell? ⟨g1, 9, none⟩ = some (.slice a31 m31 d31) := cell_below (HT1Z.out.cell 9 _ rfl) HBR.out
                  have x2 : wr.cell? ⟨g2, 9, none⟩ = some (.slice a32 m32 d32) := cell_below (HT2Z.out.cell 9 _ rfl) HBR.out
                  have x3 : wr.cell? ⟨g3, 9, none⟩ = some (.slice a33 m33 d33) := cell_below (HT3Z.out.cell 9 _ rfl) HBR.out
                  have HA : Hid (Below wr.heap.size wr ((wr.alloc (.cells #[.slice a31 m31 d31, .slice a32 m32 d32, .slice a33 m33 d33] 22)).drew)) := ((Below.refl _ _).alloc (Nat.le_refl _) _).drew
                  have HC0 : Hid (((wr.alloc (.cells #[.slice a31 m31 d31, .slice a32 m32 d32, .slice a33 m33 d33] 22)).drew).cell? ⟨wr.heap.size, 0, none⟩ = some (JW.v (⟨0, a31, m31, d31, p⟩ : JW))) := (World.cell?_alloc_at _ _ _ _ rfl).trans rfl
                  have HC1 : Hid (((wr.alloc (.cells #[.slice a31 m31 d31, .slice a32 m32 d32, .slice a33 m33 d33] 22)).drew).cell? ⟨wr.heap.size, 1, none⟩ = some (JW.v (⟨0, a32, m32, d32, p⟩ : JW))) := (World.cell?_alloc_at _ _ _ _ rfl).trans rfl
                  have HC2 : Hid (((wr.alloc (.cells #[.slice a31 m31 d31, .slice a32 m32 d32, .slice a33 m33 d33] 22)).drew).cell? ⟨wr.heap.size, 2, none⟩ = some (JW.v (⟨0, a33, m33, d33, p2⟩ : JW))) := (World.cell?_alloc_at _ _ _ _ rfl).trans rfl
                  have HDA := hide (HD.out.below HA.out)
                  have HRW : Hid (∀ r ∈ [(⟨0, a31, m31, d31, p⟩ : JW), (⟨0, a32, m32, d32, p⟩ : JW), (⟨0, a33, m33, d33, p2⟩ : JW)], Own ((wr.alloc (.cells #[.slice a31 m31 d31, .slice a32 m32 d32, .slice a33 m33 d33] 22)).drew) W6.heap.size r.v r.l) := fun r hr => by
                    simp only [List.mem_cons, List.not_mem_nil, or_false] at hr
                    rcases hr with rfl | rfl | rfl
                    · exact (HO1Z.out.2.2.2.below (chain HBR.out HA.out))
                    · exact (HO2Z.out.2.2.2.below (chain HBR.out HA.out)).wk (by omega)
                    · exact (HO3Z.out.2.2.2.below (chain HBR.out HA.out)).wk (by omega)
                  have HNW : Hid (∀ r ∈ [(⟨0, a31, m31, d31, p⟩ : JW), (⟨0, a32, m32, d32, p⟩ : JW), (⟨0, a33, m33, d33, p2⟩ : JW)], ∀ q, r.v.ownBlock = some q → u17.ownBlock ≠ some q) := fun r hr q hq e => by
                    have h9 := HVB.out q e
                    have h8 := HBLK.out r (by rw [HALL.out]; simp only [List.mem_cons, List.not_mem_nil, or_false] at hr ⊢; rcases hr with rfl | rfl | rfl <;> simp) q hq
                    omega
                  have HLW : Hid ((ALL.take (3 * 3)).length + 3 ≤ 4398046511104) := by unfold Hid; rw [List.length_take]; omega
                  have HWW : Hid (W6.heap.size ≤ ((wr.alloc (.cells #[.slice a31 m31 d31, .slice a32 m32 d32, .slice a33 m33 d33] 22)).drew).heap.size) := by unfold Hid; have h1 := (chain HBR.out HA.out).size; omega
                  have HTK : Hid (ALL.take (3 * 4) = ALL.take (3 * 3) ++ [(⟨0, a31, m31, d31, p⟩ : JW), (⟨0, a32, m32, d32, p⟩ : JW), (⟨0, a33, m33, d33, p2⟩ : JW)]) := by unfold Hid; rw [HALL.out]; rfl
                  have HZA : Hid (W21.heap.size ≤ ((wr.alloc (.cells #[.slice a31 m31 d31, .slice a32 m32 d32, .slice a33 m33 d33] 22)).drew).heap.size) := (chain HBR.out HA.out).size
                  have HL1 : Hid (g1 < W21.heap.size) := by unfold Hid; have h1 := HN1.out; have h2 := HGC.out; omega
                  have HL2 : Hid (g2 < W21.heap.size) := by unfold Hid; have h1 := HN2.out; have h2 := HGC.out; omega
                  have HL3 : Hid (g3 < W21.heap.size) := by unfold Hid; have h1 := HN3.out; omega
                  clear hz hy hx15 hk
                  generalize ALL.take (3 * 3) = RS at *
                  go_wp2_with fail
                  go_region_held3 (fun wz => wz.cell? ⟨g1, 9, none⟩ = some (.slice a31 m31 d31) ∧ wz.cell? ⟨g2, 9, none⟩ = some (.slice a32 m32 d32) ∧ wz.cell? ⟨g3, 9, none⟩ = some (.slice a33 m33 d33)) (first | exact ⟨x1, x2, x3⟩ | exact ⟨cell_below x1 HA.out, cell_below x2 HA.out, cell_below x3 HA.out⟩ | exact ⟨z1, z2, z3⟩)
                    (first | (refine step_db3 rfl (.tmp 152) (.tmp 165) rfl W6.heap.size u17 RS (by simp [Act.eval]) HDA.out wr.heap.size (⟨0, a31, m31, d31, p⟩ : JW) (⟨0, a32, m32, d32, p⟩ : JW) (⟨0, a33, m33, d33, p2⟩ : JW) (by simp [Act.eval]) HC0.out HC1.out HC2.out HRW.out HNW.out HLW.out HWW.out ?_; intro v6 w6 ho hf hq; have HO6 := hide ho; have HF6 := hide hf; have HQ6 := hide hq; have HB6w := hide ((chain HBR.out HA.out).trans (hf.below HZA.out (fun b e => HVB.out b e))); have z1 := far_cell hf (cell_below x1 HA.out) HVB.out HL1.out; have z2 := far_cell hf (cell_below x2 HA.out) HVB.out HL2.out; have z3 := far_cell hf (cell_below x3 HA.out) HVB.out HL3.out; clear ho hf hq))
                  all_goals go_wp2
                  all_goals exact ⟨⟨4, by omega, by first | rfl | simp, by rw [HTK.out]; exact HO6, HB6w, fun b hb => by rcases HQ6.out b hb with e | e; exact HVB.out b e; exact Nat.le_trans HZA.out e⟩, by simp [intOf]⟩
              · --
                as_aux_lemma =>
                  have e12 : ALL.take (3 * 4) = ALL := by rw [HALL.out]; rfl
                  rw [e12] at HD
                  have hal : ALL.length = 12 := by rw [HALL.out]; rfl
                  obtain ⟨a17, c17, e17, _⟩ := RLk.row (.inl HD.out.row)
                  subst e17
                  rw [hal] at HD ⊢
                  have HAL := hide hal
                  clear e12 hal hz hy hx15
                  go_wp2_with fail
                  refine Calls.mono (kapart_any a17 12 c17 W6.heap.size ALL wr HD.out HAL.out HPALL.out HMALL.out (by decide) (by have h1 := HZs.out; have h2 := HZt.out; have h3 := HZ15.out; have h4 := HBR.out.size; omega)) ?_
                  rintro e w28 ⟨rfl, hf28⟩
                  have H15R := hide (chain H15Z.out HBR.out)
                  have HC28 := hide ((HCc.out.below H15R.out).frm hf28 (fun q hq ⟨r, hr, hb⟩ => by
                    have hq : some gc = some q := hq
                    simp only [Option.some.injEq] at hq
                    have h1 := HBLK.out r hr q hb
                    have h2 := HZs.out; have h3 := HZt.out; have h4 := HZ15.out; have h5 := HGC.out
                    omega))
                  have HX28 := hide ((HCx.out.below H15R.out).frm hf28 (fun q hq ⟨r, hr, hb⟩ => by
                    have hq : some gx = some q := hq
                    simp only [Option.some.injEq] at hq
                    have h1 := HBLK.out r hr q hb
                    have h2 := HZs.out; have h3 := HZt.out; have h4 := HZ15.out; have h5 := HG6.out; have h6 := HGC.out
                    omega))
                  have HY28 := hide ((HYF.out.below H15R.out).frm hf28 (fun q hq ⟨r, hr, hb⟩ => by
                    have hq : some gy = some q := hq
                    simp only [Option.some.injEq] at hq
                    have h1 := HBLK.out r hr q hb
                    have h2 := HZs.out; have h3 := HZt.out; have h4 := HZ15.out; have h5 := HG6.out; have h6 := HGC.out
                    omega))
                  have HBW28 := hide ((chain HBWF.out H15R.out).trans (hf28.below (B := w.heap.size) (chain HBWF.out H15R.out).size (fun q ⟨r, hr, hb⟩ => by
                    have h1 := HBLK.out r hr q hb
                    have h2 := HZs.out; have h3 := HZt.out; have h4 := HZ15.out; have h5 := HG6.out; have h6 := HB1.out.size; have h7 := HGC.out
                    omega)))
                  clear hf28 HD
                  go_wp2_with fail
                  refine Calls.mono (HRC.out _ _ _ _ w28 (HC28.out.bts HC.out.1 (by omega) HC.out.2) (by omega)) ?_
                  rintro e w29 ⟨gr3, cr3, rfl, ho29, hb29⟩
                  have H29 := hide hb29
                  have HQ := hide (equal_any (some ⟨gx, 0, none⟩) (some ⟨gr3, 0, none⟩) (n4 + 80) cx (n4 + 80) cr3 (C ++ spare) (C ++ spare) w29 ((HX28.out.below hb29).bts HXl2.out.1 (by omega) HXl2.out.2) (ho29.bts HXl2.out.1 (by omega) HXl2.out.2))
                  rw [show decide (C ++ spare = C ++ spare) = true by simp] at HQ
                  clear ho29 hb29
                  go_wp2_with fail
                  refine Calls.mono HQ.out ?_
                  rintro e w30 ⟨rfl, hb30⟩
                  have H30 := hide (chain H29.out hb30)
                  clear hb30 HQ
                  go_wp2_with fail
                  refine Calls.mono (HRC.out _ _ _ _ w30 (HS.out.below (chain HBW28.out H30.out)) (by omega)) ?_
                  rintro e w31 ⟨gr4, cr4, rfl, ho31, hb31⟩
                  have H31 := hide (chain H30.out hb31)
                  have HQ := hide (equal_any (some ⟨gy, 0, none⟩) (some ⟨gr4, 0, none⟩) (len + 80) cy (len + 80) cr4 (l ++ spare) (l ++ spare) w31 ((HY28.out.below H31.out).bts HYl.out.1 (by omega) HYl.out.2) (ho31.bts HYl.out.1 (by omega) HYl.out.2))
                  rw [show decide (l ++ spare = l ++ spare) = true by simp] at HQ
                  clear ho31 hb31
                  go_wp2_with fail
                  refine Calls.mono HQ.out ?_
                  rintro e w32 ⟨rfl, hb32⟩
                  have H32 := hide (chain H31.out hb32)
                  clear hb32 HQ
                  go_wp2
                  go_ret
                  exact ⟨rfl, chain HBW28.out H32.out⟩
end Go.Proofs.YtchmfjendnaflaaDoor.crcKeeps
