/-
  Tables with the same keys are the document's Equal; its Of; the law's from; what the reading of a table gives.
-/
import Derived.Test.YtleeallnfmafnaaDoorVsInto
import Derived.Test.YtleeallnfmafnaaDoorVdInts
namespace Go.Proofs.YtleeallnfmafnaaDoor.Vv
open Go.ChangeShapes Go.WideShapes Go.ChangeAt Go.RowKit Go.Deep FerryCrc
set_option linter.unusedVariables false
set_option linter.unusedSimpArgs false

set_option maxRecDepth 100000 in
set_option maxHeartbeats 3000000 in
theorem tabEq_yes (w : World) (KP KR KT : List (List Lit)) (xa3 xa4 xa5 ya3 ya4 ya5 : Option Addr) (xn3 xc3 xn4 xc4 xn5 xc5 yn3 yc3 yn4 yc4 yn5 yc5 : Nat) (x3 : Kv w 64 21 xa3 xn3 KP) (x4 : Kv w 3 1 xa4 xn4 KR) (x5 : Kv w 66 2 xa5 xn5 KT) (y3 : Kv w 64 21 ya3 yn3 KP) (y4 : Kv w 3 1 ya4 yn4 KR) (y5 : Kv w 66 2 ya5 yn5 KT) :
    Calls Tryd.prog 9 #[.agg #[.slice xa3 xn3 xc3, .slice xa4 xn4 xc4, .slice xa5 xn5 xc5], .agg #[.slice ya3 yn3 yc3, .slice ya4 yn4 yc4, .slice ya5 yn5 yc5]] w fun e w' => e = .returned (.bool true) ∧ Below w.heap.size w w' := by
  obtain rfl : xn3 = yn3 := by rw [← x3.size, y3.size]
  obtain rfl : xn4 = yn4 := by rw [← x4.size, y4.size]
  obtain rfl : xn5 = yn5 := by rw [← x5.size, y5.size]
  have m3 := x3.most
  have m5 := x5.most
  have P1 := one_below w (.cells #[.slice xa3 xn3 xc3, .slice xa4 xn4 xc4, .slice xa5 xn5 xc5] 31)
  have P2 := one_below (w.alloc (.cells #[.slice xa3 xn3 xc3, .slice xa4 xn4 xc4, .slice xa5 xn5 xc5] 31)) (.cells #[.slice ya3 xn3 yc3, .slice ya4 xn4 yc4, .slice ya5 xn5 yc5] 31)
  have b1 := bl_alloc w #[.slice xa3 xn3 xc3, .slice xa4 xn4 xc4, .slice xa5 xn5 xc5] 31
  have b2 := bl_alloc (w.alloc (.cells #[.slice xa3 xn3 xc3, .slice xa4 xn4 xc4, .slice xa5 xn5 xc5] 31)) #[.slice ya3 xn3 yc3, .slice ya4 xn4 yc4, .slice ya5 xn5 yc5] 31
  rw [show (w.alloc (.cells #[.slice xa3 xn3 xc3, .slice xa4 xn4 xc4, .slice xa5 xn5 xc5] 31)).heap.size = w.heap.size + 1 by simp] at b2
  have BX := hide (b1.below (by simp) P2)
  have BY := hide b2
  have HB0 := hide (chain P1 P2)
  have hz : ((w.alloc (.cells #[.slice xa3 xn3 xc3, .slice xa4 xn4 xc4, .slice xa5 xn5 xc5] 31)).alloc (.cells #[.slice ya3 xn3 yc3, .slice ya4 xn4 yc4, .slice ya5 xn5 yc5] 31)).heap.size = w.heap.size + 1 + 1 := by simp
  have X3 := hide (x3.below HB0.out)
  have X4 := hide (x4.below HB0.out)
  have X5 := hide (x5.below HB0.out)
  have Y3 := hide (y3.below HB0.out)
  have Y4 := hide (y4.below HB0.out)
  have Y5 := hide (y5.below HB0.out)
  clear x3 x4 x5 y3 y4 y5 P1 P2 b1 b2
  go_enter Tryd.func9, Tryd.ntmps9
  go_upto_region 1 with fail
  generalize (w.alloc (.cells #[.slice xa3 xn3 xc3, .slice xa4 xn4 xc4, .slice xa5 xn5 xc5] 31)).alloc (.cells #[.slice ya3 xn3 yc3, .slice ya4 xn4 yc4, .slice ya5 xn5 yc5] 31) = W0 at *
  have HLx : Hid (w.heap.size < W0.heap.size) := by unfold Hid; omega
  have HLy : Hid (w.heap.size + 1 < W0.heap.size) := by unfold Hid; omega
  clear hz
  have d0x := BX.out.cell 0 _ rfl
  have d0y := BY.out.cell 0 _ rfl
  have d1x := BX.out.cell 1 _ rfl
  have d1y := BY.out.cell 1 _ rfl
  have d2x := BX.out.cell 2 _ rfl
  have d2y := BY.out.cell 2 _ rfl
  have C : Hid (Calls Tryd.prog 11 #[.slice xa4 xn4 xc4, .slice ya4 xn4 yc4] W0 fun e w' => e = .returned (.bool true) ∧ Below W0.heap.size W0 w') := by
    have := eqInts_any xa4 xn4 xc4 KR ya4 xn4 yc4 KR W0 X4.out Y4.out
    rw [eqb_yes rfl] at this
    exact this
  go_wp2_with fail
  refine Calls.mono C.out ?_
  rintro e w1 ⟨rfl, b1⟩
  have B1 := hide b1
  clear b1 C d0x d0y d1x d1y d2x d2y
  go_wp2
  go_loopw [5] (fun i wr => ∃ k : Nat, k ≤ xn3 ∧ i = .int .i64 k ∧ Hid (Below W0.heap.size W0 wr)) (fun i _ => xn3 - (intOf i).toNat)
  case atStart => exact ⟨0, by omega, rfl, B1.out⟩
  case round =>
    obtain ⟨k, hk, rfl, hb⟩ := hrel
    have d0x := (BX.out.below HLx.out hb.out).cell 0 _ rfl
    have d0y := (BY.out.below HLy.out hb.out).cell 0 _ rfl
    by_cases hlt : k < xn3
    · obtain ⟨l1, b, off, row, D1, hl1, e1, hr1, hz1, hk1⟩ := (X3.out.below hb.out).at hlt
      obtain ⟨l2, b', off', row', D2, hl2, e2, hr2, hz2, hk2⟩ := (Y3.out.below hb.out).at hlt
      subst e1 e2
      obtain rfl : l1 = l2 := Option.some.inj (hl1.symm.trans hl2)
      have hne : ∀ w, (binOp .neq 64 (.agg row.toArray) (.agg row'.toArray)).run Tryd.prog w = .ok (.bool false) w := fun w => by
        have h := neq_keys (m := 4) (P := Tryd.prog) (t := 64) (by kernel_rfl) (by decide) (formed_proc hz1) (formed_proc hz2) hk1 hk2 w
        rw [eqb_yes rfl] at h
        exact h
      have hu41 := Tryd.underlying64
      have hi1 : (Tryd.prog.info? 64).map (·.size) = some row.length := by rw [hz1]; exact info_proc
      have hi2 : (Tryd.prog.info? 64).map (·.size) = some row'.length := by rw [hz2]; exact info_proc
      clear hl1 hl2 hk1 hk2 hz1 hz2
      go_wp2
      refine wp_region_quiet_lit (by kernel_rfl) (by kernel_rfl) ?_
      repeat (first
        | (go_big_quiet_want; refine quiet_load_mid 64 (.tmp 41) rfl b (off + k * 21) rfl row _ hr1 hu41 rfl hi1 ?_; simp only [Act.put, List.setIfInBounds_toArray, List.set_cons_succ, List.set_cons_zero]; go_big_quiet_on)
        | (go_big_quiet_want; refine quiet_load_mid 64 (.tmp 46) rfl b' (off' + k * 21) rfl row' _ hr2 hu41 rfl hi2 ?_; simp only [Act.put, List.setIfInBounds_toArray, List.set_cons_succ, List.set_cons_zero]; go_big_quiet_on)
        | (go_big_quiet_want; refine quiet_neq 64 64 (.tmp 42) (.tmp 47) rfl _ _ rfl rfl (by kernel_rfl) _ hne ?_; simp only [Act.put, List.setIfInBounds_toArray, List.set_cons_succ, List.set_cons_zero]; go_big_quiet_on)
        | go_big_quiet_step (fail))
      refine wpQuiet_nil ?_
      intro _ hw'
      obtain ⟨nq, rfl⟩ := hw'
      clear hne hr1 hr2 hu41 hi1 hi2 d0x d0y
      go_wp2
      go_roundw
      case rel => exact ⟨k + 1, by omega, by go_num, vdrewN_below hb.out nq⟩
      case measure => simp [intOf]; omega
    · obtain rfl : k = xn3 := by omega
      clear hlt hk
      have B2 := hide hb.out
      clear hb
      obtain ⟨uB2, huB2⟩ : ∃ W, W = wr := ⟨_, rfl⟩
      subst huB2
      go_wp2
      go_loopw [6] (fun i wr => ∃ k : Nat, k ≤ xn5 ∧ i = .int .i64 k ∧ Hid (Below W0.heap.size W0 wr)) (fun i _ => xn5 - (intOf i).toNat)
      case atStart => exact ⟨0, by omega, rfl, B2.out⟩
      case round =>
        obtain ⟨k, hk, rfl, hb⟩ := hrel
        have d2x := (BX.out.below HLx.out hb.out).cell 2 _ rfl
        have d2y := (BY.out.below HLy.out hb.out).cell 2 _ rfl
        by_cases hlt : k < xn5
        · obtain ⟨l1, b, off, row, D1, hl1, e1, hr1, hz1, hk1⟩ := (X5.out.below hb.out).at hlt
          obtain ⟨l2, b', off', row', D2, hl2, e2, hr2, hz2, hk2⟩ := (Y5.out.below hb.out).at hlt
          subst e1 e2
          obtain rfl : l1 = l2 := Option.some.inj (hl1.symm.trans hl2)
          have hne : ∀ w, (binOp .neq 66 (.agg row.toArray) (.agg row'.toArray)).run Tryd.prog w = .ok (.bool false) w := fun w => by
            have h := neq_keys (m := 4) (P := Tryd.prog) (t := 66) (by kernel_rfl) (by decide) (formed_timer hz1) (formed_timer hz2) hk1 hk2 w
            rw [eqb_yes rfl] at h
            exact h
          have hu41 := Tryd.underlying66
          have hi1 : (Tryd.prog.info? 66).map (·.size) = some row.length := by rw [hz1]; exact info_timer
          have hi2 : (Tryd.prog.info? 66).map (·.size) = some row'.length := by rw [hz2]; exact info_timer
          clear hl1 hl2 hk1 hk2 hz1 hz2
          go_wp2
          refine wp_region_quiet_lit (by kernel_rfl) (by kernel_rfl) ?_
          repeat (first
            | (go_big_quiet_want; refine quiet_load_mid 66 (.tmp 59) rfl b (off + k * 2) rfl row _ hr1 hu41 rfl hi1 ?_; simp only [Act.put, List.setIfInBounds_toArray, List.set_cons_succ, List.set_cons_zero]; go_big_quiet_on)
            | (go_big_quiet_want; refine quiet_load_mid 66 (.tmp 64) rfl b' (off' + k * 2) rfl row' _ hr2 hu41 rfl hi2 ?_; simp only [Act.put, List.setIfInBounds_toArray, List.set_cons_succ, List.set_cons_zero]; go_big_quiet_on)
            | (go_big_quiet_want; refine quiet_neq 66 66 (.tmp 60) (.tmp 65) rfl _ _ rfl rfl (by kernel_rfl) _ hne ?_; simp only [Act.put, List.setIfInBounds_toArray, List.set_cons_succ, List.set_cons_zero]; go_big_quiet_on)
            | go_big_quiet_step (fail))
          refine wpQuiet_nil ?_
          intro _ hw'
          obtain ⟨nq, rfl⟩ := hw'
          clear hne hr1 hr2 hu41 hi1 hi2 d2x d2y
          go_wp2
          go_roundw
          case rel => exact ⟨k + 1, by omega, by go_num, vdrewN_below hb.out nq⟩
          case measure => simp [intOf]; omega
        · obtain rfl : k = xn5 := by omega
          clear hlt hk
          have B3 := hide hb.out
          clear hb
          obtain ⟨uB3, huB3⟩ : ∃ W, W = wr := ⟨_, rfl⟩
          subst huB3
          go_wp2
          go_ret
          exact ⟨rfl, chain HB0.out B3.out⟩

set_option maxRecDepth 100000 in
theorem rOf_any (w : World) (v0 v1 v2 v6 v7 v8 v9 : Value) (a3 a4 a5 : Option Addr) (n3 c3 n4 c4 n5 c5 : Nat) :
    Calls Tryd.prog 5 #[.agg #[v0, v1, v2, .slice a3 n3 c3, .slice a4 n4 c4, .slice a5 n5 c5, v6, v7, v8, v9]] w fun e w' => e = .returned (.agg #[.slice a3 n3 c3, .slice a4 n4 c4, .slice a5 n5 c5]) ∧ Below w.heap.size w w' := by
  have HB := hide (chain (one_below w (.cells #[v0, v1, v2, .slice a3 n3 c3, .slice a4 n4 c4, .slice a5 n5 c5, v6, v7, v8, v9] 29)) (one_below (w.alloc (.cells #[v0, v1, v2, .slice a3 n3 c3, .slice a4 n4 c4, .slice a5 n5 c5, v6, v7, v8, v9] 29)) (.cells #[.slice a3 n3 c3, .slice a4 n4 c4, .slice a5 n5 c5] 31)))
  go_enter Tryd.func5, Tryd.ntmps5
  go_wp2
  refine bodyPost_ret (v := .agg #[.slice a3 n3 c3, .slice a4 n4 c4, .slice a5 n5 c5]) (by simp [results, Tryd.results5, go_sem]) rfl ?_
  exact ⟨rfl, HB.out⟩
theorem ocells_table : Tryd.prog.cellsOf 31 = 3 := by kernel_rfl
set_option maxRecDepth 100000 in
theorem table_open {H : Type} {enc : TypeId × Value → H} {W : World} {fuel : Nat} {cs : List Value} {x : DataW H × List MemPlace}
    (h2 : DataW.trod enc Tryd.prog W 0 (fun _ => true) true fuel 31 cs = some x) (hw : ∀ m ∈ x.1.weights Tryd.prog 31, m ≤ reachBytes) :
    ∃ a3 n3 c3 r3 K3 a4 n4 c4 r4 K4 a5 n5 c5 r5 K5, cs = [.slice a3 n3 c3, .slice a4 n4 c4, .slice a5 n5 c5] ∧ Kr W 64 21 104 a3 n3 c3 r3 K3 ∧ Kr W 3 1 8 a4 n4 c4 r4 K4 ∧ Kr W 66 2 16 a5 n5 c5 r5 K5 := by
  obtain ⟨xs, n, _, hx, hcl, hxl, hff⟩ := DataW.trod_struct Tryd.underlying31 h2
  rw [ocells_table] at hcl
  match xs, hxl, cs, hcl with
  | [y3, y4, y5], _, [v3, v4, v5], _ =>
    have g3 : DataW.trod enc Tryd.prog W 0 (fun _ => true) true n 22 (([v3, v4, v5].drop 0).take (Tryd.prog.cellsOf 22)) = some y3 := hff 0 _ rfl
    rw [ocells_procsS] at g3
    have g4 : DataW.trod enc Tryd.prog W 0 (fun _ => true) true n 23 (([v3, v4, v5].drop 1).take (Tryd.prog.cellsOf 23)) = some y4 := hff 1 _ rfl
    rw [ocells_readyS] at g4
    have g5 : DataW.trod enc Tryd.prog W 0 (fun _ => true) true n 24 (([v3, v4, v5].drop 2).take (Tryd.prog.cellsOf 24)) = some y5 := hff 2 _ rfl
    rw [ocells_timersS] at g5
    simp only [List.drop_zero, List.take_succ_cons, List.take_zero, List.drop_succ_cons] at g3 g4 g5
    rw [hx] at hw
    simp only [DataW.weights, Tryd.underlying31] at hw
    obtain ⟨a3, n3, c3, rfl⟩ := slice_form Tryd.underlying22 g3
    obtain ⟨r3, K3, h3⟩ := kr_open_proc g3 (fun m hm => hw m (weightsEach_mem (j := 0) rfl rfl m hm))
    obtain ⟨a4, n4, c4, rfl⟩ := slice_form Tryd.underlying23 g4
    obtain ⟨r4, K4, h4⟩ := kr_open_int g4 (fun m hm => hw m (weightsEach_mem (j := 1) rfl rfl m hm))
    obtain ⟨a5, n5, c5, rfl⟩ := slice_form Tryd.underlying24 g5
    obtain ⟨r5, K5, h5⟩ := kr_open_timer g5 (fun m hm => hw m (weightsEach_mem (j := 2) rfl rfl m hm))
    exact ⟨a3, n3, c3, r3, K3, a4, n4, c4, r4, K4, a5, n5, c5, r5, K5, rfl, h3, h4, h5⟩
end Go.Proofs.YtleeallnfmafnaaDoor.Vv
