/-
  Walk of the law ChunkCuts.
-/
import Derived.Test.YtdbciciljeainaaDoorCkKnown
import Derived.Test.YtdbciciljeainaaDoorCkPce
import Derived.Test.YtdbciciljeainaaDoorCkCode
import Derived.Test.YtdbciciljeainaaDoorCkDAns
import Derived.Test.YtdbciciljeainaaDoorXrCut
import Derived.BigRegion
namespace Go.Proofs.YtdbciciljeainaaDoor.chunkCuts
open Go.RowKit FerryCrc
set_option linter.unusedVariables false
set_option linter.unusedSimpArgs false

theorem nt_eqs (x0 x1 x2 x3 x4 x5 x6 x7 x8 : Int) (x9 : ByteArray) (w : World) : (binOp .eql 26 (.agg #[.int .i64 x0, .int .i64 x1, .int .i64 x2, .int .i64 x3, .int .i64 x4, .int .i64 x5, .int .i64 x6, .int .i64 x7, .int .u32 x8, .string x9]) (.agg #[.int .i64 x0, .int .i64 x1, .int .i64 x2, .int .i64 x3, .int .i64 x4, .int .i64 x5, .int .i64 x6, .int .i64 x7, .int .u32 x8, .string x9])).run Tryd.prog w = .ok (.bool true) w := by
  go_simp
theorem nt_neqs (x : Nt) (w : World) : (binOp .neq 26 (.agg #[.int .i64 x.kind, .int .i64 x.part, .int .i64 x.boot, .int .i64 x.peer, .int .i64 x.num, .int .i64 x.stage, .int .i64 x.index, .int .i64 x.total, .int .u32 x.sum, .string x.data]) (.agg #[.int .i64 x.kind, .int .i64 x.part, .int .i64 x.boot, .int .i64 x.peer, .int .i64 x.num, .int .i64 x.stage, .int .i64 x.index, .int .i64 x.total, .int .u32 x.sum, .string x.data])).run Tryd.prog w = .ok (.bool false) w := by
  go_simp
theorem chk_le20 (n : Nt) : chk n ≤ 20 := by
  unfold chk
  repeat' split
  all_goals decide
theorem cutE_le (pt b r m st : Int) (n : Nat) : cutE pt b r m st n ≤ 20 := by
  unfold cutE
  repeat' split
  all_goals decide
theorem cutL_le (pt b r m st : Int) (L : List Nat) : (cutL pt b r m st L).length ≤ 32 := by
  unfold cutL
  split
  · rename_i h
    have h1 := cutE_ok h
    rw [cutN_len]
    unfold tot
    omega
  · decide
theorem ansE2_le (n : Nt) (kd su : Int) : ansE2 n kd su ≤ 20 := by
  unfold ansE2
  repeat' split
  all_goals first | decide | exact chk_le20 _
theorem own_rcs {α : Type} {f : α → List Value} {sz : Nat} {e : TypeId} {w : World} {base : Nat} {a : Option Addr} {n c : Nat} {l : List α} (h : LOwn f sz e w base (.slice a n c) l) : Rcs f sz w a n c l := by
  obtain ⟨a', c', e1, hr⟩ := h.rcs
  injection e1 with h1 h2 h3
  subst h1 h2 h3
  exact hr
theorem er10_e {w : World} {E : Nat → Addr} (h : Errs w E) : Er10 w E := ⟨h.er7, h.v1, h.v5, h.v6⟩
/-- Bytes that may be written. -/
def InB (w : World) (g n : Nat) : Prop := ∀ k, k < n → (∃ x : Int, w.cell? ⟨g, k, none⟩ = some (.int .u8 x)) ∧ w.frozen? ⟨g, k, none⟩ = false
theorem InB.below {w w' : World} {g n : Nat} (h : InB w g n) (hb : Below w.heap.size w w') : InB w' g n := fun k hk => by
  obtain ⟨⟨x, c⟩, f⟩ := h k hk
  refine ⟨⟨x, cell_below c hb⟩, ?_⟩
  unfold World.frozen? at *
  rw [hb.block g (block_lt_of_cell c)]
  exact f
theorem InB.set {w : World} {g n j : Nat} (h : InB w g n) (hj : j < n) (x : Int) : InB (w.setCell ⟨g, j, none⟩ (.int .u8 x)) g n := fun k hk => by
  obtain ⟨⟨y, c⟩, f⟩ := h k hk
  refine ⟨?_, by rw [World.frozen?_setCell]; exact f⟩
  by_cases e : j = k
  · subst e
    exact ⟨x, World.cell?_setCell_same _ _ _ c⟩
  · refine ⟨y, ?_⟩
    rw [World.cell?_setCell_other _ _ _ _ (by intro h2; apply e; injection h2)]
    exact c
theorem conv_in (w : World) (S : ByteArray) (n : Nat) (hn : S.size = n) (hm : n ≤ 140737488351232) : ∃ c w', (convert 9 47 (.string S)).run Tryd.prog w = .ok (.slice (some ⟨w.heap.size, 0, none⟩) n c) w' ∧ Bts w' (some ⟨w.heap.size, 0, none⟩) n c (bytesOf S) ∧ InB w' w.heap.size n ∧ w.heap.size < w'.heap.size ∧ Below w.heap.size w w' := by
  subst hn
  obtain ⟨c, w', hr, hb, hd⟩ := conv_lay w S S.size rfl hm
  have hr' := run_bytes_of_string (P := Tryd.prog) w 9 47 5 S Tryd.underlying9 Tryd.underlying47 Tryd.underlying5
  rw [hr] at hr'
  injection hr' with h1 h2
  refine ⟨c, w', hr, hb, fun k hk => ?_, by rw [h2]; show _ < (Array.push _ _).size; rw [Array.size_push]; exact Nat.lt_succ_self _, hd⟩
  obtain ⟨bb, off, ha, x, hl, hc⟩ := hb.cell k hk
  simp only [Option.some.injEq, Addr.mk.injEq, and_true] at ha
  obtain ⟨rfl, rfl⟩ := ha
  rw [Nat.zero_add] at hc
  refine ⟨⟨x, hc⟩, ?_⟩
  rw [h2]
  have h3 := (Array.getElem?_eq_some_iff.1 (bytesRow_at S (grownCap w S.size 0 5) k hk)).1
  unfold World.frozen?
  rw [show (w.drew.alloc (.cells (bytesRow S (grownCap w S.size 0 5)) 5 ((bytesRow S (grownCap w S.size 0 5)).size, (bytesRow S (grownCap w S.size 0 5)).size + 1))).heap[(⟨w.heap.size, k, none⟩ : Addr).block]? = _ from heap_alloc_new w.drew _]
  show (decide (_ ≤ k) && decide (k < _)) = false
  rw [decide_eq_false (by omega)]
  rfl

set_option maxRecDepth 100000 in
set_option maxHeartbeats 4000000 in
theorem law (p : Pce) (n : Nt) (kd : Int) (w : World) {E : Nat → Addr} (he : Errs w E) (okp : p.Ok) (ok : n.Ok ∧ 0 ≤ n.sum ∧ n.sum < 4294967296) :
    Calls Tryd.prog 4 #[.agg p.cells.toArray, .agg n.cells.toArray, .int .i64 kd] w fun e w' => e = .returned (.bool true) ∧ Below w.heap.size w w' := by
  obtain ⟨ok, s0, s1⟩ := ok
  have him := okp.im
  clear okp
  have HOK := hide ok
  obtain ⟨k, pt, b, r, m, st, ix, tt, sm, d⟩ := n
  obtain ⟨pp, ps, pb, pr, pm, im⟩ := p
  replace him : im.size ≤ 140737488351232 := him
  clear s0 s1
  obtain ⟨W, hW, B0, B1, D0⟩ := box2 w [.int .i64 pp, .int .i64 ps, .int .i64 pb, .int .i64 pr, .int .i64 pm, .string im] 43 [.int .i64 k, .int .i64 pt, .int .i64 b, .int .i64 r, .int .i64 m, .int .i64 st, .int .i64 ix, .int .i64 tt, .int .u32 sm, .string d] 26
  obtain ⟨g, hg⟩ : ∃ g, w.heap.size = g := ⟨_, rfl⟩
  obtain ⟨h, hh⟩ : ∃ h, g + 1 = h := ⟨_, rfl⟩
  rw [hg] at B0 B1
  rw [hh] at B1
  have HP := hide B0
  have HN := hide B1
  have HD := hide D0
  have HE := hide (he.below D0)
  have HWD := hide hW
  have HGG := hide hg
  have HHH := hide hh
  have HIM := hide him
  clear B0 B1 D0 hW he hg hh ok him
  show Calls Tryd.prog 4 #[.agg #[.int .i64 pp, .int .i64 ps, .int .i64 pb, .int .i64 pr, .int .i64 pm, .string im], .agg #[.int .i64 k, .int .i64 pt, .int .i64 b, .int .i64 r, .int .i64 m, .int .i64 st, .int .i64 ix, .int .i64 tt, .int .u32 sm, .string d], .int .i64 kd] w _
  go_enter Tryd.func4, Tryd.ntmps4
  go_upto_region 1 with fail
  have hW := HWD.out
  have hg := HGG.out
  have hh := HHH.out
  clear HWD HGG HHH
  simp only [hW, hg, hh]
  clear hW hg hh
  go_wp2_with fail
  refine Calls.mono (known_any (er10_e HE.out)) ?_
  rintro e w1 ⟨rfl, b1⟩
  replace HP := hide (HP.out.below b1)
  replace HN := hide (HN.out.below b1)
  replace HE := hide (HE.out.below b1)
  replace HD := hide (chain HD.out b1)
  clear b1

  obtain ⟨z, hz⟩ : ∃ z, im.size = z := ⟨_, rfl⟩
  obtain ⟨cq, w2, hrun, hs2, b2⟩ := conv_lay w1 im z hz (by have := HIM.out; omega)
  go_upto_region 3 with fail
  have c0 := HP.out.cell 0 rfl
  have c1 := HP.out.cell 1 rfl
  have c2 := HP.out.cell 2 rfl
  have c3 := HP.out.cell 3 rfl
  have c4 := HP.out.cell 4 rfl
  have c5 := HP.out.cell 5 rfl
  have HRC := hide (rcut_any pp pb pr pm ps (some ⟨w1.heap.size, 0, none⟩) z cq (bytesOf im) hs2)
  obtain ⟨XE, hXE⟩ : ∃ x, cutE pp pb pr pm ps z = x := ⟨_, rfl⟩
  obtain ⟨XL, hXL⟩ : ∃ x, cutL pp pb pr pm ps (bytesOf im) = x := ⟨_, rfl⟩
  have HX20 := hide (cutE_le pp pb pr pm ps z)
  have HXL32 := hide (cutL_le pp pb pr pm ps (bytesOf im))
  have HZB : Hid (z ≤ 140737488351232) := by have := HIM.out; unfold Hid; omega
  rw [hXE, hXL] at HRC
  rw [hXE] at HX20
  rw [hXL] at HXL32
  have HXE := hide hXE
  have HXL := hide hXL
  have HZ := hide hz
  clear hXE hXL hs2 hz
  go_wp2_with fail
  refine Calls.mono HRC.out ?_
  rintro e w3 ⟨v, rfl, o3, b3⟩
  obtain ⟨wa, wc, rfl, r3⟩ := o3.rcs
  obtain ⟨mm, hmm⟩ : ∃ x, XL.length = x := ⟨_, rfl⟩
  rw [hmm] at r3 ⊢
  have HML := hide hmm
  rw [hmm] at HXL32
  have HWA := hide r3
  have b23 := chain b2 b3
  replace HP := hide (HP.out.below b23)
  replace HN := hide (HN.out.below b23)
  replace HE := hide (HE.out.below b23)
  replace HD := hide (chain HD.out b23)
  clear b2 b3 b23 o3 r3 hmm HRC hrun c0 c1 c2 c3 c4 c5
  obtain ⟨gi, hgi⟩ : ∃ x, w3.heap.size = x := ⟨_, rfl⟩
  obtain ⟨ca, w4, hrun, hs4, i4, l4, b4⟩ := conv_in w3 im z HZ.out (by have := HIM.out; have := HZ.out; omega)
  rw [hgi] at hrun hs4 i4 l4
  have HB4 := hide hs4
  have HI4 := hide i4
  have HRU := hide hrun
  have HD4 := hide b4
  have HGI := hide hgi
  have HL4 := hide l4
  clear hs4 i4 b4 hrun hgi l4
  go_upto_region 4 with fail
  have c0 := HP.out.cell 0 rfl
  have c1 := HP.out.cell 1 rfl
  have c2 := HP.out.cell 2 rfl
  have c3 := HP.out.cell 3 rfl
  have c4 := HP.out.cell 4 rfl
  have c5 := HP.out.cell 5 rfl
  have hrun := HRU.out
  go_upto_region 5 with fail
  clear hrun HRU c0 c1 c2 c3 c4 c5
  have HP4 := hide (HP.out.below HD4.out)
  have c0 := HP4.out.cell 0 rfl
  have c1 := HP4.out.cell 1 rfl
  have c2 := HP4.out.cell 2 rfl
  have c3 := HP4.out.cell 3 rfl
  have c4 := HP4.out.cell 4 rfl
  have c5 := HP4.out.cell 5 rfl
  have HCU := hide (cut_any pp pb pr pm ps (some ⟨gi, 0, none⟩) z ca (bytesOf im) (HE.out.below HD4.out).er7 HB4.out)
  rw [HXE.out, HXL.out] at HCU
  go_wp2_with fail
  refine Calls.mono HCU.out ?_
  rintro e w5 ⟨v, rfl, o5, b5⟩
  obtain ⟨ga, gc, rfl, r5⟩ := o5.rcs
  rw [HML.out] at r5 ⊢
  have HG5 := hide o5
  have HS4 := hide (show w4.heap.size ≤ w5.heap.size from b5.size)
  replace HI4 := hide (HI4.out.below b5)
  replace HB4 := hide (HB4.out.below b5)
  have b45 := chain HD4.out b5
  have HD5 := hide b45
  clear b5 b45 o5 r5 HCU HP4 c0 c1 c2 c3 c4 c5 HD4
  have HLC := hide (lcode_any (HE.out.below HD5.out) XE HX20.out)
  go_upto_region 6 with fail
  go_wp2_with fail
  refine Calls.mono HLC.out ?_
  rintro e w6 ⟨rfl, b6⟩
  replace HI4 := hide (HI4.out.below b6)
  replace HB4 := hide (HB4.out.below b6)
  rw [HML.out] at HG5
  replace HG5 := hide (HG5.out.below b6)
  replace HD5 := hide (chain HD5.out b6)
  clear b6 HLC
  have hcv := bts_string HB4.out
  rw [str_bytesOf] at hcv
  have HP6 := hide (HP.out.below HD5.out)
  have c0 := HP6.out.cell 0 rfl
  have c1 := HP6.out.cell 1 rfl
  have c2 := HP6.out.cell 2 rfl
  have c3 := HP6.out.cell 3 rfl
  have c4 := HP6.out.cell 4 rfl
  have c5 := HP6.out.cell 5 rfl
  go_upto_region 9 with fail
  have HNE := hide (LOwn.off HG5.out HL4.out)
  have hD6 := HD5.out
  rw [HGI.out] at hD6
  have HD6 := hide hD6
  clear hD6 hcv HP6 c0 c1 c2 c3 c4 c5 HB4 HXE HXL HX20 HP HIM
  obtain ⟨bs, hbs⟩ : ∃ x, w4.heap.size = x := ⟨_, rfl⟩
  rw [hbs] at HG5
  clear hbs HL4 HS4 HZ

  go_loopw [12] (fun s wr => ∃ j : Nat, j ≤ z ∧ s = .int .i64 (j : Int) ∧ Hid (InB wr gi z) ∧ Hid (NOwn wr bs (.slice ga mm gc) XL) ∧ Hid (Below gi w3 wr)) (fun s _ => z - (intOf s).toNat)
  case atStart => exact ⟨0, Nat.zero_le _, rfl, HI4.out, HG5.out, HD6.out⟩
  case round =>
    obtain ⟨j, hj, rfl, HI, HG, HB⟩ := hrel
    clear HI4 HG5 HD6 HD5
    by_cases hlt : j < z
    · --
      obtain ⟨⟨x, c⟩, f⟩ := HI.out j hlt
      have hj1 : (j : Int) < (z : Int) := by omega
      have hjw : j < 140737488351232 := by have := HZB.out; omega
      obtain ⟨y, hy⟩ : ∃ y, IntKind.u8.wrap (x + 1) = y := ⟨_, rfl⟩
      have Q1 := hide (HI.out.set hlt y)
      have Q2 := hide (LOwn.far HG.out (p := ⟨gi, j, none⟩) HNE.out (.int .u8 y))
      have Q3 := hide (HB.out.setCell (p := ⟨gi, j, none⟩) (Nat.le_refl _) (.int .u8 y))
      go_wp2
      exact ⟨⟨j + 1, by omega, by simp, Q1.out, Q2.out, Q3.out⟩, by simp [intOf]; omega⟩
    · obtain rfl : z = j := by omega
      have hnk : ¬ (z : Int) < (z : Int) := by omega
      clear HI HNE
      go_upto_region 13 with fail
      have HGR := hide (own_rcs HG.out)
      clear HG
      obtain ⟨w7, hw7⟩ : ∃ x, x = wr := ⟨_, rfl⟩
      rw [← hw7] at HGR HB ⊢
      clear hw7 wr
      have hgt : Tryd.prog.eqGuardType Tryd.prog.depth 26 = false := by kernel_rfl
      go_loopw [13] (fun s wr => ∃ j : Nat, j ≤ mm ∧ s = .int .i64 (j : Int) ∧ Hid (Below w7.heap.size w7 wr)) (fun s _ => mm - (intOf s).toNat)
      case atStart => exact ⟨0, Nat.zero_le _, rfl, Below.refl _ _⟩
      case round =>
        obtain ⟨j, hj, rfl, HR⟩ := hrel
        by_cases hlt2 : j < mm
        · --
          have hml := HML.out
          obtain ⟨x, hx⟩ : ∃ x, XL[j]? = some x := ⟨_, List.getElem?_eq_getElem (by omega)⟩
          have hB3 := HB.out
          rw [← HGI.out] at hB3
          obtain ⟨b1, o1, rfl, hc1⟩ := (HGR.out.below HR.out).at nt10 (by decide) hx
          obtain ⟨b2, o2, rfl, hc2⟩ := ((HWA.out.below hB3).below HR.out).at nt10 (by decide) hx
          clear hB3
          have n0 := hc1 0 _ rfl
          have n1 := hc1 1 _ rfl
          have n2 := hc1 2 _ rfl
          have n3 := hc1 3 _ rfl
          have n4 := hc1 4 _ rfl
          have n5 := hc1 5 _ rfl
          have n6 := hc1 6 _ rfl
          have n7 := hc1 7 _ rfl
          have n8 := hc1 8 _ rfl
          have n9 := hc1 9 _ rfl
          have y0 := hc2 0 _ rfl
          have y1 := hc2 1 _ rfl
          have y2 := hc2 2 _ rfl
          have y3 := hc2 3 _ rfl
          have y4 := hc2 4 _ rfl
          have y5 := hc2 5 _ rfl
          have y6 := hc2 6 _ rfl
          have y7 := hc2 7 _ rfl
          have y8 := hc2 8 _ rfl
          have y9 := hc2 9 _ rfl
          rw [Nat.add_zero] at n0 y0
          have HQ := nt_neqs x
          have hk1 : (j : Int) < (mm : Int) := by omega
          have hjw : j < 32 := by have := HXL32.out; omega
          clear hc1 hc2 hx hml
          go_wp2_with fail
          go_region
          go_wp2
          exact ⟨⟨j + 1, by omega, by simp, HR.out.drew⟩, by simp [intOf]; omega⟩
        · obtain rfl : mm = j := by omega
          have hnm : ¬ (mm : Int) < (mm : Int) := by omega
          have hB3 := HB.out
          rw [← HGI.out] at hB3
          have hB4 := chain hB3 HR.out
          have HN3 := hide (HN.out.below hB4)
          have HE3 := hide (HE.out.below hB4)
          have HD3 := hide (chain HD.out hB4)
          clear hB3 hB4 HB HR HN HE HD HGR HWA HML
          go_upto_region 18 with fail
          obtain ⟨w8, hw8⟩ : ∃ x, x = wr := ⟨_, rfl⟩
          rw [← hw8] at HN3 HE3 HD3 ⊢
          clear hw8 wr
          go_loopw [14] (fun s wr => ∃ su : Nat, (su = 0 ∨ su = 7 ∨ su = 14) ∧ s = .int .u32 (su : Int) ∧ Hid (Below w8.heap.size w8 wr)) (fun s _ => 14 - (intOf s).toNat)
          case atStart => exact ⟨0, .inl rfl, rfl, Below.refl _ _⟩
          case round =>
            obtain ⟨su, hsu, rfl, HR⟩ := hrel
            have HEr := hide (HE3.out.below HR.out)
            have HNr := hide (HN3.out.below HR.out)
            by_cases hs8 : su < 8
            · --
              have hs1 : (su : Int) < 8 := by omega
              have hs2 : IntKind.u32.wrap ((su : Int) + 7) = (su : Int) + 7 := by rw [IntKind.wrap_u32]; omega
              have hSU : Hid (su + 7 = 7 ∨ su + 7 = 14) := by unfold Hid; omega
              clear hsu
              obtain ⟨XE, hXE⟩ : ∃ x, ansE2 ⟨k, pt, b, r, m, st, ix, tt, sm, d⟩ kd su = x := ⟨_, rfl⟩
              obtain ⟨M, hM⟩ : ∃ x, ansN2 ⟨k, pt, b, r, m, st, ix, tt, sm, d⟩ kd su = x := ⟨_, rfl⟩
              have HAN := hide (fun (wx : World) (h : Er7 wx E) => answer2_any k pt b r m st ix tt sm d kd su h HOK.out.d1 HOK.out.t1 HOK.out.t2)
              have HRA := hide (fun (wx : World) => ranswer2_any (w := wx) (E := E) k pt b r m st ix tt sm d kd su HOK.out.d1 HOK.out.t1 HOK.out.t2)
              have HXL := hide (ansE2_le ⟨k, pt, b, r, m, st, ix, tt, sm, d⟩ kd su)
              rw [hXE] at HAN HRA HXL
              rw [hM] at HAN HRA
              clear hXE hM
              obtain ⟨m0, m1, m2, m3, m4, m5, m6, m7, m8, m9⟩ := M
              replace HAN : Hid (∀ (wx : World) (h : Er7 wx E), Calls Tryd.prog 17 #[.agg #[.int .i64 k, .int .i64 pt, .int .i64 b, .int .i64 r, .int .i64 m, .int .i64 st, .int .i64 ix, .int .i64 tt, .int .u32 sm, .string d], .int .i64 kd, .int .u32 (su : Int)] wx fun e w' => e = .returned (.tuple #[.agg #[.int .i64 m0, .int .i64 m1, .int .i64 m2, .int .i64 m3, .int .i64 m4, .int .i64 m5, .int .i64 m6, .int .i64 m7, .int .u32 m8, .string m9], erv E XE]) ∧ Below wx.heap.size wx w') := HAN
              replace HRA : Hid (∀ wx : World, Calls Tryd.prog 18 #[.agg #[.int .i64 k, .int .i64 pt, .int .i64 b, .int .i64 r, .int .i64 m, .int .i64 st, .int .i64 ix, .int .i64 tt, .int .u32 sm, .string d], .int .i64 kd, .int .u32 (su : Int)] wx fun e w' => e = .returned (.tuple #[.agg #[.int .i64 m0, .int .i64 m1, .int .i64 m2, .int .i64 m3, .int .i64 m4, .int .i64 m5, .int .i64 m6, .int .i64 m7, .int .u32 m8, .string m9], .int .i64 (XE : Int)]) ∧ Below wx.heap.size wx w') := HRA
              have c0 := HNr.out.cell 0 rfl
              have c1 := HNr.out.cell 1 rfl
              have c2 := HNr.out.cell 2 rfl
              have c3 := HNr.out.cell 3 rfl
              have c4 := HNr.out.cell 4 rfl
              have c5 := HNr.out.cell 5 rfl
              have c6 := HNr.out.cell 6 rfl
              have c7 := HNr.out.cell 7 rfl
              have c8 := HNr.out.cell 8 rfl
              have c9 := HNr.out.cell 9 rfl
              go_upto_region 20 with fail
              go_wp2_with fail
              refine Calls.mono (HAN.out _ HEr.out.er7) ?_
              rintro e w9 ⟨rfl, b1⟩
              replace HNr := hide (HNr.out.below b1)
              replace HEr := hide (HEr.out.below b1)
              replace HR := hide (chain HR.out b1)
              clear b1 HAN c0 c1 c2 c3 c4 c5 c6 c7 c8 c9
              obtain ⟨W6, hW6, B6, DW6⟩ := box1 w9 [.int .i64 m0, .int .i64 m1, .int .i64 m2, .int .i64 m3, .int .i64 m4, .int .i64 m5, .int .i64 m6, .int .i64 m7, .int .u32 m8, .string m9] 26
              obtain ⟨h6, hh6⟩ : ∃ h6, w9.heap.size = h6 := ⟨_, rfl⟩
              rw [hh6] at B6
              have HB6 := hide B6
              have HW6 := hide hW6
              have HHh6 := hide hh6
              replace HNr := hide (HNr.out.below DW6)
              replace HEr := hide (HEr.out.below DW6)
              replace HR := hide (chain HR.out DW6)
              clear B6 DW6 hW6 hh6
              go_upto_region 21 with fail
              have hW6 := HW6.out
              have hh6 := HHh6.out
              clear HW6 HHh6
              simp only [hW6, hh6]
              clear hW6 hh6
              have c0 := HNr.out.cell 0 rfl
              have c1 := HNr.out.cell 1 rfl
              have c2 := HNr.out.cell 2 rfl
              have c3 := HNr.out.cell 3 rfl
              have c4 := HNr.out.cell 4 rfl
              have c5 := HNr.out.cell 5 rfl
              have c6 := HNr.out.cell 6 rfl
              have c7 := HNr.out.cell 7 rfl
              have c8 := HNr.out.cell 8 rfl
              have c9 := HNr.out.cell 9 rfl
              go_wp2_with fail
              refine Calls.mono (HRA.out _) ?_
              rintro e w10 ⟨rfl, b1⟩
              replace HB6 := hide (HB6.out.below b1)
              replace HEr := hide (HEr.out.below b1)
              replace HR := hide (chain HR.out b1)
              clear b1 HRA c0 c1 c2 c3 c4 c5 c6 c7 c8 c9 HNr
              obtain ⟨W8, hW8, B8, DW8⟩ := box1 w10 [.int .i64 m0, .int .i64 m1, .int .i64 m2, .int .i64 m3, .int .i64 m4, .int .i64 m5, .int .i64 m6, .int .i64 m7, .int .u32 m8, .string m9] 26
              obtain ⟨h8, hh8⟩ : ∃ h8, w10.heap.size = h8 := ⟨_, rfl⟩
              rw [hh8] at B8
              have HB8 := hide B8
              have HW8 := hide hW8
              have HHh8 := hide hh8
              replace HB6 := hide (HB6.out.below DW8)
              replace HEr := hide (HEr.out.below DW8)
              replace HR := hide (chain HR.out DW8)
              clear B8 DW8 hW8 hh8
              go_upto_region 22 with fail
              have hW8 := HW8.out
              have hh8 := HHh8.out
              clear HW8 HHh8
              simp only [hW8, hh8]
              clear hW8 hh8
              have c0 := HB6.out.cell 0 rfl
              have c1 := HB6.out.cell 1 rfl
              have c2 := HB6.out.cell 2 rfl
              have c3 := HB6.out.cell 3 rfl
              have c4 := HB6.out.cell 4 rfl
              have c5 := HB6.out.cell 5 rfl
              have c6 := HB6.out.cell 6 rfl
              have c7 := HB6.out.cell 7 rfl
              have c8 := HB6.out.cell 8 rfl
              have c9 := HB6.out.cell 9 rfl
              have e0 := HB8.out.cell 0 rfl
              have e1 := HB8.out.cell 1 rfl
              have e2 := HB8.out.cell 2 rfl
              have e3 := HB8.out.cell 3 rfl
              have e4 := HB8.out.cell 4 rfl
              have e5 := HB8.out.cell 5 rfl
              have e6 := HB8.out.cell 6 rfl
              have e7 := HB8.out.cell 7 rfl
              have e8 := HB8.out.cell 8 rfl
              have e9 := HB8.out.cell 9 rfl
              have HLC := hide (lcode_any HEr.out XE HXL.out)
              have heql := nt_eqs
              go_wp2_with fail
              refine Calls.mono HLC.out ?_
              rintro e w11 ⟨rfl, b1⟩
              replace HR := hide (chain HR.out b1)
              clear b1 HLC c0 c1 c2 c3 c4 c5 c6 c7 c8 c9 e0 e1 e2 e3 e4 e5 e6 e7 e8 e9
              go_wp2
              exact ⟨⟨su + 7, .inr hSU.out, by simp, HR.out⟩, by simp [intOf]; omega⟩
            · have hs1 : ¬ (su : Int) < 8 := by omega
              have HD9 := hide (chain HD3.out HR.out)
              clear hsu hs8
              go_wp2
              go_ret
              exact ⟨rfl, HD9.out⟩
end Go.Proofs.YtdbciciljeainaaDoor.chunkCuts
