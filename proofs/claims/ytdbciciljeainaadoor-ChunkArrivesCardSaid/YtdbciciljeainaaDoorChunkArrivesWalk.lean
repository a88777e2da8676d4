/-
  Walk of the law ChunkArrives.
-/
import Derived.Test.YtdbciciljeainaaDoorCkKnown
import Derived.Test.YtdbciciljeainaaDoorCkPce
import Derived.Test.YtdbciciljeainaaDoorCkState
import Derived.BigRegion
import Derived.BigQuiet
import Derived.Deep.RegionHeld3
namespace Go.Proofs.YtdbciciljeainaaDoor.chunkArrives
open Go.RowKit FerryCrc
set_option linter.unusedVariables false
set_option linter.unusedSimpArgs false

theorem own_rcs {α : Type} {f : α → List Value} {sz : Nat} {e : TypeId} {w : World} {base : Nat} {a : Option Addr} {n c : Nat} {l : List α} (h : LOwn f sz e w base (.slice a n c) l) : Rcs f sz w a n c l := by
  obtain ⟨a', c', e1, hr⟩ := h.rcs
  simp only [Value.slice.injEq] at e1
  obtain ⟨rfl, rfl, rfl⟩ := e1
  exact hr
theorem wpAnyH_listed {P : Program} {md : Region.Mode} {ops : Array Oper} {Q : Exit → Act → World → Prop} {S : World → Prop} {n : Nat} {l l' : Array Bool} {a : Act} {w : World} (h : l = l') (k : wpAnyH P md ops Q S n l' a w) : wpAnyH P md ops Q S n l a w := h ▸ k
theorem by_key4 {P : Program} {md : Region.Mode} {ops : Array Oper} {Q : Exit → Act → World → Prop} {S : World → Prop} {n : Nat} {l : Array Bool} {a : Act} {w : World} (F : Option Addr → Nat → Nat → World → Prop) (u : Act → Option Addr → Nat → Nat → Act) (l3 : Array Bool) (n3 : Nat) (hm : (∀ qa qc g wz, F qa qc g wz → wpAnyH P md ops Q S n3 l3 (u a qa qc g) wz) → wpAnyH P md ops Q S n l a w) (hk : ∀ qa qc g wz, F qa qc g wz → wpAnyH P md ops Q S n3 l3 (u a qa qc g) wz) : wpAnyH P md ops Q S n l a w := hm hk
theorem bel_al {a w : World} (h : Below a.heap.size a w) (o : Obj) : Below a.heap.size a (w.alloc o) := h.alloc h.size o
theorem chk_le20 (n : Nt) : chk n ≤ 20 := by
  unfold chk
  repeat' split
  all_goals decide
theorem nt_at {L : List Nat} {pt m st : Int} {i : Nat} (hi : i < tot L) : (cutN pt 1 1 m st L)[i]? = some (ntOf pt 1 1 m st L i) := by
  unfold cutN
  rw [List.getElem?_map, List.getElem?_range hi]
  rfl
theorem cutE_arrN {pt m m1 sb st n : Nat} (h2 : pt < 8) (h3 : 1 ≤ m ∧ m ≤ 1000 ∧ m1 = m + 1) (h4 : sb < 2) (h5 : sb + 1 = st) (h6 : 1 ≤ n ∧ n ≤ 4096) : cutE (pt : Int) 1 1 (m : Int) (st : Int) n = 0 :=
  cutE_arr (by omega) (by omega) (by omega) (by omega) (by omega) h6.1 h6.2
theorem not_bne (y : Bool) : ((!y) != (!y)) = false := by cases y <;> rfl

set_option maxRecDepth 100000 in
set_option maxHeartbeats 4000000 in
theorem law (p : Pce) (oa : Option Addr) (om oc : Nat) (O : List Int) (n : Nt) (w : World) {E : Nat → Addr} (he : Er10 w E ∧ Er7x w E) (okp : p.Ok) (ho : Ins w oa om oc O) (hom : om ≤ 4611686018427387904) (ok : n.Ok ∧ 0 ≤ n.sum ∧ n.sum < 4294967296) :
    Calls Tryd.prog 6 #[.agg p.cells.toArray, .slice oa om oc, .agg n.cells.toArray] w fun e w' => e = .returned (.bool true) ∧ Below w.heap.size w w' := by
  obtain ⟨ok, -⟩ := ok
  obtain ⟨he, hx⟩ := he
  have him := okp.im
  have hol := ho.size
  have HOK := hide ok
  clear okp
  obtain ⟨sk, spt, sb, sr, snm, sst, six, stt, ssm, sd⟩ := n
  obtain ⟨pp, ps, pb, pr, pm, im⟩ := p
  replace him : im.size ≤ 140737488351232 := him
  obtain ⟨W, hW, B0, B1, D0⟩ := box2 w [.int .i64 pp, .int .i64 ps, .int .i64 pb, .int .i64 pr, .int .i64 pm, .string im] 43 [.int .i64 sk, .int .i64 spt, .int .i64 sb, .int .i64 sr, .int .i64 snm, .int .i64 sst, .int .i64 six, .int .i64 stt, .int .u32 ssm, .string sd] 26
  obtain ⟨g, hg⟩ : ∃ g, w.heap.size = g := ⟨_, rfl⟩
  obtain ⟨h, hh⟩ : ∃ h, g + 1 = h := ⟨_, rfl⟩
  have HGH : Hid (w.heap.size ≤ h) := by unfold Hid; omega
  rw [hg] at B0 B1
  rw [hh] at B1
  have HP := hide B0
  have HN := hide B1
  have HD := hide D0
  have HE := hide he
  have HX := hide hx
  have HO := hide ho
  have HWD := hide hW
  have HGG := hide hg
  have HHH := hide hh
  have HIM := hide him
  have HKN := hide (known_any (he.below D0))
  clear B0 B1 D0 hW he hg hh ok him hx ho
  show Calls Tryd.prog 6 #[.agg #[.int .i64 pp, .int .i64 ps, .int .i64 pb, .int .i64 pr, .int .i64 pm, .string im], .slice oa om oc, .agg #[.int .i64 sk, .int .i64 spt, .int .i64 sb, .int .i64 sr, .int .i64 snm, .int .i64 sst, .int .i64 six, .int .i64 stt, .int .u32 ssm, .string sd]] w _
  go_enter Tryd.func6, Tryd.ntmps6
  go_upto_region 1 with fail
  have hW := HWD.out
  have hg := HGG.out
  have hh := HHH.out
  clear HWD HGG HHH
  simp only [hW, hg, hh]
  clear hW hg hh
  go_wp2_with fail
  refine Calls.mono HKN.out ?_
  rintro e w1 ⟨rfl, b1⟩
  replace HP := hide (HP.out.below b1)
  replace HN := hide (HN.out.below b1)
  replace HD := hide (chain HD.out b1)
  clear b1 HKN
  obtain ⟨a, ha⟩ : ∃ a : Nat, IntKind.u64.wrap pm = (a : Int) := ⟨(IntKind.u64.wrap pm).toNat, by rw [IntKind.wrap_u64]; omega⟩
  obtain ⟨q, hq⟩ : ∃ q, a % 1000 = q := ⟨_, rfl⟩
  obtain ⟨m, hm⟩ : ∃ m, q + 1 = m := ⟨_, rfl⟩
  obtain ⟨m1, hm1⟩ : ∃ k, m + 1 = k := ⟨_, rfl⟩
  have HM : Hid (1 ≤ m ∧ m ≤ 1000 ∧ m1 = m + 1) := ⟨by omega, by omega, by omega⟩
  have u1 : wrap64 ((a : Int) % 1000) = (q : Int) := by have e : (a : Int) % 1000 = (q : Int) := (by omega); rw [e]; unfold wrap64; omega
  have u2 : wrap64 (1 + (q : Int)) = (m : Int) := by unfold wrap64; omega
  have u3 : 1 + (a : Int) % 1000 = (m : Int) := by omega
  clear hq hm hm1
  have c0 := HP.out.cell 0 rfl
  have c1 := HP.out.cell 1 rfl
  have c2 := HP.out.cell 2 rfl
  have c3 := HP.out.cell 3 rfl
  have c4 := HP.out.cell 4 rfl
  obtain ⟨W3, hW3, B3, D3⟩ := box1 w1 [.int .i64 1, .int .i64 1, .int .i64 (m : Int)] 23
  obtain ⟨g7, hg7⟩ : ∃ g, w1.heap.size = g := ⟨_, rfl⟩
  rw [hg7] at B3
  have HG7 := hide B3
  have HW3 := hide hW3
  have HG7S := hide hg7
  have HNG : Hid (h ≠ g7) := by have h2 := HN.out.lt; unfold Hid; omega
  replace HP := hide (HP.out.below D3)
  replace HN := hide (HN.out.below D3)
  replace HD := hide (chain HD.out D3)
  clear B3 D3 hW3 hg7
  go_upto_region 4 with fail
  try simp only [u3]
  have hW3 := HW3.out
  have hg7 := HG7S.out
  clear HW3 HG7S
  simp only [hW3, hg7]
  clear hW3 hg7 ha u1 u2 u3 c0 c1 c2 c3 c4
  have c0 := HP.out.cell 0 rfl
  have c1 := HP.out.cell 1 rfl
  have c2 := HP.out.cell 2 rfl
  have c3 := HP.out.cell 3 rfl
  have c4 := HP.out.cell 4 rfl
  have c5 := HP.out.cell 5 rfl
  go_upto_region 5 with fail
  clear c0 c1 c2 c3 c4 c5
  obtain ⟨y, hy⟩ : ∃ y, im.toList.isEmpty = y := ⟨_, rfl⟩
  go_upto_if 42 with fail
  go_cut [8] from 43 to 43 (fun v wz => ∃ i1 : ByteArray, v = .string i1 ∧ Hid (1 ≤ i1.size ∧ i1.size ≤ 140737488351232) ∧ wz = W3)
  case first =>
    cases y with
    | true =>
      clear hy
      go_wp2
      go_meet
      case rel => exact ⟨_, rfl, ⟨by decide, by decide⟩, rfl⟩
    | false =>
      have HI9 : Hid (1 ≤ im.size ∧ im.size ≤ 140737488351232) := by
        refine ⟨?_, HIM.out⟩
        apply Classical.byContradiction
        intro h0
        rw [show im.toList = [] by rw [ByteArray.toList_eq, empty_of (show im.size = 0 by omega)]] at hy
        cases hy
      clear hy
      go_wp2
      go_meet
      case rel => exact ⟨_, rfl, HI9.out, rfl⟩
  case rest =>
  clear hy
  obtain ⟨i1, rfl, HI1, rfl⟩ := hcut
  obtain ⟨w1a, hw1a⟩ : ∃ z, z = wc := ⟨_, rfl⟩
  subst hw1a
  clear HIM
  go_upto_if 45 with fail
  go_cut [8] from 46 to 47 (fun v wz => ∃ i2 : ByteArray, v = .string i2 ∧ Hid (1 ≤ i2.size ∧ i2.size ≤ 4096) ∧ wz = w1a)
  case first =>
    by_cases h0 : 4096 < i1.size
    · have h1 : (4096 : Int) < (i1.size : Int) := by omega
      have h2 : 4096 ≤ i1.size := by omega
      have h3 : (4096 : Int) ≤ (i1.size : Int) := by omega
      have HI2 : Hid (1 ≤ (i1.extract 0 4096).size ∧ (i1.extract 0 4096).size ≤ 4096) := by unfold Hid; rw [ByteArray.size_extract]; omega
      clear h0
      go_wp2
      go_meet
      case rel => exact ⟨_, rfl, HI2.out, rfl⟩
    · have h1 : ¬ (4096 : Int) < (i1.size : Int) := by omega
      have HI2 : Hid (1 ≤ i1.size ∧ i1.size ≤ 4096) := ⟨HI1.out.1, by omega⟩
      clear h0
      go_wp2
      go_meet
      case rel => exact ⟨_, rfl, HI2.out, rfl⟩
  case rest =>
  obtain ⟨jm, rfl, HI2, rfl⟩ := hcut
  clear HI1
  obtain ⟨w2, hw2⟩ : ∃ z, z = wc := ⟨_, rfl⟩
  subst hw2
  obtain ⟨L, hL⟩ : ∃ L, bytesOf jm = L := ⟨_, rfl⟩
  obtain ⟨z, hz⟩ : ∃ z, jm.size = z := ⟨_, rfl⟩
  have hLz : L.length = z := by rw [← hL, bytesOf_len, hz]
  have HLS : Hid (∀ c ∈ L, c < 256) := by rw [← hL]; exact bytesOf_lt jm
  have HJL : Hid (str L = jm) := by rw [← hL]; exact str_bytesOf jm
  have HZ : Hid (1 ≤ z ∧ z ≤ 4096) := by rw [← hz]; exact HI2.out
  have HLZ := hide hLz
  obtain ⟨cq, w4, hrun, hs4, b4⟩ := conv_lay w2 jm z hz (by have := HZ.out; omega)
  rw [hL] at hs4
  obtain ⟨pt, hpt, hp7⟩ := and7 pp
  obtain ⟨sb1, hsb, hs1⟩ := and1b ps
  obtain ⟨st, hst⟩ : ∃ k, sb1 + 1 = k := ⟨_, rfl⟩
  have hs2 : wrap64 (1 + (sb1 : Int)) = (st : Int) := by unfold wrap64; omega
  have HCE : Hid (cutE (pt : Int) 1 1 (m : Int) (st : Int) z = 0) := cutE_arrN hpt HM.out hsb hst HZ.out
  have HCL : Hid (cutL (pt : Int) 1 1 (m : Int) (st : Int) L = cutN (pt : Int) 1 1 (m : Int) (st : Int) L) := if_pos (by rw [HLZ.out]; exact HCE.out)
  obtain ⟨t, ht⟩ : ∃ t, tot L = t := ⟨_, rfl⟩
  have HTB := hide (tot_bounds (L := L) (by have := HZ.out; omega) (by have := HZ.out; omega))
  rw [ht] at HTB
  have HT := hide ht
  have HCU := hide (cut_any (pt : Int) 1 1 (m : Int) (st : Int) (some ⟨w2.heap.size, 0, none⟩) z cq L (HX.out.below (chain HD.out b4)).e7 hs4)
  rw [HCE.out, HCL.out] at HCU
  have c0 := HP.out.cell 0 rfl
  have c1 := HP.out.cell 1 rfl
  have c2 := HP.out.cell 2 rfl
  have c3 := HP.out.cell 3 rfl
  have c4 := HP.out.cell 4 rfl
  have c5 := HP.out.cell 5 rfl
  have e0 := HG7.out.cell 0 rfl
  have e1 := HG7.out.cell 1 rfl
  have e2 := HG7.out.cell 2 rfl
  have HB4 := hide b4
  have HHS : Hid (h < w4.heap.size) := Nat.lt_of_lt_of_le HN.out.lt b4.size
  clear hs4 b4 hz hL hst hsb hpt ht hLz
  go_upto_region 9 with fail
  go_wp2_with fail
  simp only [hs2]
  refine Calls.mono HCU.out ?_
  rintro e w5 ⟨v, rfl, o5, b5⟩
  obtain ⟨na, nc, rfl, r5⟩ := o5.rcs
  have hlen : (cutN (pt : Int) 1 1 (m : Int) (st : Int) L).length = t := by rw [cutN_len]; exact HT.out
  rw [hlen]
  rw [hlen] at o5
  clear r5 hlen hs1 hs2 hp7 hrun c0 c1 c2 c3 c4 c5 e0 e1 e2 HCU
  have HNO := hide o5
  have b45 := chain HB4.out b5
  replace HG7 := hide (HG7.out.below b45)
  replace HN := hide (HN.out.below b45)
  replace HD := hide (chain HD.out b45)
  clear o5 b5 b45 HB4 HP
  have HNF := hide (LOwn.off HNO.out HHS.out)
  rw [show erv E 0 = .nilIface from rfl]
  have ht0 : ((t : Int) == 0) = false := by have := HTB.out.1; simp; omega
  have ht9 : ¬ t = 0 := by have := HTB.out.1; omega
  go_upto_region 12 with fail
  clear ht0 ht9
  have hm2 : IntKind.i64.wrap ((m : Int) + 1) = (m1 : Int) := by have := HM.out; rw [IntKind.wrap_i64]; omega
  have hm3 : wrap64 ((m : Int) + 1) = (m1 : Int) := by have := HM.out; unfold wrap64; omega
  have e0 := HG7.out.cell 0 rfl
  have e1 := HG7.out.cell 1 rfl
  have e2 := HG7.out.cell 2 rfl
  have c0 := HN.out.cell 0 rfl
  have c1 := HN.out.cell 1 rfl
  have c2 := HN.out.cell 2 rfl
  have c3 := HN.out.cell 3 rfl
  have c4 := HN.out.cell 4 rfl
  have c5 := HN.out.cell 5 rfl
  have c6 := HN.out.cell 6 rfl
  have c7 := HN.out.cell 7 rfl
  have c8 := HN.out.cell 8 rfl
  have c9 := HN.out.cell 9 rfl
  have f0 := HN.out.frozen 0
  have f1 := HN.out.frozen 1
  have f2 := HN.out.frozen 2
  have f3 := HN.out.frozen 3
  have f4 := HN.out.frozen 4
  have f5 := HN.out.frozen 5
  have f6 := HN.out.frozen 6
  have f7 := HN.out.frozen 7
  have f8 := HN.out.frozen 8
  have f9 := HN.out.frozen 9
  have K1 := hide ((((HN.out.set 0 (.int .i64 1)).set 2 (.int .i64 1)).set 3 (.int .i64 1)).set 4 (.int .i64 (m1 : Int)))
  have K2 := hide ((((HNO.out.far (p := ⟨h, 0, none⟩) HNF.out (.int .i64 1)).far (p := ⟨h, 2, none⟩) HNF.out (.int .i64 1)).far (p := ⟨h, 3, none⟩) HNF.out (.int .i64 1)).far (p := ⟨h, 4, none⟩) HNF.out (.int .i64 (m1 : Int)))
  have K3 := hide ((((HD.out.setCell (p := ⟨h, 0, none⟩) HGH.out (.int .i64 1)).setCell (p := ⟨h, 2, none⟩) HGH.out (.int .i64 1)).setCell (p := ⟨h, 3, none⟩) HGH.out (.int .i64 1)).setCell (p := ⟨h, 4, none⟩) HGH.out (.int .i64 (m1 : Int)))
  go_region
  go_upto_region 13 with fail
  try simp only [hm3]
  obtain ⟨W6, hW6⟩ : ∃ W6, ((((w5.setCell ⟨h, 0, none⟩ (.int .i64 1)).setCell ⟨h, 2, none⟩ (.int .i64 1)).setCell ⟨h, 3, none⟩ (.int .i64 1)).setCell ⟨h, 4, none⟩ (.int .i64 (m1 : Int))) = W6 := ⟨_, rfl⟩
  rw [hW6] at K1 K2 K3
  simp only [hW6]
  clear hW6 hm2 hm3 e0 e1 e2 c0 f0 c1 f1 c2 f2 c3 f3 c4 f4 c5 f5 c6 f6 c7 f7 c8 f8 c9 f9 HN HNO HD HG7 HNF
  have HN : Hid (Bk W6.drew h [.int .i64 1, .int .i64 spt, .int .i64 1, .int .i64 1, .int .i64 (m1 : Int), .int .i64 sst, .int .i64 six, .int .i64 stt, .int .u32 ssm, .string sd] 26) := K1.out.below (Below.refl _ _).drew
  have HNO := hide (K2.out.below (Below.refl _ _).drew)
  have HD := hide K3.out.drew
  obtain ⟨w6, hw6⟩ : ∃ z, z = W6.drew := ⟨_, rfl⟩
  rw [← hw6] at HN HNO HD ⊢
  clear K1 K2 K3 hw6 W6
  obtain ⟨w7, hrun, o7, b7⟩ := made_recs (f := bvl) (sz := 1) bvl1 (by decide) false Tryd.underlying60 infoFl w6 t (by have := HTB.out; omega) (by have := HTB.out; omega)
  obtain ⟨gc, hgc⟩ : ∃ x, w6.heap.size = x := ⟨_, rfl⟩
  rw [hgc] at o7 hrun b7
  obtain ⟨W8, hW8, B8, D8⟩ := box1 w7 [.int .i64 0, .int .i64 0, .int .i64 0, .int .i64 0, .int .i64 0, .int .i64 0, .slice none 0 0] 63
  have ho7 := World.ownsRow.lt o7 gc rfl
  obtain ⟨g13, hg13⟩ : ∃ x, w7.heap.size = x := ⟨_, rfl⟩
  rw [hg13] at B8
  have HS8 : Hid (gc < g13 ∧ gc ≤ g13) := by have := ho7.2; exact ⟨by omega, by omega⟩
  have HG13 := hide B8
  have HC8 := hide (o7.below D8)
  have HB8 : Hid (Below gc w6 W8) := b7.trans (D8.mono (by rw [← hg13] at HS8; exact HS8.out.2))
  have HW8 := hide hW8
  have HGC := hide hgc
  have HG3 := hide hg13
  have HRU := hide hrun
  clear o7 b7 B8 D8 ho7 hW8 hgc hg13 hrun
  go_upto_region 13 with fail
  have hrun := HRU.out
  go_upto_region 15 with fail
  clear hrun HRU
  go_upto_region 16 with fail
  have hW8 := HW8.out
  have hg13 := HG3.out
  simp only [hW8, hg13]
  clear hW8 hg13 HW8 HG3
  have HNR := hide (own_rcs HNO.out)
  clear HNO
  go_upto_region 17 with fail
  go_loopw [12, 14] (fun s12 s14 wr => ∃ (k : Nat) (C : List Bool) (x1 x2 x3 x4 x5 x6 : Int) (pa : Option Addr) (pn pc : Nat) (P : List ByteArray), k ≤ om ∧ s14 = .int .i64 (k : Int) ∧ s12 = .int .i64 (leftC C : Int) ∧ Hid (Bk wr g13 [.int .i64 x1, .int .i64 x2, .int .i64 x3, .int .i64 x4, .int .i64 x5, .int .i64 x6, .slice pa pn pc] 63) ∧ Hid (TxOwn wr (g13 + 1) (.slice pa pn pc) P) ∧ Hid (FlOwn wr gc (.slice (some ⟨gc, 0, none⟩) t t) C) ∧ Hid (Cst (pt : Int) (m : Int) (st : Int) L C) ∧ Hid ((k = 0 ∧ C = List.replicate t false) ∨ (0 < k ∧ x1 = (pt : Int) ∧ x2 = (st : Int) ∧ x3 = (t : Int) ∧ x4 = 1 ∧ x5 = 1 ∧ x6 = (m : Int) ∧ P = pie L C)) ∧ Hid (Below gc w6 wr)) (fun _ i _ => om - (intOf i).toNat)
  case atStart => exact ⟨0, List.replicate t false, 0, 0, 0, 0, 0, 0, none, 0, 0, [], Nat.zero_le _, rfl, by rw [left_new], HG13.out, World.ownsRow_nil _ _ _ _, HC8.out, ⟨by rw [HLZ.out]; exact HCE.out, by rw [List.length_replicate, HT.out]⟩, .inl ⟨rfl, rfl⟩, HB8.out⟩
  case round =>
    clear HG13 HC8 HB8
    obtain ⟨k, C, x1, x2, x3, x4, x5, x6, pa, pn, pc, P, hk, rfl, rfl, HR, HPP, HCM, HCS, HST, HBW⟩ := hrel
    have hBW := HBW.out
    rw [← HGC.out] at hBW
    have HDr := hide (chain HD.out hBW)
    have HNr := hide (HNR.out.below hBW)
    have HSr := hide (HN.out.below hBW)
    have HBS : Hid (gc ≤ wr.heap.size) := by have := HS8.out.1; have := HR.out.lt; unfold Hid; omega
    clear hBW
    by_cases hlt : k < om
    rotate_left
    · obtain rfl : om = k := by omega
      have hnk : ¬ (om : Int) < (om : Int) := by omega
      clear HR HPP HCM HCS HST HBW HNr HSr
      go_wp2
      go_ret
      exact ⟨rfl, HDr.out⟩
    have hk1 : (k : Int) < (om : Int) := by omega
    obtain ⟨x, hx⟩ : ∃ x, O[k]? = some x := ⟨_, List.getElem?_eq_getElem (by omega)⟩
    obtain ⟨ob, oo, rfl, hcx⟩ := (HO.out.below HDr.out).at iv1 (by decide) hx
    have o0 := hcx 0 _ rfl
    rw [Nat.mul_one, Nat.add_zero] at o0
    clear hcx hx
    obtain ⟨a, ha⟩ : ∃ a : Nat, IntKind.u64.wrap x = (a : Int) := ⟨(IntKind.u64.wrap x).toNat, by rw [IntKind.wrap_u64]; omega⟩
    obtain ⟨j, hj⟩ : ∃ j, a % t = j := ⟨_, rfl⟩
    have hjt : j < t := by rw [← hj]; exact Nat.mod_lt _ (by have := HTB.out; omega)
    have u1 : IntKind.u64.wrap (t : Int) = (t : Int) := by have := HTB.out; rw [IntKind.wrap_u64]; omega
    have u2 : wrap64 ((a : Int) % (t : Int)) = (j : Int) := by
      have e : (a : Int) % (t : Int) = (j : Int) := by rw [← hj]; simp
      rw [e]
      have := HTB.out
      unfold wrap64
      omega
    have u3 : ¬ (t : Int) = 0 := by have := HTB.out; omega
    have u4 : ¬ t = 0 := by have := HTB.out; omega
    have HJT := hide hjt
    clear hj
    go_upto_region 20 with fail
    simp only [u2]
    clear u1 u2 u3 u4 ha o0 hk1
    have HSLEN := hide HCS.out.len
    obtain ⟨y, hy⟩ : ∃ y, C[j]? = some y := ⟨_, List.getElem?_eq_getElem (by rw [HSLEN.out, HT.out]; exact hjt)⟩
    obtain ⟨yb, yo, ye, yc⟩ := (own_rcs HCM.out).at bvl1 (by decide) hy
    simp only [Option.some.injEq, Addr.mk.injEq] at ye
    obtain ⟨rfl, rfl, -⟩ := ye
    have y1 := yc 0 _ rfl
    simp only [Nat.mul_one, Nat.add_zero, Nat.zero_add] at y1
    have HY := hide hy
    have hj0 : ¬ (j : Int) < 0 := by omega
    have hj2 : (j : Int) < (t : Int) := by omega
    clear yc hy
    obtain ⟨f0, hf0⟩ : ∃ f, ((k : Int) == 0) = f := ⟨_, rfl⟩
    go_upto_if 102 with fail
    have HF0 := hide hf0
    clear y1 hf0
    obtain ⟨lb, lo, rfl, hcn⟩ := HNr.out.at nt10 (by decide) (nt_at (by rw [HT.out]; exact hjt))
    have HNC : Hid (wr.cell? ⟨lb, lo + j * 10 + 0, none⟩ = some (.int .i64 1) ∧ wr.cell? ⟨lb, lo + j * 10 + 1, none⟩ = some (.int .i64 (pt : Int)) ∧ wr.cell? ⟨lb, lo + j * 10 + 2, none⟩ = some (.int .i64 1) ∧ wr.cell? ⟨lb, lo + j * 10 + 3, none⟩ = some (.int .i64 1) ∧ wr.cell? ⟨lb, lo + j * 10 + 4, none⟩ = some (.int .i64 (m : Int)) ∧ wr.cell? ⟨lb, lo + j * 10 + 5, none⟩ = some (.int .i64 (st : Int)) ∧ wr.cell? ⟨lb, lo + j * 10 + 6, none⟩ = some (.int .i64 (j : Int)) ∧ wr.cell? ⟨lb, lo + j * 10 + 7, none⟩ = some (.int .i64 (t : Int)) ∧ wr.cell? ⟨lb, lo + j * 10 + 8, none⟩ = some (.int .u32 0) ∧ wr.cell? ⟨lb, lo + j * 10 + 9, none⟩ = some (.string (pcs L j))) := by
      unfold ntOf at hcn
      rw [HT.out] at hcn
      exact ⟨hcn 0 _ rfl, hcn 1 _ rfl, hcn 2 _ rfl, hcn 3 _ rfl, hcn 4 _ rfl, hcn 5 _ rfl, hcn 6 _ rfl, hcn 7 _ rfl, hcn 8 _ rfl, hcn 9 _ rfl⟩
    clear hcn hjt HNr
    have HPS : Hid ((pcs L j).size ≤ 9223372036854775807) := by have := pcs_size L j; unfold Hid; omega
    have HTI : Hid (-9223372036854775808 ≤ (t : Int) ∧ (t : Int) ≤ 9223372036854775807) := by have := HTB.out; exact ⟨by omega, by omega⟩
    go_cut [10, 17, 18, 19, 102] from 103 to 125 (fun v10 v17 v18 v19 v102 wz => ∃ (qa : Option Addr) (qc : Nat), v10 = .nilIface ∧ Hid (Bk wz g13 [.int .i64 (pt : Int), .int .i64 (st : Int), .int .i64 (t : Int), .int .i64 1, .int .i64 1, .int .i64 (m : Int), .slice qa t qc] 63) ∧ Hid (TxOwn wz (g13 + 1) (.slice qa t qc) (pie L (C.set j true))) ∧ Hid (FlOwn wz gc (.slice (some ⟨gc, 0, none⟩) t t) C) ∧ Hid (Below gc w6 wz))
    case first =>
      obtain ⟨m0, m1', m2, m3, m4, m5, m6, m7, m8, m9⟩ := HNC.out
      rw [Nat.add_zero] at m0
      cases f0 with
      | true =>
        have hk0 : k = 0 := by have := HF0.out; simpa using this
        have HC0 : Hid (C = List.replicate t false) := by rcases HST.out with h | h; exact h.2; exact absurd h.1 (by omega)
        have HBG : Hid (Calls Tryd.prog 21 #[.agg #[.int .i64 1, .int .i64 (pt : Int), .int .i64 1, .int .i64 1, .int .i64 (m : Int), .int .i64 (st : Int), .int .i64 (j : Int), .int .i64 (t : Int), .int .u32 0, .string (pcs L j)]] wr fun e w' => ∃ qa qc, e = .returned (.tuple #[.agg #[.int .i64 (pt : Int), .int .i64 (st : Int), .int .i64 (t : Int), .int .i64 1, .int .i64 1, .int .i64 (m : Int), .slice qa t qc], .nilIface]) ∧ TxOwn w' wr.heap.size (.slice qa t qc) (pie L (C.set j true)) ∧ Below wr.heap.size wr w') := by
          have h1 := begin_any 1 (pt : Int) 1 1 (m : Int) (st : Int) (j : Int) (t : Int) 0 (pcs L j) (HX.out.below HDr.out).e7 HPS.out HTI.out.1 HTI.out.2
          obtain ⟨f1, f2, f3⟩ := Cst.first (pt := (pt : Int)) (m := (m : Int)) (st := (st : Int)) HCS.out.cut HT.out HJT.out
          have e1 : (⟨1, (pt : Int), 1, 1, (m : Int), (st : Int), (j : Int), (t : Int), 0, pcs L j⟩ : Nt) = ntOf (pt : Int) 1 1 (m : Int) (st : Int) L j := by unfold ntOf; rw [HT.out]
          rw [e1, f1, f2, f3, ← HC0.out] at h1
          refine h1.mono ?_
          rintro e w' ⟨v, rfl, o, b⟩
          obtain ⟨qa, qc, rfl, -⟩ := o.rcs
          have hl : (pie L (C.set j true)).length = t := by rw [pie_len, List.length_set, HSLEN.out, HT.out]
          rw [hl] at o ⊢
          exact ⟨qa, qc, rfl, o, b⟩
        clear hk0
        go_upto_region 22 with fail
        go_wp2_with fail
        refine Calls.mono HBG.out ?_
        rintro e w8 ⟨qa, qc, rfl, o8, b8⟩
        have HQ8 := hide o8
        have HR8 := hide (HR.out.below b8)
        have HC8' := hide (HCM.out.below b8)
        have HB8' := hide (HBW.out.trans (b8.mono HBS.out))
        clear o8 b8 HBG m0 m1' m2 m3 m4 m5 m6 m7 m8 m9
        have r0 := HR8.out.cell 0 rfl
        have r1 := HR8.out.cell 1 rfl
        have r2 := HR8.out.cell 2 rfl
        have r3 := HR8.out.cell 3 rfl
        have r4 := HR8.out.cell 4 rfl
        have r5 := HR8.out.cell 5 rfl
        have r6 := HR8.out.cell 6 rfl
        have z0 := HR8.out.frozen 0
        have z1 := HR8.out.frozen 1
        have z2 := HR8.out.frozen 2
        have z3 := HR8.out.frozen 3
        have z4 := HR8.out.frozen 4
        have z5 := HR8.out.frozen 5
        have z6 := HR8.out.frozen 6
        have hne : (Value.slice qa t qc).ownBlock ≠ some g13 := HQ8.out.off HR.out.lt
        have hnc : (Value.slice (some ⟨gc, 0, none⟩) t t).ownBlock ≠ some g13 := fun h2 => by simp [Value.ownBlock] at h2; have := HS8.out.1; omega
        have Q1 := hide (HR8.out.sets [.int .i64 (pt : Int), .int .i64 (st : Int), .int .i64 (t : Int), .int .i64 1, .int .i64 1, .int .i64 (m : Int), .slice qa t qc] rfl)
        have Q2 := hide ((LOwn.fars hne [.int .i64 (pt : Int), .int .i64 (st : Int), .int .i64 (t : Int), .int .i64 1, .int .i64 1, .int .i64 (m : Int), .slice qa t qc] 0 HQ8.out).weaken (show g13 + 1 ≤ wr.heap.size from HR.out.lt))
        have Q3 := hide (LOwn.fars hnc [.int .i64 (pt : Int), .int .i64 (st : Int), .int .i64 (t : Int), .int .i64 1, .int .i64 1, .int .i64 (m : Int), .slice qa t qc] 0 HC8'.out)
        have Q4 := hide (below_sets HS8.out.2 [.int .i64 (pt : Int), .int .i64 (st : Int), .int .i64 (t : Int), .int .i64 1, .int .i64 1, .int .i64 (m : Int), .slice qa t qc] 0 HB8'.out)
        clear hne hnc
        go_wp2
        go_meet
        case rel => exact ⟨qa, qc, rfl, Q1.out, Q2.out, Q3.out, Q4.out⟩
      | false =>
        have hk0 : ¬ k = 0 := by have := HF0.out; simpa using this
        obtain ⟨-, e1, e2, e3, e4, e5, e6, e7⟩ : 0 < k ∧ x1 = (pt : Int) ∧ x2 = (st : Int) ∧ x3 = (t : Int) ∧ x4 = 1 ∧ x5 = 1 ∧ x6 = (m : Int) ∧ P = pie L C := by rcases HST.out with h | h; exact absurd h.1 hk0; exact h
        subst e1 e2 e3 e4 e5 e6 e7
        have hpn : t = pn := by
          have := (own_rcs HPP.out).size
          rw [pie_len, HSLEN.out, HT.out] at this
          exact this
        subst hpn
        have HAD : Hid (∀ w' : World, Below wr.heap.size wr w' → Calls Tryd.prog 22 #[.agg #[.int .i64 (pt : Int), .int .i64 (st : Int), .int .i64 (t : Int), .int .i64 1, .int .i64 1, .int .i64 (m : Int), .slice pa t pc], .agg #[.int .i64 1, .int .i64 (pt : Int), .int .i64 1, .int .i64 1, .int .i64 (m : Int), .int .i64 (st : Int), .int .i64 (j : Int), .int .i64 (t : Int), .int .u32 0, .string (pcs L j)]] w' fun e w'' => ∃ qa qc, e = .returned (.tuple #[.agg #[.int .i64 (pt : Int), .int .i64 (st : Int), .int .i64 (t : Int), .int .i64 1, .int .i64 1, .int .i64 (m : Int), .slice qa t qc], .bool (!y), .nilIface]) ∧ TxOwn w'' wr.heap.size (.slice qa t qc) (pie L (C.set j true)) ∧ (∀ jj, (Value.slice qa t qc).ownBlock = some jj → w'.heap.size ≤ jj ∧ jj < w''.heap.size) ∧ Below wr.heap.size wr w'' ∧ (∀ b cs ty, Bk w' b cs ty → Bk w'' b cs ty)) := by
          intro w' hb
          have h1 := add_any (pt : Int) (st : Int) (t : Int) 1 1 (m : Int) pa t pc (pie L C) 1 (pt : Int) 1 1 (m : Int) (st : Int) (j : Int) (t : Int) 0 (pcs L j) ((HX.out.below HDr.out).below hb) ((own_rcs HPP.out).below hb) (pie_size C) HPS.out HTI.out.1 HTI.out.2
          obtain ⟨f1, f2, f3, f4⟩ := HCS.out.add (j := j) (by rw [HT.out]; exact HJT.out) HY.out
          have e1 : (⟨1, (pt : Int), 1, 1, (m : Int), (st : Int), (j : Int), (t : Int), 0, pcs L j⟩ : Nt) = ntOf (pt : Int) 1 1 (m : Int) (st : Int) L j := by unfold ntOf; rw [HT.out]
          rw [HT.out] at f1 f2 f3 f4
          rw [e1, f1, f2, f3, f4] at h1
          refine h1.mono ?_
          rintro e w'' ⟨v, rfl, o, b⟩
          obtain ⟨qa, qc, rfl, -⟩ := o.rcs
          have hl : (pie L (C.set j true)).length = t := by rw [pie_len, List.length_set, HSLEN.out, HT.out]
          rw [hl] at o ⊢
          exact ⟨qa, qc, rfl, o.weaken hb.size, fun jj e => World.ownsRow.lt o jj e, hb.trans (b.mono hb.size), fun b' cs ty hk => hk.below b⟩
        clear hk0
        have HSB : Hid (∀ wz : World, Below wr.heap.size wr wz → wz.cell? ⟨g13, 0, none⟩ = some (.int .i64 (pt : Int)) ∧ wz.cell? ⟨g13, 1, none⟩ = some (.int .i64 (st : Int)) ∧ wz.cell? ⟨g13, 2, none⟩ = some (.int .i64 (t : Int)) ∧ wz.cell? ⟨g13, 3, none⟩ = some (.int .i64 1) ∧ wz.cell? ⟨g13, 4, none⟩ = some (.int .i64 1) ∧ wz.cell? ⟨g13, 5, none⟩ = some (.int .i64 (m : Int)) ∧ wz.cell? ⟨g13, 6, none⟩ = some (.slice pa t pc) ∧ wz.cell? ⟨lb, lo + j * 10, none⟩ = some (.int .i64 1) ∧ wz.cell? ⟨lb, lo + j * 10 + 1, none⟩ = some (.int .i64 (pt : Int)) ∧ wz.cell? ⟨lb, lo + j * 10 + 2, none⟩ = some (.int .i64 1) ∧ wz.cell? ⟨lb, lo + j * 10 + 3, none⟩ = some (.int .i64 1) ∧ wz.cell? ⟨lb, lo + j * 10 + 4, none⟩ = some (.int .i64 (m : Int)) ∧ wz.cell? ⟨lb, lo + j * 10 + 5, none⟩ = some (.int .i64 (st : Int)) ∧ wz.cell? ⟨lb, lo + j * 10 + 6, none⟩ = some (.int .i64 (j : Int)) ∧ wz.cell? ⟨lb, lo + j * 10 + 7, none⟩ = some (.int .i64 (t : Int)) ∧ wz.cell? ⟨lb, lo + j * 10 + 8, none⟩ = some (.int .u32 0) ∧ wz.cell? ⟨lb, lo + j * 10 + 9, none⟩ = some (.string (pcs L j))) := fun wz hb => by
          have h0 := HR.out.below hb
          obtain ⟨n0, n1, n2, n3, n4, n5, n6, n7, n8, n9⟩ := HNC.out
          rw [Nat.add_zero] at n0
          exact ⟨h0.cell 0 rfl, h0.cell 1 rfl, h0.cell 2 rfl, h0.cell 3 rfl, h0.cell 4 rfl, h0.cell 5 rfl, h0.cell 6 rfl, cell_below n0 hb, cell_below n1 hb, cell_below n2 hb, cell_below n3 hb, cell_below n4 hb, cell_below n5 hb, cell_below n6 hb, cell_below n7 hb, cell_below n8 hb, cell_below n9 hb⟩
        have N1 : Hid (Bk (wr.alloc (.cells #[.int .i64 0, .int .i64 0, .int .i64 0, .int .i64 0, .int .i64 0, .int .i64 0, .slice none 0 0] 63)).drew wr.heap.size [.int .i64 0, .int .i64 0, .int .i64 0, .int .i64 0, .int .i64 0, .int .i64 0, .slice none 0 0] 63) := (Bk.new wr [.int .i64 0, .int .i64 0, .int .i64 0, .int .i64 0, .int .i64 0, .int .i64 0, .slice none 0 0] 63).below (Below.refl _ _).drew
        clear m0 m1' m2 m3 m4 m5 m6 m7 m8 m9 HPP HST HNC
        go_upto_region 23 with fail
        refine wp_region_held_drew (S := fun wz => wz.cell? ⟨g13, 0, none⟩ = some (.int .i64 (pt : Int)) ∧ wz.cell? ⟨g13, 1, none⟩ = some (.int .i64 (st : Int)) ∧ wz.cell? ⟨g13, 2, none⟩ = some (.int .i64 (t : Int)) ∧ wz.cell? ⟨g13, 3, none⟩ = some (.int .i64 1) ∧ wz.cell? ⟨g13, 4, none⟩ = some (.int .i64 1) ∧ wz.cell? ⟨g13, 5, none⟩ = some (.int .i64 (m : Int)) ∧ wz.cell? ⟨g13, 6, none⟩ = some (.slice pa t pc) ∧ wz.cell? ⟨lb, lo + j * 10, none⟩ = some (.int .i64 1) ∧ wz.cell? ⟨lb, lo + j * 10 + 1, none⟩ = some (.int .i64 (pt : Int)) ∧ wz.cell? ⟨lb, lo + j * 10 + 2, none⟩ = some (.int .i64 1) ∧ wz.cell? ⟨lb, lo + j * 10 + 3, none⟩ = some (.int .i64 1) ∧ wz.cell? ⟨lb, lo + j * 10 + 4, none⟩ = some (.int .i64 (m : Int)) ∧ wz.cell? ⟨lb, lo + j * 10 + 5, none⟩ = some (.int .i64 (st : Int)) ∧ wz.cell? ⟨lb, lo + j * 10 + 6, none⟩ = some (.int .i64 (j : Int)) ∧ wz.cell? ⟨lb, lo + j * 10 + 7, none⟩ = some (.int .i64 (t : Int)) ∧ wz.cell? ⟨lb, lo + j * 10 + 8, none⟩ = some (.int .u32 0) ∧ wz.cell? ⟨lb, lo + j * 10 + 9, none⟩ = some (.string (pcs L j))) (by kernel_rfl) (HSB.out _ (Below.refl _ _).drew) (fun hHeld => ?_)
        refine wpAnyH_take (i := 0) (oi := { dst := some 112, op := Go.Op.load 63 (Go.Operand.tmp 13), type := 63, pos := "outright.go:75", after := #[], guard := none }) (v := ?_) rfl (by kernel_rfl) (by kernel_rfl) (by kernel_rfl) (fun _ _ _ h => h) (Or.inl ⟨by rfl, ?_⟩) (by assumption) ?_
        rotate_left
        · intro w hSw
          obtain ⟨q0, q1, q2, q3, q4, q5, q6, q7, q8, q9, q10, q11, q12, q13, q14, q15, q16⟩ := hSw
          go_simp
          try with_reducible rfl
        simp only [Act.put, List.setIfInBounds_toArray, List.set_cons_zero, List.set_cons_succ]
        refine wpAnyH_take (i := 1) (oi := { dst := some 113, op := Go.Op.move (Go.Operand.tmp 9), type := 44, pos := "outright.go:75", after := #[], guard := none }) (v := ?_) rfl (by kernel_rfl) (by kernel_rfl) (by kernel_rfl) (fun _ _ _ h => h) (Or.inl ⟨by rfl, ?_⟩) (by assumption) ?_
        rotate_left
        · intro w hSw
          obtain ⟨q0, q1, q2, q3, q4, q5, q6, q7, q8, q9, q10, q11, q12, q13, q14, q15, q16⟩ := hSw
          go_simp
          try with_reducible rfl
        simp only [Act.put, List.setIfInBounds_toArray, List.set_cons_zero, List.set_cons_succ]
        refine wpAnyH_take (i := 2) (oi := { dst := some 114, op := Go.Op.move (Go.Operand.tmp 15), type := 3, pos := "outright.go:75", after := #[], guard := none }) (v := ?_) rfl (by kernel_rfl) (by kernel_rfl) (by kernel_rfl) (fun _ _ _ h => h) (Or.inl ⟨by rfl, ?_⟩) (by assumption) ?_
        rotate_left
        · intro w hSw
          obtain ⟨q0, q1, q2, q3, q4, q5, q6, q7, q8, q9, q10, q11, q12, q13, q14, q15, q16⟩ := hSw
          go_simp
          try with_reducible rfl
        simp only [Act.put, List.setIfInBounds_toArray, List.set_cons_zero, List.set_cons_succ]
        refine wpAnyH_take (i := 3) (oi := { dst := some 115, op := Go.Op.indexAddr 44 (Go.Operand.tmp 113) (Go.Operand.tmp 114), type := 0, pos := "outright.go:75", after := #[{ on := 1, ground := Go.Ground.data }, { on := 2, ground := Go.Ground.data }], guard := none }) (v := ?_) rfl (by kernel_rfl) (by kernel_rfl) (by kernel_rfl) (fun _ _ _ h => h) (Or.inl ⟨by rfl, ?_⟩) (by assumption) ?_
        rotate_left
        · intro w hSw
          obtain ⟨q0, q1, q2, q3, q4, q5, q6, q7, q8, q9, q10, q11, q12, q13, q14, q15, q16⟩ := hSw
          go_simp
          try with_reducible rfl
        simp only [Act.put, List.setIfInBounds_toArray, List.set_cons_zero, List.set_cons_succ]
        refine wpAnyH_take (i := 4) (oi := { dst := some 116, op := Go.Op.load 26 (Go.Operand.tmp 115), type := 26, pos := "outright.go:75", after := #[{ on := 3, ground := Go.Ground.data }], guard := none }) (v := ?_) rfl (by kernel_rfl) (by kernel_rfl) (by kernel_rfl) (fun _ _ _ h => h) (Or.inl ⟨by rfl, ?_⟩) (by assumption) ?_
        rotate_left
        · intro w hSw
          obtain ⟨q0, q1, q2, q3, q4, q5, q6, q7, q8, q9, q10, q11, q12, q13, q14, q15, q16⟩ := hSw
          go_simp
          try with_reducible rfl
        simp only [Act.put, List.setIfInBounds_toArray, List.set_cons_zero, List.set_cons_succ]
        refine by_key4 (fun qa qc g17 wz => Bk wz g17 [.int .i64 0, .int .i64 0, .int .i64 0, .int .i64 0, .int .i64 0, .int .i64 0, .slice none 0 0] 63 ∧ TxOwn wz wr.heap.size (.slice qa t qc) (pie L (C.set j true)) ∧ (Value.slice qa t qc).ownBlock ≠ some g17 ∧ wr.heap.size ≤ g17 ∧ Below wr.heap.size wr wz) (fun (a : Act) (qa : Option Addr) (qc g17 : Nat) => (((((a.put (some 117) (.tuple #[.agg #[.int .i64 (pt : Int), .int .i64 (st : Int), .int .i64 (t : Int), .int .i64 1, .int .i64 1, .int .i64 (m : Int), .slice qa t qc], .bool (!y), .nilIface])).put (some 111) (.tuple #[.agg #[.int .i64 (pt : Int), .int .i64 (st : Int), .int .i64 (t : Int), .int .i64 1, .int .i64 1, .int .i64 (m : Int), .slice qa t qc], .bool (!y), .nilIface])).put (some 118) (.agg #[.int .i64 (pt : Int), .int .i64 (st : Int), .int .i64 (t : Int), .int .i64 1, .int .i64 1, .int .i64 (m : Int), .slice qa t qc])).put (some 119) (.bool (!y))).put (some 120) .nilIface).put (some 17) (.pointer (some ⟨g17, 0, none⟩))) #[true, true, true, true, true, true, true, true, true, true, true, false, false, false] 3 ?_ ?_
        · intro key0
          simp only [Act.put, List.setIfInBounds_toArray, List.set_cons_zero, List.set_cons_succ] at key0
          have KY := hide key0
          clear key0
          refine wpAnyH_ready (rs := [5, 10]) (by kernel_rfl) (by simp) ?_
          refine AllReadyH.cons (o := { dst := some 117, op := Go.Op.call { callee := Go.Callee.value (Go.Operand.func 22), args := #[Go.Operand.tmp 112, Go.Operand.tmp 116], argTypes := #[63, 26] }, type := 66, pos := "outright.go:75", after := #[{ on := 0, ground := Go.Ground.data }, { on := 4, ground := Go.Ground.data }], guard := none }) rfl (fun K hK => ?_) ?_
          · go_simp
            go_at_call 22
            with_reducible refine Calls.mono (HAD.out _ (by repeat (first | with_reducible exact Below.refl _ _ | with_reducible refine Below.drew ?_ | with_reducible refine bel_al ?_ _))) ?_
            rintro e w7 ⟨qa, qc, rfl, o7, l7, b7, pb7⟩
            have Q7 := hide o7
            have L7 := hide l7
            have Y7 := hide b7
            have PB := hide pb7
            clear o7 l7 b7 pb7
            try dsimp only
            refine hK.out _ _ (HSB.out _ (by repeat (first | with_reducible exact Below.refl _ _ | with_reducible exact Y7.out | with_reducible refine Below.drew ?_ | with_reducible refine bel_al ?_ _))) (fun hHeld2 => ?_)
            clear hK K
            try simp only [Act.put, List.setIfInBounds_toArray, List.set_cons_zero, List.set_cons_succ]
            refine wpAnyH_take (i := 6) (oi := { dst := some 111, op := Go.Op.move (Go.Operand.tmp 117), type := 66, pos := "outright.go:75", after := #[{ on := 5, ground := Go.Ground.data }], guard := none }) (v := ?_) rfl (by kernel_rfl) (by kernel_rfl) (by kernel_rfl) (fun _ _ _ h => h) (Or.inl ⟨by rfl, ?_⟩) (by assumption) ?_
            rotate_left
            · intro w hSw
              obtain ⟨q0, q1, q2, q3, q4, q5, q6, q7, q8, q9, q10, q11, q12, q13, q14, q15, q16⟩ := hSw
              go_simp
              try with_reducible rfl
            simp only [Act.put, List.setIfInBounds_toArray, List.set_cons_zero, List.set_cons_succ]
            refine wpAnyH_take (i := 7) (oi := { dst := some 118, op := Go.Op.extract (Go.Operand.tmp 111) 0, type := 63, pos := "outright.go:75", after := #[{ on := 6, ground := Go.Ground.data }], guard := none }) (v := ?_) rfl (by kernel_rfl) (by kernel_rfl) (by kernel_rfl) (fun _ _ _ h => h) (Or.inl ⟨by rfl, ?_⟩) (by assumption) ?_
            rotate_left
            · intro w hSw
              obtain ⟨q0, q1, q2, q3, q4, q5, q6, q7, q8, q9, q10, q11, q12, q13, q14, q15, q16⟩ := hSw
              go_simp
              try with_reducible rfl
            simp only [Act.put, List.setIfInBounds_toArray, List.set_cons_zero, List.set_cons_succ]
            refine wpAnyH_take (i := 8) (oi := { dst := some 119, op := Go.Op.extract (Go.Operand.tmp 111) 1, type := 4, pos := "outright.go:75", after := #[{ on := 6, ground := Go.Ground.data }, { on := 11, ground := Go.Ground.gcOnly Go.Departure.lateStores }], guard := none }) (v := ?_) rfl (by kernel_rfl) (by kernel_rfl) (by kernel_rfl) (fun _ _ _ h => h) (Or.inl ⟨by rfl, ?_⟩) (by assumption) ?_
            rotate_left
            · intro w hSw
              obtain ⟨q0, q1, q2, q3, q4, q5, q6, q7, q8, q9, q10, q11, q12, q13, q14, q15, q16⟩ := hSw
              go_simp
              try with_reducible rfl
            simp only [Act.put, List.setIfInBounds_toArray, List.set_cons_zero, List.set_cons_succ]
            refine wpAnyH_take (i := 9) (oi := { dst := some 120, op := Go.Op.extract (Go.Operand.tmp 111) 2, type := 29, pos := "outright.go:75", after := #[{ on := 6, ground := Go.Ground.data }, { on := 12, ground := Go.Ground.gcOnly Go.Departure.lateStores }], guard := none }) (v := ?_) rfl (by kernel_rfl) (by kernel_rfl) (by kernel_rfl) (fun _ _ _ h => h) (Or.inl ⟨by rfl, ?_⟩) (by assumption) ?_
            rotate_left
            · intro w hSw
              obtain ⟨q0, q1, q2, q3, q4, q5, q6, q7, q8, q9, q10, q11, q12, q13, q14, q15, q16⟩ := hSw
              go_simp
              try with_reducible rfl
            simp only [Act.put, List.setIfInBounds_toArray, List.set_cons_zero, List.set_cons_succ]
            refine wpAnyH_ready (rs := [10]) (by kernel_rfl) (by simp) ?_
            refine AllReadyH.cons (o := { dst := some 17, op := Go.Op.alloc 63, type := 0, pos := "outright.go:75", after := #[], guard := none }) rfl (fun K hK => ?_) ?_
            · go_simp
              refine hK.out _ _ (HSB.out _ (by repeat (first | with_reducible exact Below.refl _ _ | with_reducible exact Y7.out | with_reducible refine Below.drew ?_ | with_reducible refine bel_al ?_ _))) (fun hHeld2 => ?_)
              clear hK K
              try simp only [Act.put, List.setIfInBounds_toArray, List.set_cons_zero, List.set_cons_succ]
              refine wpAnyH_listed (show _ = #[true, true, true, true, true, true, true, true, true, true, true, false, false, false] by kernel_rfl) ?_
              have hb7 := Y7.out.size
              have hl7 := L7.out
              obtain ⟨W9, e9, M1, D9⟩ := box1 w7 [.int .i64 0, .int .i64 0, .int .i64 0, .int .i64 0, .int .i64 0, .int .i64 0, .slice none 0 0] 63
              have Q9 := Q7.out.below D9
              have Y9 := Y7.out.trans (D9.mono hb7)
              simp only [e9]
              exact KY.out qa qc w7.heap.size W9 ⟨M1, Q9, fun e => (by have := hl7 _ e; omega), hb7, Y9⟩
            exact AllReadyH.nil
          refine AllReadyH.cons (o := { dst := some 17, op := Go.Op.alloc 63, type := 0, pos := "outright.go:75", after := #[], guard := none }) rfl (fun K hK => ?_) ?_
          · go_simp
            refine hK.out _ _ (HSB.out _ (by repeat (first | with_reducible exact Below.refl _ _ | with_reducible refine Below.drew ?_ | with_reducible refine bel_al ?_ _))) (fun hHeld2 => ?_)
            clear hK K
            try simp only [Act.put, List.setIfInBounds_toArray, List.set_cons_zero, List.set_cons_succ]
            refine wpAnyH_ready (rs := [5]) (by kernel_rfl) (by simp) ?_
            refine AllReadyH.cons (o := { dst := some 117, op := Go.Op.call { callee := Go.Callee.value (Go.Operand.func 22), args := #[Go.Operand.tmp 112, Go.Operand.tmp 116], argTypes := #[63, 26] }, type := 66, pos := "outright.go:75", after := #[{ on := 0, ground := Go.Ground.data }, { on := 4, ground := Go.Ground.data }], guard := none }) rfl (fun K hK => ?_) ?_
            · go_simp
              go_at_call 22
              with_reducible refine Calls.mono (HAD.out _ (by repeat (first | with_reducible exact Below.refl _ _ | with_reducible refine Below.drew ?_ | with_reducible refine bel_al ?_ _))) ?_
              rintro e w7 ⟨qa, qc, rfl, o7, l7, b7, pb7⟩
              have Q7 := hide o7
              have L7 := hide l7
              have Y7 := hide b7
              have PB := hide pb7
              clear o7 l7 b7 pb7
              try dsimp only
              refine hK.out _ _ (HSB.out _ (by repeat (first | with_reducible exact Below.refl _ _ | with_reducible exact Y7.out | with_reducible refine Below.drew ?_ | with_reducible refine bel_al ?_ _))) (fun hHeld2 => ?_)
              clear hK K
              try simp only [Act.put, List.setIfInBounds_toArray, List.set_cons_zero, List.set_cons_succ]
              refine wpAnyH_take (i := 6) (oi := { dst := some 111, op := Go.Op.move (Go.Operand.tmp 117), type := 66, pos := "outright.go:75", after := #[{ on := 5, ground := Go.Ground.data }], guard := none }) (v := ?_) rfl (by kernel_rfl) (by kernel_rfl) (by kernel_rfl) (fun _ _ _ h => h) (Or.inl ⟨by rfl, ?_⟩) (by assumption) ?_
              rotate_left
              · intro w hSw
                obtain ⟨q0, q1, q2, q3, q4, q5, q6, q7, q8, q9, q10, q11, q12, q13, q14, q15, q16⟩ := hSw
                go_simp
                try with_reducible rfl
              simp only [Act.put, List.setIfInBounds_toArray, List.set_cons_zero, List.set_cons_succ]
              refine wpAnyH_take (i := 7) (oi := { dst := some 118, op := Go.Op.extract (Go.Operand.tmp 111) 0, type := 63, pos := "outright.go:75", after := #[{ on := 6, ground := Go.Ground.data }], guard := none }) (v := ?_) rfl (by kernel_rfl) (by kernel_rfl) (by kernel_rfl) (fun _ _ _ h => h) (Or.inl ⟨by rfl, ?_⟩) (by assumption) ?_
              rotate_left
              · intro w hSw
                obtain ⟨q0, q1, q2, q3, q4, q5, q6, q7, q8, q9, q10, q11, q12, q13, q14, q15, q16⟩ := hSw
                go_simp
                try with_reducible rfl
              simp only [Act.put, List.setIfInBounds_toArray, List.set_cons_zero, List.set_cons_succ]
              refine wpAnyH_take (i := 8) (oi := { dst := some 119, op := Go.Op.extract (Go.Operand.tmp 111) 1, type := 4, pos := "outright.go:75", after := #[{ on := 6, ground := Go.Ground.data }, { on := 11, ground := Go.Ground.gcOnly Go.Departure.lateStores }], guard := none }) (v := ?_) rfl (by kernel_rfl) (by kernel_rfl) (by kernel_rfl) (fun _ _ _ h => h) (Or.inl ⟨by rfl, ?_⟩) (by assumption) ?_
              rotate_left
              · intro w hSw
                obtain ⟨q0, q1, q2, q3, q4, q5, q6, q7, q8, q9, q10, q11, q12, q13, q14, q15, q16⟩ := hSw
                go_simp
                try with_reducible rfl
              simp only [Act.put, List.setIfInBounds_toArray, List.set_cons_zero, List.set_cons_succ]
              refine wpAnyH_take (i := 9) (oi := { dst := some 120, op := Go.Op.extract (Go.Operand.tmp 111) 2, type := 29, pos := "outright.go:75", after := #[{ on := 6, ground := Go.Ground.data }, { on := 12, ground := Go.Ground.gcOnly Go.Departure.lateStores }], guard := none }) (v := ?_) rfl (by kernel_rfl) (by kernel_rfl) (by kernel_rfl) (fun _ _ _ h => h) (Or.inl ⟨by rfl, ?_⟩) (by assumption) ?_
              rotate_left
              · intro w hSw
                obtain ⟨q0, q1, q2, q3, q4, q5, q6, q7, q8, q9, q10, q11, q12, q13, q14, q15, q16⟩ := hSw
                go_simp
                try with_reducible rfl
              simp only [Act.put, List.setIfInBounds_toArray, List.set_cons_zero, List.set_cons_succ]
              refine wpAnyH_listed (show _ = #[true, true, true, true, true, true, true, true, true, true, true, false, false, false] by kernel_rfl) ?_
              have hb7 := Y7.out.size
              have hl7 := L7.out
              have hx : (wr.alloc (.cells #[.int .i64 0, .int .i64 0, .int .i64 0, .int .i64 0, .int .i64 0, .int .i64 0, .slice none 0 0] 63)).drew.heap.size = wr.heap.size + 1 := Array.size_push _
              rw [hx] at hl7
              have M0 := PB.out _ _ _ N1.out
              exact KY.out qa qc wr.heap.size w7 ⟨M0, Q7.out, fun e => (by have := hl7 _ e; omega), Nat.le_refl _, Y7.out⟩
            exact AllReadyH.nil
          exact AllReadyH.nil
        · intro qa qc g17 wz hF
          simp only [Act.put, List.setIfInBounds_toArray, List.set_cons_zero, List.set_cons_succ]
          obtain ⟨B17, HQ, HOW, HGE, HBZ⟩ := hF
          have D12 := hide (below_sets HGE [.int .i64 (pt : Int), .int .i64 (st : Int), .int .i64 (t : Int), .int .i64 1, .int .i64 1, .int .i64 (m : Int), .slice qa t qc] 0 HBZ)
          have S12 := hide (HSB.out ((((((((wz.setCell ⟨g17, 0, none⟩ (.int .i64 (pt : Int))).setCell ⟨g17, 1, none⟩ (.int .i64 (st : Int))).setCell ⟨g17, 2, none⟩ (.int .i64 (t : Int))).setCell ⟨g17, 3, none⟩ (.int .i64 1)).setCell ⟨g17, 4, none⟩ (.int .i64 1)).setCell ⟨g17, 5, none⟩ (.int .i64 (m : Int))).setCell ⟨g17, 6, none⟩ (.slice qa t qc))) D12.out)
          have K17 := hide (B17.sets [.int .i64 (pt : Int), .int .i64 (st : Int), .int .i64 (t : Int), .int .i64 1, .int .i64 1, .int .i64 (m : Int), .slice qa t qc] rfl)
          have KQ := hide (LOwn.fars HOW [.int .i64 (pt : Int), .int .i64 (st : Int), .int .i64 (t : Int), .int .i64 1, .int .i64 1, .int .i64 (m : Int), .slice qa t qc] 0 HQ)
          have HB17 := hide B17
          have HGE2 := hide HGE
          have g0 := HB17.out.cell 0 rfl
          have g1 := HB17.out.cell 1 rfl
          have g2 := HB17.out.cell 2 rfl
          have g3 := HB17.out.cell 3 rfl
          have g4 := HB17.out.cell 4 rfl
          have g5 := HB17.out.cell 5 rfl
          have g6 := HB17.out.cell 6 rfl
          have f0 := HB17.out.frozen 0
          have f1 := HB17.out.frozen 1
          have f2 := HB17.out.frozen 2
          have f3 := HB17.out.frozen 3
          have f4 := HB17.out.frozen 4
          have f5 := HB17.out.frozen 5
          have f6 := HB17.out.frozen 6
          clear B17 HQ HOW HBZ HGE
          refine wpAnyH_ready (rs := [11]) (by kernel_rfl) (by simp) ?_
          refine AllReadyH.cons (o := { dst := none, op := Go.Op.store 63 (Go.Operand.tmp 17) (Go.Operand.tmp 118), type := 0, pos := "outright.go:75", after := #[{ on := 10, ground := Go.Ground.data }, { on := 7, ground := Go.Ground.data }, { on := 5, ground := Go.Ground.chain }, { on := 0, ground := Go.Ground.phase }, { on := 1, ground := Go.Ground.phase }, { on := 2, ground := Go.Ground.phase }, { on := 3, ground := Go.Ground.phase }, { on := 4, ground := Go.Ground.phase }, { on := 5, ground := Go.Ground.phase }, { on := 6, ground := Go.Ground.phase }, { on := 7, ground := Go.Ground.phase }, { on := 8, ground := Go.Ground.textOnly Go.Departure.lateStores }, { on := 9, ground := Go.Ground.textOnly Go.Departure.lateStores }, { on := 10, ground := Go.Ground.phase }], guard := none }) rfl (fun K hK => ?_) AllReadyH.nil
          go_simp
          refine hK.out _ _ S12.out (fun hHeld2 => ?_)
          clear hK K
          refine wpAnyH_take (i := 12) (oi := { dst := some 18, op := Go.Op.assign (Go.Operand.tmp 119), type := 4, pos := "outright.go:75", after := #[{ on := 8, ground := Go.Ground.data }, { on := 11, ground := Go.Ground.chain }, { on := 0, ground := Go.Ground.phase }, { on := 1, ground := Go.Ground.phase }, { on := 2, ground := Go.Ground.phase }, { on := 3, ground := Go.Ground.phase }, { on := 4, ground := Go.Ground.phase }, { on := 5, ground := Go.Ground.phase }, { on := 6, ground := Go.Ground.phase }, { on := 7, ground := Go.Ground.phase }, { on := 8, ground := Go.Ground.phase }, { on := 9, ground := Go.Ground.textOnly Go.Departure.lateStores }, { on := 10, ground := Go.Ground.phase }, { on := 11, ground := Go.Ground.phase }], guard := none }) (v := ?_) rfl (by kernel_rfl) (by kernel_rfl) (by kernel_rfl) (fun _ _ _ h => h) (Or.inl ⟨by rfl, ?_⟩) (by assumption) ?_
          rotate_left
          · intro w hSw
            obtain ⟨q0, q1, q2, q3, q4, q5, q6, q7, q8, q9, q10, q11, q12, q13, q14, q15, q16⟩ := hSw
            go_simp
            try with_reducible rfl
          simp only [Act.put, List.setIfInBounds_toArray, List.set_cons_zero, List.set_cons_succ]
          refine wpAnyH_take (i := 13) (oi := { dst := some 19, op := Go.Op.assign (Go.Operand.tmp 120), type := 29, pos := "outright.go:75", after := #[{ on := 9, ground := Go.Ground.data }, { on := 12, ground := Go.Ground.chain }, { on := 0, ground := Go.Ground.phase }, { on := 1, ground := Go.Ground.phase }, { on := 2, ground := Go.Ground.phase }, { on := 3, ground := Go.Ground.phase }, { on := 4, ground := Go.Ground.phase }, { on := 5, ground := Go.Ground.phase }, { on := 6, ground := Go.Ground.phase }, { on := 7, ground := Go.Ground.phase }, { on := 8, ground := Go.Ground.phase }, { on := 9, ground := Go.Ground.phase }, { on := 10, ground := Go.Ground.phase }, { on := 11, ground := Go.Ground.phase }, { on := 12, ground := Go.Ground.phase }], guard := none }) (v := ?_) rfl (by kernel_rfl) (by kernel_rfl) (by kernel_rfl) (fun _ _ _ h => h) (Or.inl ⟨by rfl, ?_⟩) (by assumption) ?_
          rotate_left
          · intro w hSw
            obtain ⟨q0, q1, q2, q3, q4, q5, q6, q7, q8, q9, q10, q11, q12, q13, q14, q15, q16⟩ := hSw
            go_simp
            try with_reducible rfl
          simp only [Act.put, List.setIfInBounds_toArray, List.set_cons_zero, List.set_cons_succ]
          refine wpAnyH_done (by kernel_rfl) ?_ _
          clear hHeld2 f0 g0 f1 g1 f2 g2 f3 g3 f4 g4 f5 g5 f6 g6 S12
          obtain ⟨W13, hW13⟩ : ∃ W13, (((((((wz.setCell ⟨g17, 0, none⟩ (.int .i64 (pt : Int))).setCell ⟨g17, 1, none⟩ (.int .i64 (st : Int))).setCell ⟨g17, 2, none⟩ (.int .i64 (t : Int))).setCell ⟨g17, 3, none⟩ (.int .i64 1)).setCell ⟨g17, 4, none⟩ (.int .i64 1)).setCell ⟨g17, 5, none⟩ (.int .i64 (m : Int))).setCell ⟨g17, 6, none⟩ (.slice qa t qc)) = W13 := ⟨_, rfl⟩
          simp only [hW13]
          rw [show World.setCells wz g17 0 [.int .i64 (pt : Int), .int .i64 (st : Int), .int .i64 (t : Int), .int .i64 1, .int .i64 1, .int .i64 (m : Int), .slice qa t qc] = W13 from hW13] at D12 K17 KQ
          clear hW13
          have HR2 := hide (HR.out.below D12.out)
          have HC2 := hide (HCM.out.below D12.out)
          have HB2 := hide (HBW.out.trans (D12.out.mono HBS.out))
          have HG2 : Hid (wr.heap.size ≤ g17 ∧ g13 + 1 < wr.heap.size + 1) := ⟨HGE2.out, by have := HR.out.lt; omega⟩
          have hnb := not_bne y
          have r0 := HR2.out.cell 0 rfl
          have r1 := HR2.out.cell 1 rfl
          have r2 := HR2.out.cell 2 rfl
          have r3 := HR2.out.cell 3 rfl
          have r4 := HR2.out.cell 4 rfl
          have r5 := HR2.out.cell 5 rfl
          have r6 := HR2.out.cell 6 rfl
          have z0 := HR2.out.frozen 0
          have z1 := HR2.out.frozen 1
          have z2 := HR2.out.frozen 2
          have z3 := HR2.out.frozen 3
          have z4 := HR2.out.frozen 4
          have z5 := HR2.out.frozen 5
          have z6 := HR2.out.frozen 6
          have k0 := K17.out.cell 0 rfl
          have k1 := K17.out.cell 1 rfl
          have k2 := K17.out.cell 2 rfl
          have k3 := K17.out.cell 3 rfl
          have k4 := K17.out.cell 4 rfl
          have k5 := K17.out.cell 5 rfl
          have k6 := K17.out.cell 6 rfl
          have hne : (Value.slice qa t qc).ownBlock ≠ some g13 := KQ.out.off HR.out.lt
          have hnc : (Value.slice (some ⟨gc, 0, none⟩) t t).ownBlock ≠ some g13 := fun h2 => by simp [Value.ownBlock] at h2; have := HS8.out.1; omega
          have Q1 := hide (HR2.out.sets [.int .i64 (pt : Int), .int .i64 (st : Int), .int .i64 (t : Int), .int .i64 1, .int .i64 1, .int .i64 (m : Int), .slice qa t qc] rfl)
          have Q2 := hide ((LOwn.fars hne [.int .i64 (pt : Int), .int .i64 (st : Int), .int .i64 (t : Int), .int .i64 1, .int .i64 1, .int .i64 (m : Int), .slice qa t qc] 0 KQ.out).weaken (show g13 + 1 ≤ wr.heap.size from HR.out.lt))
          have Q3 := hide (LOwn.fars hnc [.int .i64 (pt : Int), .int .i64 (st : Int), .int .i64 (t : Int), .int .i64 1, .int .i64 1, .int .i64 (m : Int), .slice qa t qc] 0 HC2.out)
          have Q4 := hide (below_sets HS8.out.2 [.int .i64 (pt : Int), .int .i64 (st : Int), .int .i64 (t : Int), .int .i64 1, .int .i64 1, .int .i64 (m : Int), .slice qa t qc] 0 HB2.out)
          clear hne hnc
          go_wp2
          go_meet
          case rel => exact ⟨qa, qc, rfl, Q1.out, Q2.out, Q3.out, Q4.out⟩
    case rest =>
    obtain ⟨qa, qc, rfl, K1, K2, K3, K4⟩ := hcut
    obtain ⟨wz, hwz⟩ : ∃ z, z = wc := ⟨_, rfl⟩
    subst hwz
    obtain ⟨y17, hy17⟩ : ∃ z, z = u17 := ⟨_, rfl⟩
    obtain ⟨y18, hy18⟩ : ∃ z, z = u18 := ⟨_, rfl⟩
    obtain ⟨y19, hy19⟩ : ∃ z, z = u19 := ⟨_, rfl⟩
    subst hy17 hy18 hy19
    obtain ⟨y102, hy102⟩ : ∃ z, z = u102 := ⟨_, rfl⟩
    subst hy102
    clear HF0
    clear HR HPP HCM HST HBW HNC HDr HSr HPS HBS HSLEN
    go_upto_region 29 with fail
    have HCS2 := hide (HCS.out.set j)
    go_upto_if 128 with fail
    go_cut [12] from 129 to 133 (fun v wz => v = .int .i64 (leftC (C.set j true) : Int) ∧ Hid (Bk wz g13 [.int .i64 (pt : Int), .int .i64 (st : Int), .int .i64 (t : Int), .int .i64 1, .int .i64 1, .int .i64 (m : Int), .slice qa t qc] 63) ∧ Hid (TxOwn wz (g13 + 1) (.slice qa t qc) (pie L (C.set j true))) ∧ Hid (FlOwn wz gc (.slice (some ⟨gc, 0, none⟩) t t) (C.set j true)) ∧ Hid (Below gc w6 wz))
    case first =>
      cases y with
      | true =>
        have HCC := hide (left_set_old HY.out)
        have K3' : Hid (FlOwn wz gc (.slice (some ⟨gc, 0, none⟩) t t) (C.set j true)) := by rw [HCC.out]; exact K3.out
        have HLC : Hid ((leftC C : Int) = (leftC (C.set j true) : Int)) := by unfold Hid; rw [HCC.out]
        go_wp2
        go_meet
        case rel => exact ⟨by rw [HLC.out], K1.out, K2.out, K3'.out, K4.out⟩
      | false =>
        have hlc := left_set_new HY.out
        have hle := left_le C
        rw [HCS.out.len, HT.out] at hle
        have hw1 : IntKind.i64.wrap ((leftC C : Int) - 1) = (leftC (C.set j true) : Int) := by have := HTB.out; rw [IntKind.wrap_i64]; omega
        have hw2 : wrap64 ((leftC C : Int) - 1) = (leftC (C.set j true) : Int) := by have := HTB.out; unfold wrap64; omega
        have hCl : C.length = t := by rw [HCS.out.len, HT.out]
        obtain ⟨z1, z2, z3, z4, z5⟩ := K3.out.put bvl1 hCl HJT.out true
        obtain ⟨⟨u0, y0⟩, x0⟩ := z1 0 (by decide)
        simp only [Nat.mul_one, Nat.add_zero] at y0 x0
        rw [Nat.mul_one] at z2 z3
        have hnc : g13 ≠ gc := by have := HS8.out.1; omega
        have hnq : (Value.slice qa t qc).ownBlock ≠ some gc := K2.out.off (by have := HS8.out.1; omega)
        have M3 := hide (show FlOwn (wz.setCell ⟨gc, j, none⟩ (.bool true)) gc (.slice (some ⟨gc, 0, none⟩) t t) (C.set j true) from z2)
        have M1 := hide (K1.out.other ⟨gc, j, none⟩ (.bool true) hnc)
        have M2 := hide (K2.out.far (p := ⟨gc, j, none⟩) hnq (.bool true))
        have M4 := hide (K4.out.setCell (p := ⟨gc, j, none⟩) (Nat.le_refl _) (.bool true))
        clear z1 z2 z3 z4 z5 hnc hnq hlc hle hCl
        go_wp2
        try simp only [hw2]
        go_meet
        case rel => exact ⟨rfl, M1.out, M2.out, M3.out, M4.out⟩
    case rest =>
    obtain ⟨rfl, G1, G2, G3, G4⟩ := hcut
    obtain ⟨w9, hw9⟩ : ∃ z, z = wc := ⟨_, rfl⟩
    subst hw9
    clear K1 K2 K3 K4 HCS HY HJT hj0 hj2
    obtain ⟨D, hD⟩ : ∃ D, C.set j true = D := ⟨_, rfl⟩
    rw [hD] at G2 G3 HCS2 ⊢
    clear hD
    have HAM := hide (HCS2.out.stray ⟨1, spt, 1, 1, (m1 : Int), sst, six, stt, ssm, sd⟩ (by show (m1 : Int) = (m : Int) + 1; have := HM.out; omega) (chk_le20 _))
    have HMI := hide HCS2.out.miss
    have HWH := hide (HCS2.out.whole HLS.out)
    rw [HT.out] at HAM HMI HWH
    have HAS := hide (fun (w' : World) (h : Er7x w' E) (hp : Txs w' qa t qc (pie L D)) => add_any (pt : Int) (st : Int) (t : Int) 1 1 (m : Int) qa t qc (pie L D) 1 spt 1 1 (m1 : Int) sst six stt ssm sd h hp (pie_size D) HOK.out.d1 HOK.out.t1 HOK.out.t2)
    obtain ⟨AE, hAE⟩ : ∃ x, addE ⟨(pt : Int), (st : Int), (t : Int), 1, 1, (m : Int)⟩ (pie L D) ⟨1, spt, 1, 1, (m1 : Int), sst, six, stt, ssm, sd⟩ = x := ⟨_, rfl⟩
    obtain ⟨AS, hAS⟩ : ∃ x, addS ⟨(pt : Int), (st : Int), (t : Int), 1, 1, (m : Int)⟩ (pie L D) ⟨1, spt, 1, 1, (m1 : Int), sst, six, stt, ssm, sd⟩ = x := ⟨_, rfl⟩
    rw [hAE, HAM.out.2, hAS] at HAS
    rw [hAE] at HAM
    clear hAE hAS
    obtain ⟨z1, z2, z3, z4, z5, z6⟩ := AS
    have hm9 : ∀ w' : World, True := fun _ => trivial
    have hB9 := G4.out
    rw [← HGC.out] at hB9
    have HD9 := hide (chain HD.out hB9)
    have HS9 := hide (HN.out.below hB9)
    clear hB9 hm9
    have r0 := G1.out.cell 0 rfl
    have r1 := G1.out.cell 1 rfl
    have r2 := G1.out.cell 2 rfl
    have r3 := G1.out.cell 3 rfl
    have r4 := G1.out.cell 4 rfl
    have r5 := G1.out.cell 5 rfl
    have r6 := G1.out.cell 6 rfl
    have c0 := HS9.out.cell 0 rfl
    have c1 := HS9.out.cell 1 rfl
    have c2 := HS9.out.cell 2 rfl
    have c3 := HS9.out.cell 3 rfl
    have c4 := HS9.out.cell 4 rfl
    have c5 := HS9.out.cell 5 rfl
    have c6 := HS9.out.cell 6 rfl
    have c7 := HS9.out.cell 7 rfl
    have c8 := HS9.out.cell 8 rfl
    have c9 := HS9.out.cell 9 rfl
    go_upto_region 32 with fail
    go_wp2_with fail
    refine Calls.mono (HAS.out w9 (HX.out.below HD9.out) (own_rcs G2.out)) ?_
    rintro e w10 ⟨v, rfl, o10, b10⟩
    obtain ⟨va, vc, rfl, -⟩ := o10.rcs
    generalize (addP ⟨(pt : Int), (st : Int), (t : Int), 1, 1, (m : Int)⟩ (pie L D) ⟨1, spt, 1, 1, (m1 : Int), sst, six, stt, ssm, sd⟩).length = vn
    clear o10 HAS r0 r1 r2 r3 r4 r5 r6 c0 c1 c2 c3 c4 c5 c6 c7 c8 c9 HS9
    rw [show erv E AE = sent (E AE) from if_neg (by have := HAM.out.1.1; omega)]
    unfold sent Sg.cells
    simp only
    have b12 : Below w9.heap.size w9 (w10.alloc (.cells #[.int .i64 z1, .int .i64 z2, .int .i64 z3, .int .i64 z4, .int .i64 z5, .int .i64 z6, .slice va vn vc] 63)) := b10.alloc b10.size _
    have HB12 := hide b12
    clear b12 b10
    go_upto_region 33 with fail
    obtain ⟨w11, hw11⟩ : ∃ z, w10.alloc (.cells #[.int .i64 z1, .int .i64 z2, .int .i64 z3, .int .i64 z4, .int .i64 z5, .int .i64 z6, .slice va vn vc] 63) = z := ⟨_, rfl⟩
    rw [hw11] at HB12
    simp only [hw11]
    clear hw11
    replace G1 := hide (G1.out.below HB12.out)
    replace G2 := hide (G2.out.below HB12.out)
    replace G3 := hide (G3.out.below HB12.out)
    replace HD9 := hide (chain HD9.out HB12.out)
    have HGS : Hid (gc ≤ w9.heap.size) := by have := World.ownsRow.lt G3.out gc rfl; have := HB12.out.size; have h3 := G4.out.size; rw [HGC.out] at h3; exact h3
    replace G4 := hide (G4.out.trans (HB12.out.mono HGS.out))
    clear HB12 HGS
    have r0 := G1.out.cell 0 rfl
    have r1 := G1.out.cell 1 rfl
    have r2 := G1.out.cell 2 rfl
    have r3 := G1.out.cell 3 rfl
    have r4 := G1.out.cell 4 rfl
    have r5 := G1.out.cell 5 rfl
    have r6 := G1.out.cell 6 rfl
    have HMS := hide (miss_any (pt : Int) (st : Int) (t : Int) 1 1 (m : Int) qa t qc (pie L D) (HX.out.below HD9.out) (own_rcs G2.out) (pie_size D))
    rw [HMI.out.1, HMI.out.2.1] at HMS
    go_wp2_with fail
    refine Calls.mono HMS.out ?_
    rintro e w12 ⟨v, rfl, o12, b12⟩
    obtain ⟨ma, mc, rfl, -⟩ := o12.rcs
    rw [HMI.out.2.2]
    rw [HMI.out.2.2] at o12
    have HML := hide o12
    have HGS : Hid (gc ≤ w11.heap.size) := by have h3 := G4.out.size; rw [HGC.out] at h3; exact h3
    replace G1 := hide (G1.out.below b12)
    replace G2 := hide (G2.out.below b12)
    replace G3 := hide (G3.out.below b12)
    replace HD9 := hide (chain HD9.out b12)
    replace G4 := hide (G4.out.trans (b12.mono HGS.out))
    clear o12 b12 HMS HGS r0 r1 r2 r3 r4 r5 r6
    rw [show erv E 0 = .nilIface from rfl]
    have r0 := G1.out.cell 0 rfl
    have r1 := G1.out.cell 1 rfl
    have r2 := G1.out.cell 2 rfl
    have r3 := G1.out.cell 3 rfl
    have r4 := G1.out.cell 4 rfl
    have r5 := G1.out.cell 5 rfl
    have r6 := G1.out.cell 6 rfl
    have HWS := hide (whole_any (pt : Int) (st : Int) (t : Int) 1 1 (m : Int) qa t qc (pie L D) (HX.out.below HD9.out) (own_rcs G2.out) (pie_size D))
    rw [HMI.out.1, HWH.out.1, HWH.out.2] at HWS
    go_upto_region 34 with fail
    go_wp2_with fail
    refine Calls.mono HWS.out ?_
    rintro e w13 ⟨wa, n', c', rfl, o13, b13⟩
    rw [show erv E 0 = .nilIface from rfl]
    have HWB := hide o13
    have HGS : Hid (gc ≤ w12.heap.size) := by have h3 := G4.out.size; rw [HGC.out] at h3; exact h3
    replace G1 := hide (G1.out.below b13)
    replace G2 := hide (G2.out.below b13)
    replace G3 := hide (G3.out.below b13)
    replace HML := hide (HML.out.below b13)
    replace HD9 := hide (chain HD9.out b13)
    replace G4 := hide (G4.out.trans (b13.mono HGS.out))
    clear o13 b13 HWS HGS r0 r1 r2 r3 r4 r5 r6
    obtain ⟨lc, hlc⟩ : ∃ x, leftC D = x := ⟨_, rfl⟩
    rw [hlc] at HML HMI ⊢
    have HLC := hide hlc
    clear hlc
    go_upto_region 35 with fail
    go_cut [26, 194] from 141 to 194 (fun v26 v wz => v = .bool false ∧ wz = w13)
    case first =>
      cases hall : D.all id with
      | true =>
        have hl0 : ((lc : Int) == 0) = true := by rw [← HLC.out, left_zero.2 hall]; rfl
        have hb := HWB.out
        rw [if_pos hall] at hb
        have s1 := bts_string hb
        rw [HJL.out] at s1
        clear hb hall
        go_wp2_with fail
        go_meet
        case rel => exact ⟨rfl, rfl⟩
      | false =>
        have hl0 : ((lc : Int) == 0) = false := by
          have : ¬ lc = 0 := fun h => by
            rw [← HLC.out] at h
            rw [left_zero.1 h] at hall
            cases hall
          simp
          omega
        have hb := HWB.out
        rw [if_neg (by rw [hall]; decide)] at hb
        have hn0 : n' = 0 := hb.size.symm
        have hn1 : ((n' : Int) != 0) = false := by rw [hn0]; rfl
        clear hb hall hn0
        go_wp2_with fail
        go_meet
        case rel => exact ⟨rfl, rfl⟩
    case rest =>
    obtain ⟨rfl, rfl⟩ := hcut
    obtain ⟨y26, hy26⟩ : ∃ z, z = u26 := ⟨_, rfl⟩
    subst hy26
    obtain ⟨w14, hw14⟩ : ∃ z, z = wc := ⟨_, rfl⟩
    subst hw14
    clear HWB
    have HMR := hide (own_rcs HML.out)
    have HCR := hide (own_rcs G3.out)
    have HPM := hide (pie_mis (by rw [HLZ.out]; exact HZ.out.1) (by rw [HLZ.out]; exact HZ.out.2) HCS2.out.len)
    go_upto_region 38 with fail
    go_loopw [28] (fun s wr => ∃ jj : Nat, jj ≤ lc ∧ s = .int .i64 (jj : Int) ∧ Hid (Below w14.heap.size w14 wr)) (fun s _ => lc - (intOf s).toNat)
    case atStart => exact ⟨0, Nat.zero_le _, rfl, Below.refl _ _⟩
    case round =>
      obtain ⟨jj, hjj, rfl, HRR⟩ := hrel
      by_cases hlt2 : jj < lc
      · --
        have hml : (misN 0 (pie L D)).length = lc := HMI.out.2.2
        obtain ⟨x, hx⟩ : ∃ x, (misN 0 (pie L D))[jj]? = some x := ⟨_, List.getElem?_eq_getElem (by omega)⟩
        obtain ⟨nn, hnn, hdn⟩ := mis_at _ D 0 HPM.out jj x hx
        rw [Nat.zero_add] at hnn
        have hnt : nn < t := by have := (List.getElem?_eq_some_iff.1 hdn).1; rw [HCS2.out.len, HT.out] at this; exact this
        obtain ⟨b1, o1, rfl, hc1⟩ := (HMR.out.below HRR.out).at iv1 (by decide) hx
        have n0 := hc1 0 _ rfl
        rw [Nat.mul_one, Nat.add_zero, hnn] at n0
        obtain ⟨b2, o2, e2, hc2⟩ := (HCR.out.below HRR.out).at bvl1 (by decide) hdn
        simp only [Option.some.injEq, Addr.mk.injEq] at e2
        obtain ⟨rfl, rfl, -⟩ := e2
        have n1 := hc2 0 _ rfl
        simp only [Nat.mul_one, Nat.add_zero, Nat.zero_add] at n1
        have k0 : ¬ (jj : Int) < 0 := by omega
        have k1 : (jj : Int) < (lc : Int) := by omega
        have k2 : ¬ (nn : Int) < 0 := by omega
        have k3 : (nn : Int) < (t : Int) := by omega
        have hlc32 : lc ≤ 32 := by have h1 := left_le D; rw [HLC.out, HCS2.out.len, HT.out] at h1; have := HTB.out; omega
        by_cases hj0 : jj = 0
        · have d0 : decide ((0 : Int) < (jj : Int)) = false := by rw [hj0]; rfl
          have d1 : decide (0 < jj) = false := by rw [hj0]; rfl
          clear hc1 hc2 hx hdn hml hj0
          go_wp2_with fail
          go_quiet (fail)
          go_wp2
          exact ⟨⟨jj + 1, by omega, by simp, HRR.out.trans ⟨rfl, rfl, rfl, Nat.le_refl _, fun _ _ => rfl⟩⟩, by simp [intOf]; omega⟩
        · obtain ⟨i, rfl⟩ : ∃ i, jj = i + 1 := ⟨jj - 1, by omega⟩
          obtain ⟨x', hx'⟩ : ∃ x, (misN 0 (pie L D))[i]? = some x := ⟨_, List.getElem?_eq_getElem (by omega)⟩
          have hup := mis_up _ 0 i x' x hx' hx
          have n2 := ((HMR.out.below HRR.out).at iv1 (by decide) hx')
          obtain ⟨b3, o3, e3, hc3⟩ := n2
          simp only [Option.some.injEq, Addr.mk.injEq] at e3
          obtain ⟨rfl, rfl, -⟩ := e3
          have n2 := hc3 0 _ rfl
          rw [Nat.mul_one, Nat.add_zero] at n2
          obtain ⟨i1, hi1⟩ : ∃ k, i + 1 = k := ⟨_, rfl⟩
          rw [hi1] at n0 k0 k1 hlt2 hjj ⊢
          have k4 : IntKind.i64.wrap ((i1 : Int) - 1) = (i : Int) := by rw [IntKind.wrap_i64]; omega
          have k5 : ¬ (i : Int) < 0 := by omega
          have k6 : (i : Int) < (lc : Int) := by omega
          have k7 : decide ((nn : Int) ≤ x') = false := by simp; omega
          have k8 : decide ((0 : Int) < (i1 : Int)) = true := by simp; omega
          have k9 : decide (0 < i1) = true := by simp; omega
          clear hc1 hc2 hc3 hx hx' hdn hml hup hj0 hi1
          go_wp2_with fail
          go_quiet (fail)
          go_wp2
          exact ⟨⟨i1 + 1, by omega, by simp, HRR.out.trans ⟨rfl, rfl, rfl, Nat.le_refl _, fun _ _ => rfl⟩⟩, by simp [intOf]; omega⟩
      · obtain rfl : lc = jj := by omega
        have hnm : ¬ (lc : Int) < (lc : Int) := by omega
        have F1 := hide (G1.out.below HRR.out)
        have F2 := hide (G2.out.below HRR.out)
        have F3 := hide (G3.out.below HRR.out)
        have HGS : Hid (gc ≤ w14.heap.size) := by have h3 := G4.out.size; rw [HGC.out] at h3; exact h3
        have F4 := hide (G4.out.trans (HRR.out.mono HGS.out))
        clear G1 G2 G3 G4 HMR HCR HML HD9
        go_wp2
        exact ⟨⟨k + 1, D, (pt : Int), (st : Int), (t : Int), 1, 1, (m : Int), qa, t, qc, pie L D, by omega, by simp, by rw [HLC.out], F1.out, F2.out, F3.out, HCS2.out, .inr ⟨by omega, rfl, rfl, rfl, rfl, rfl, rfl, rfl⟩, F4.out⟩, by simp [intOf]; omega⟩
end Go.Proofs.YtdbciciljeainaaDoor.chunkArrives
