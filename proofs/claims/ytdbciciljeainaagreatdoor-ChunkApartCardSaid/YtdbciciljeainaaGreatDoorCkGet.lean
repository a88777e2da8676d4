/-
  The program's Get: the note of bytes.
-/
import Derived.Test.YtdbciciljeainaaGreatDoorCkRead
import Derived.Test.YtdbciciljeainaaGreatDoorXfPieces
import Derived.Test.YtdbciciljeainaaGreatDoorXfKit
import Derived.Test.YtdbciciljeainaaGreatDoorSeal
namespace Go.Proofs.YtdbciciljeainaaGreatDoor
open Go.RowKit FerryCrc
set_option linter.unusedVariables false
set_option linter.unusedSimpArgs false

/-- The errors that notes' bytes tell besides. -/
structure Er10 (w : World) (E : Nat → Addr) : Prop where
  e7 : Er7 w E
  v1 : w.cell? ⟨4, 0, none⟩ = some (sent (E 1))
  v5 : w.cell? ⟨5, 0, none⟩ = some (sent (E 5))
  v6 : w.cell? ⟨11, 0, none⟩ = some (sent (E 6))
theorem Er10.below {w w' : World} {E : Nat → Addr} (h : Er10 w E) (hb : Below w.heap.size w w') : Er10 w' E := ⟨h.e7.below hb, cell_below h.v1 hb, cell_below h.v5 hb, cell_below h.v6 hb⟩
theorem Er10.over {B : Nat} {w w' : World} {E : Nat → Addr} (h : Er10 w E) (hb : Below w.heap.size w w') : Er10 w' E := h.below hb

set_option maxRecDepth 100000 in
set_option maxHeartbeats 4000000 in
theorem get_any (s : ByteArray) {w : World} {E : Nat → Addr} (he : Er10 w E) (hm : s.size ≤ 140737488351232) :
    Calls Tryz.prog 23 #[.string s] w fun e w' => e = .returned (.tuple #[.agg (getN (bytesOf s)).cells.toArray, erv E (getE (bytesOf s))]) ∧ Below w.heap.size w w' := by
  obtain ⟨XE, hXE⟩ : ∃ x, getE (bytesOf s) = x := ⟨_, rfl⟩
  obtain ⟨XN, hXN⟩ : ∃ x, getN (bytesOf s) = x := ⟨_, rfl⟩
  rw [hXE, hXN]
  obtain ⟨l, hl⟩ : ∃ l, bytesOf s = l := ⟨_, rfl⟩
  obtain ⟨n, hn⟩ : ∃ n, s.size = n := ⟨_, rfl⟩
  have hln : l.length = n := by rw [← hl, bytesOf_len, hn]
  have HXN : Hid (XN = if XE = 0 then rdN (l.take (n - 4)) else gNt) := by rw [← hXN, ← hXE]; unfold Hid getN; rw [hl, hln]
  have HXE : Hid (XE = if n < 4 then 1 else if ¬ sumOf (l.take (n - 4)) = num4 (l.drop (n - 4)) then 6 else if n < 27 then 1 else if nbe (cut l 0 2) ≠ n then 5 else chk (rdN (l.take (n - 4)))) := by rw [← hXE]; unfold Hid getE; rw [hl, hln]
  have HLN := hide hln
  have HS9 : Hid (n ≤ 140737488351232) := by unfold Hid; omega
  have HSM : Hid (∀ c ∈ l, c < 256) := by rw [← hl]; exact bytesOf_lt s
  clear hXE hXN
  obtain ⟨W, hW, B0, D0⟩ := box1 w [.int .i64 0, .int .i64 0, .int .i64 0, .int .i64 0, .int .i64 0, .int .i64 0, .int .i64 0, .int .i64 0, .int .u32 0, .string ⟨#[]⟩] 33
  obtain ⟨c1, w1, hrun, hs1, b1⟩ := conv_lay W s n hn (hn ▸ hm)
  rw [hl] at hs1
  obtain ⟨q, hq⟩ : ∃ q, w.heap.size = q := ⟨_, rfl⟩
  have HQ0 : Hid (w.heap.size ≤ q) := by unfold Hid; omega
  rw [hq] at B0
  have HB := hide (B0.below b1)
  have HD := hide (chain D0 b1)
  have HE := hide (he.below HD.out)
  have HE0 := hide he
  have HS := hide hs1
  have HWD := hide hW
  have HQQ := hide hq
  have HRU := hide hrun
  have HNN := hide hn
  clear hs1 b1 D0 B0 hW he hm hrun hq hl hln hn
  go_enter Tryz.func23, Tryz.ntmps23
  go_upto_region 1 with fail
  have hW := HWD.out
  have hq := HQQ.out
  clear HWD HQQ
  simp only [hW, hq]
  clear hW hq
  have hrun := HRU.out
  have hn := HNN.out
  clear HRU HNN
  by_cases h4 : n < 4
  · have HC := hide (open_short (some ⟨W.heap.size, 0, none⟩) n c1 (E 1) w1 HE.out.v1 h4)
    go_wp2_with fail
    refine Calls.mono HC.out ?_
    rintro e w2 ⟨rfl, b2⟩
    replace HB := hide (HB.out.below b2)
    replace HD := hide (chain HD.out b2)
    clear b2 HC hrun
    unfold sent
    go_upto_region 3 with fail
    have HF : Hid (XE = 1) := by
      unfold Hid
      rw [HXE.out]
      rw [if_pos h4]
    have HG : Hid (XN = gNt) := by
      rw [HXN.out, HF.out]
      exact if_neg (by decide)
    have g0 := HB.out.cell 0 rfl
    have g1 := HB.out.cell 1 rfl
    have g2 := HB.out.cell 2 rfl
    have g3 := HB.out.cell 3 rfl
    have g4 := HB.out.cell 4 rfl
    have g5 := HB.out.cell 5 rfl
    have g6 := HB.out.cell 6 rfl
    have g7 := HB.out.cell 7 rfl
    have g8 := HB.out.cell 8 rfl
    have g9 := HB.out.cell 9 rfl
    have f0 := HB.out.frozen 0
    have f1 := HB.out.frozen 1
    have f2 := HB.out.frozen 2
    have f3 := HB.out.frozen 3
    have f4 := HB.out.frozen 4
    have f5 := HB.out.frozen 5
    have f6 := HB.out.frozen 6
    have f7 := HB.out.frozen 7
    have f8 := HB.out.frozen 8
    have f9 := HB.out.frozen 9
    have Q1 := hide (HB.out.sets [.int .i64 0, .int .i64 0, .int .i64 0, .int .i64 0, .int .i64 0, .int .i64 0, .int .i64 0, .int .i64 0, .int .u32 0, .string ⟨#[]⟩] rfl)
    have Q3 := hide (below_sets HQ0.out [.int .i64 0, .int .i64 0, .int .i64 0, .int .i64 0, .int .i64 0, .int .i64 0, .int .i64 0, .int .i64 0, .int .u32 0, .string ⟨#[]⟩] 0 HD.out)
    go_wp2
    obtain ⟨W9, hW9⟩ : ∃ W9, ((((((((((w2.setCell ⟨q, 0, none⟩ (.int .i64 0)).setCell ⟨q, 1, none⟩ (.int .i64 0)).setCell ⟨q, 2, none⟩ (.int .i64 0)).setCell ⟨q, 3, none⟩ (.int .i64 0)).setCell ⟨q, 4, none⟩ (.int .i64 0)).setCell ⟨q, 5, none⟩ (.int .i64 0)).setCell ⟨q, 6, none⟩ (.int .i64 0)).setCell ⟨q, 7, none⟩ (.int .i64 0)).setCell ⟨q, 8, none⟩ (.int .u32 0)).setCell ⟨q, 9, none⟩ (.string ⟨#[]⟩)) = W9 := ⟨_, rfl⟩
    simp only [hW9]
    rw [show World.setCells w2 q 0 [.int .i64 0, .int .i64 0, .int .i64 0, .int .i64 0, .int .i64 0, .int .i64 0, .int .i64 0, .int .i64 0, .int .u32 0, .string ⟨#[]⟩] = W9 from hW9] at Q1 Q3
    clear hW9
    have e0 := Q1.out.cell 0 rfl
    have e1 := Q1.out.cell 1 rfl
    have e2 := Q1.out.cell 2 rfl
    have e3 := Q1.out.cell 3 rfl
    have e4 := Q1.out.cell 4 rfl
    have e5 := Q1.out.cell 5 rfl
    have e6 := Q1.out.cell 6 rfl
    have e7 := Q1.out.cell 7 rfl
    have e8 := Q1.out.cell 8 rfl
    have e9 := Q1.out.cell 9 rfl
    refine bodyPost_ret (v := .tuple #[.agg #[.int .i64 0, .int .i64 0, .int .i64 0, .int .i64 0, .int .i64 0, .int .i64 0, .int .i64 0, .int .i64 0, .int .u32 0, .string ⟨#[]⟩], .iface 157 (.pointer (some (E 1)))]) (by simp [results, Tryz.results23, go_sem, e0, e1, e2, e3, e4, e5, e6, e7, e8, e9]) rfl ?_
    exact ⟨by rw [HF.out, HG.out]; rfl, Q3.out⟩
  · have HC := hide (open_any _ n c1 l (E 6) w1 HE.out.v6 HS.out (by omega))
    go_wp2_with fail
    refine Calls.mono HC.out ?_
    rintro e w2 ⟨b2, hg⟩
    replace HB := hide (HB.out.below b2)
    replace HD := hide (chain HD.out b2)
    replace HE := hide (HE.out.below b2)
    clear b2 HC hrun HS
    rcases hg with ⟨hg, g, rfl, ho⟩ | ⟨hg, rfl⟩
    rotate_left
    · unfold sent
      have HG9 : Hid (¬ sumOf (l.take (n - 4)) = num4 (l.drop (n - 4))) := by
        unfold Good at hg
        rw [HLN.out] at hg
        exact hg
      clear hg
      go_upto_region 3 with fail
      have HF : Hid (XE = 6) := by
        unfold Hid
        rw [HXE.out]
        rw [if_neg h4, if_pos HG9.out]
      have HG : Hid (XN = gNt) := by
        rw [HXN.out, HF.out]
        exact if_neg (by decide)
      have g0 := HB.out.cell 0 rfl
      have g1 := HB.out.cell 1 rfl
      have g2 := HB.out.cell 2 rfl
      have g3 := HB.out.cell 3 rfl
      have g4 := HB.out.cell 4 rfl
      have g5 := HB.out.cell 5 rfl
      have g6 := HB.out.cell 6 rfl
      have g7 := HB.out.cell 7 rfl
      have g8 := HB.out.cell 8 rfl
      have g9 := HB.out.cell 9 rfl
      have f0 := HB.out.frozen 0
      have f1 := HB.out.frozen 1
      have f2 := HB.out.frozen 2
      have f3 := HB.out.frozen 3
      have f4 := HB.out.frozen 4
      have f5 := HB.out.frozen 5
      have f6 := HB.out.frozen 6
      have f7 := HB.out.frozen 7
      have f8 := HB.out.frozen 8
      have f9 := HB.out.frozen 9
      have Q1 := hide (HB.out.sets [.int .i64 0, .int .i64 0, .int .i64 0, .int .i64 0, .int .i64 0, .int .i64 0, .int .i64 0, .int .i64 0, .int .u32 0, .string ⟨#[]⟩] rfl)
      have Q3 := hide (below_sets HQ0.out [.int .i64 0, .int .i64 0, .int .i64 0, .int .i64 0, .int .i64 0, .int .i64 0, .int .i64 0, .int .i64 0, .int .u32 0, .string ⟨#[]⟩] 0 HD.out)
      go_wp2
      obtain ⟨W9, hW9⟩ : ∃ W9, ((((((((((w2.setCell ⟨q, 0, none⟩ (.int .i64 0)).setCell ⟨q, 1, none⟩ (.int .i64 0)).setCell ⟨q, 2, none⟩ (.int .i64 0)).setCell ⟨q, 3, none⟩ (.int .i64 0)).setCell ⟨q, 4, none⟩ (.int .i64 0)).setCell ⟨q, 5, none⟩ (.int .i64 0)).setCell ⟨q, 6, none⟩ (.int .i64 0)).setCell ⟨q, 7, none⟩ (.int .i64 0)).setCell ⟨q, 8, none⟩ (.int .u32 0)).setCell ⟨q, 9, none⟩ (.string ⟨#[]⟩)) = W9 := ⟨_, rfl⟩
      simp only [hW9]
      rw [show World.setCells w2 q 0 [.int .i64 0, .int .i64 0, .int .i64 0, .int .i64 0, .int .i64 0, .int .i64 0, .int .i64 0, .int .i64 0, .int .u32 0, .string ⟨#[]⟩] = W9 from hW9] at Q1 Q3
      clear hW9
      have e0 := Q1.out.cell 0 rfl
      have e1 := Q1.out.cell 1 rfl
      have e2 := Q1.out.cell 2 rfl
      have e3 := Q1.out.cell 3 rfl
      have e4 := Q1.out.cell 4 rfl
      have e5 := Q1.out.cell 5 rfl
      have e6 := Q1.out.cell 6 rfl
      have e7 := Q1.out.cell 7 rfl
      have e8 := Q1.out.cell 8 rfl
      have e9 := Q1.out.cell 9 rfl
      refine bodyPost_ret (v := .tuple #[.agg #[.int .i64 0, .int .i64 0, .int .i64 0, .int .i64 0, .int .i64 0, .int .i64 0, .int .i64 0, .int .i64 0, .int .u32 0, .string ⟨#[]⟩], .iface 157 (.pointer (some (E 6)))]) (by simp [results, Tryz.results23, go_sem, e0, e1, e2, e3, e4, e5, e6, e7, e8, e9]) rfl ?_
      exact ⟨by rw [HF.out, HG.out]; rfl, Q3.out⟩
    have HG9 : Hid (sumOf (l.take (n - 4)) = num4 (l.drop (n - 4))) := by
      unfold Good at hg
      rw [HLN.out] at hg
      exact hg
    clear hg
    by_cases h27 : n < 27
    · have d27 : decide (n < 27) = true := decide_eq_true h27
      have i27 : (n : Int) < 27 := by omega
      go_upto_region 5 with fail
      have tv := HE.out.v1
      have tq : ¬ (4 : Nat) = q := by have h9 : (4 : Nat) < w.heap.size := block_lt_of_cell HE0.out.v1; have := HQ0.out; omega
      have tq2 : ¬ q = (4 : Nat) := fun h => tq h.symm
      unfold sent at tv
      have HF : Hid (XE = 1) := by
        unfold Hid
        rw [HXE.out]
        rw [if_neg h4, if_neg (fun h => h HG9.out), if_pos h27]
      have HG : Hid (XN = gNt) := by
        rw [HXN.out, HF.out]
        exact if_neg (by decide)
      have g0 := HB.out.cell 0 rfl
      have g1 := HB.out.cell 1 rfl
      have g2 := HB.out.cell 2 rfl
      have g3 := HB.out.cell 3 rfl
      have g4 := HB.out.cell 4 rfl
      have g5 := HB.out.cell 5 rfl
      have g6 := HB.out.cell 6 rfl
      have g7 := HB.out.cell 7 rfl
      have g8 := HB.out.cell 8 rfl
      have g9 := HB.out.cell 9 rfl
      have f0 := HB.out.frozen 0
      have f1 := HB.out.frozen 1
      have f2 := HB.out.frozen 2
      have f3 := HB.out.frozen 3
      have f4 := HB.out.frozen 4
      have f5 := HB.out.frozen 5
      have f6 := HB.out.frozen 6
      have f7 := HB.out.frozen 7
      have f8 := HB.out.frozen 8
      have f9 := HB.out.frozen 9
      have Q1 := hide (HB.out.sets [.int .i64 0, .int .i64 0, .int .i64 0, .int .i64 0, .int .i64 0, .int .i64 0, .int .i64 0, .int .i64 0, .int .u32 0, .string ⟨#[]⟩] rfl)
      have Q3 := hide (below_sets HQ0.out [.int .i64 0, .int .i64 0, .int .i64 0, .int .i64 0, .int .i64 0, .int .i64 0, .int .i64 0, .int .i64 0, .int .u32 0, .string ⟨#[]⟩] 0 HD.out)
      go_region
      go_wp2
      obtain ⟨W9, hW9⟩ : ∃ W9, ((((((((((w2.setCell ⟨q, 0, none⟩ (.int .i64 0)).setCell ⟨q, 1, none⟩ (.int .i64 0)).setCell ⟨q, 2, none⟩ (.int .i64 0)).setCell ⟨q, 3, none⟩ (.int .i64 0)).setCell ⟨q, 4, none⟩ (.int .i64 0)).setCell ⟨q, 5, none⟩ (.int .i64 0)).setCell ⟨q, 6, none⟩ (.int .i64 0)).setCell ⟨q, 7, none⟩ (.int .i64 0)).setCell ⟨q, 8, none⟩ (.int .u32 0)).setCell ⟨q, 9, none⟩ (.string ⟨#[]⟩)) = W9 := ⟨_, rfl⟩
      simp only [hW9]
      rw [show World.setCells w2 q 0 [.int .i64 0, .int .i64 0, .int .i64 0, .int .i64 0, .int .i64 0, .int .i64 0, .int .i64 0, .int .i64 0, .int .u32 0, .string ⟨#[]⟩] = W9 from hW9] at Q1 Q3
      clear hW9
      replace Q1 := hide (Q1.out.below (Below.refl _ W9).drew)
      replace Q3 := hide Q3.out.drew
      have e0 := Q1.out.cell 0 rfl
      have e1 := Q1.out.cell 1 rfl
      have e2 := Q1.out.cell 2 rfl
      have e3 := Q1.out.cell 3 rfl
      have e4 := Q1.out.cell 4 rfl
      have e5 := Q1.out.cell 5 rfl
      have e6 := Q1.out.cell 6 rfl
      have e7 := Q1.out.cell 7 rfl
      have e8 := Q1.out.cell 8 rfl
      have e9 := Q1.out.cell 9 rfl
      refine bodyPost_ret (v := .tuple #[.agg #[.int .i64 0, .int .i64 0, .int .i64 0, .int .i64 0, .int .i64 0, .int .i64 0, .int .i64 0, .int .i64 0, .int .u32 0, .string ⟨#[]⟩], .iface 157 (.pointer (some (E 1)))]) (by simp [results, Tryz.results23, go_sem, e0, e1, e2, e3, e4, e5, e6, e7, e8, e9]) rfl ?_
      exact ⟨by rw [HF.out, HG.out]; rfl, Q3.out⟩
    · have i27 : ¬ (n : Int) < 27 := by omega
      obtain ⟨L, hL⟩ : ∃ L, l.take (n - 4) = L := ⟨_, rfl⟩
      obtain ⟨z, hz⟩ : ∃ z, n - 4 = z := ⟨_, rfl⟩
      have hLl : L.length = z := by rw [← hL, List.length_take, HLN.out]; omega
      have hLs : ∀ c ∈ L, c < 256 := fun c hc => HSM.out c (List.mem_of_mem_take (hL ▸ hc))
      have hcut : nbe (cut l 0 2) = nbe (cut L 0 2) := by rw [← hL, cut_take _ _ _ _ (by omega)]
      rw [hL, hz] at ho
      rw [hL] at HXN HXE HG9
      rw [hcut] at HXE
      have hb := ho.bts hLl (by have := HS9.out; omega) hLs
      have HC := hide (copen_any _ z z L w2 hb)
      rw [hz]
      have HZ := hide (And.intro hz hLl)
      have HLS := hide hLs
      clear hL hLl hcut hb ho hz hLs
      go_wp2_with fail
      refine Calls.mono HC.out ?_
      rintro e w3 ⟨c, hc, rfl, cu, b2⟩
      have HCW : Hid (q ≤ w2.heap.size ∧ w2.heap.size < c ∧ q < w2.heap.size) := ⟨Nat.le_of_lt HB.out.lt, hc, HB.out.lt⟩
      replace HB := hide (HB.out.below b2)
      replace HD := hide (chain HD.out b2)
      replace HE := hide (HE.out.below b2)
      have HCU := hide cu
      obtain ⟨y, hy⟩ : ∃ y, nbe (cut L 0 2) = y := ⟨_, rfl⟩
      have hy2 : y < 65536 := by rw [← hy]; exact cut_lt HLS.out 0 2
      have HC2 := hide (cu16_ok c _ z 0 z L w3 HCU.out (by have := HZ.out; omega) (by rw [hy]; exact hy2))
      rw [hy] at HC2 HXE
      clear cu hc b2 HC hy hy2
      go_wp2_with fail
      refine Calls.mono HC2.out ?_
      rintro e w4 ⟨rfl, cu, fr⟩
      have hqc : ¬ q = c := by have := HCW.out; omega
      replace HB := hide (HB.out.frm fr hqc)
      have bw : Below w2.heap.size w3 w4 := fr.below (by have := HCU.out.lt; have := HCW.out; omega) (fun k hk => by have := HCW.out; have : k = c := hk; omega)
      replace HD : Hid (Below w.heap.size w w4) := HD.out.trans (fr.below (by have := HCU.out.lt; have := HCW.out; have := HQ0.out; omega) (fun k hk => by have := HCW.out; have := HQ0.out; have : k = c := hk; omega))
      replace HE := hide (HE0.out.below HD.out)
      replace HCU := hide cu
      clear cu fr bw HC2
      by_cases hyn : y = n
      rotate_left
      · have d1 : ((y : Int) != (n : Int)) = true := by simp; omega
        have d2 : (y != n) = true := by simp; omega
        go_upto_region 9 with fail
        have tv := HE.out.v5
        have tq : ¬ (5 : Nat) = q := by have h9 : (5 : Nat) < w.heap.size := block_lt_of_cell HE0.out.v5; have := HQ0.out; omega
        have tq2 : ¬ q = (5 : Nat) := fun h => tq h.symm
        unfold sent at tv
        have HF : Hid (XE = 5) := by
          unfold Hid
          rw [HXE.out]
          rw [if_neg h4, if_neg (fun h => h HG9.out), if_neg h27, if_pos hyn]
        have HG : Hid (XN = gNt) := by
          rw [HXN.out, HF.out]
          exact if_neg (by decide)
        have g0 := HB.out.cell 0 rfl
        have g1 := HB.out.cell 1 rfl
        have g2 := HB.out.cell 2 rfl
        have g3 := HB.out.cell 3 rfl
        have g4 := HB.out.cell 4 rfl
        have g5 := HB.out.cell 5 rfl
        have g6 := HB.out.cell 6 rfl
        have g7 := HB.out.cell 7 rfl
        have g8 := HB.out.cell 8 rfl
        have g9 := HB.out.cell 9 rfl
        have f0 := HB.out.frozen 0
        have f1 := HB.out.frozen 1
        have f2 := HB.out.frozen 2
        have f3 := HB.out.frozen 3
        have f4 := HB.out.frozen 4
        have f5 := HB.out.frozen 5
        have f6 := HB.out.frozen 6
        have f7 := HB.out.frozen 7
        have f8 := HB.out.frozen 8
        have f9 := HB.out.frozen 9
        have Q1 := hide (HB.out.sets [.int .i64 0, .int .i64 0, .int .i64 0, .int .i64 0, .int .i64 0, .int .i64 0, .int .i64 0, .int .i64 0, .int .u32 0, .string ⟨#[]⟩] rfl)
        have Q3 := hide (below_sets HQ0.out [.int .i64 0, .int .i64 0, .int .i64 0, .int .i64 0, .int .i64 0, .int .i64 0, .int .i64 0, .int .i64 0, .int .u32 0, .string ⟨#[]⟩] 0 HD.out)
        go_region
        go_wp2
        obtain ⟨W9, hW9⟩ : ∃ W9, ((((((((((w4.setCell ⟨q, 0, none⟩ (.int .i64 0)).setCell ⟨q, 1, none⟩ (.int .i64 0)).setCell ⟨q, 2, none⟩ (.int .i64 0)).setCell ⟨q, 3, none⟩ (.int .i64 0)).setCell ⟨q, 4, none⟩ (.int .i64 0)).setCell ⟨q, 5, none⟩ (.int .i64 0)).setCell ⟨q, 6, none⟩ (.int .i64 0)).setCell ⟨q, 7, none⟩ (.int .i64 0)).setCell ⟨q, 8, none⟩ (.int .u32 0)).setCell ⟨q, 9, none⟩ (.string ⟨#[]⟩)) = W9 := ⟨_, rfl⟩
        simp only [hW9]
        rw [show World.setCells w4 q 0 [.int .i64 0, .int .i64 0, .int .i64 0, .int .i64 0, .int .i64 0, .int .i64 0, .int .i64 0, .int .i64 0, .int .u32 0, .string ⟨#[]⟩] = W9 from hW9] at Q1 Q3
        clear hW9
        replace Q1 := hide (Q1.out.below (Below.refl _ W9).drew)
        replace Q3 := hide Q3.out.drew
        have e0 := Q1.out.cell 0 rfl
        have e1 := Q1.out.cell 1 rfl
        have e2 := Q1.out.cell 2 rfl
        have e3 := Q1.out.cell 3 rfl
        have e4 := Q1.out.cell 4 rfl
        have e5 := Q1.out.cell 5 rfl
        have e6 := Q1.out.cell 6 rfl
        have e7 := Q1.out.cell 7 rfl
        have e8 := Q1.out.cell 8 rfl
        have e9 := Q1.out.cell 9 rfl
        refine bodyPost_ret (v := .tuple #[.agg #[.int .i64 0, .int .i64 0, .int .i64 0, .int .i64 0, .int .i64 0, .int .i64 0, .int .i64 0, .int .i64 0, .int .u32 0, .string ⟨#[]⟩], .iface 157 (.pointer (some (E 5)))]) (by simp [results, Tryz.results23, go_sem, e0, e1, e2, e3, e4, e5, e6, e7, e8, e9]) rfl ?_
        exact ⟨by rw [HF.out, HG.out]; rfl, Q3.out⟩
      subst hyn
      have HXK : Hid (XE = chk (rdN L)) := by unfold Hid; rw [HXE.out, if_neg h4, if_neg (fun h => h HG9.out), if_neg h27, if_neg (fun h => h rfl)]
      have HTT : Hid (-9223372036854775808 ≤ (rdN L).total ∧ (rdN L).total ≤ 9223372036854775807 ∧ (rdN L).data.size ≤ 9223372036854775807) := by
        have h1 := cut_lt HLS.out 18 1
        have h2 : (rdN L).total = ((nbe (cut L 18 1) : Nat) : Int) := rfl
        have h3 : (rdN L).data.size ≤ L.length := by
          show (str (cut L 23 (L.length - 23))).size ≤ _
          rw [str_len]
          unfold cut
          rw [List.length_take, List.length_drop]
          omega
        have h4 := HZ.out.2
        have h5 := HS9.out
        have h6 := HZ.out.1
        exact ⟨by omega, by omega, by omega⟩
      have HRD := hide (read_any c _ z L w4 HCU.out (by have := HZ.out.1; omega))
      obtain ⟨N, hN⟩ : ∃ N, rdN L = N := ⟨_, rfl⟩
      rw [hN] at HRD HTT HXK HXN
      clear hN HXE
      obtain ⟨r0, r1, r2, r3, r4, r5, r6, r7, r8, r9⟩ := N
      replace HRD : Hid (Calls Tryz.prog 50 #[.pointer (some ⟨c, 0, none⟩)] w4 fun e w' => e = .returned (.agg #[.int .i64 r0, .int .i64 r1, .int .i64 r2, .int .i64 r3, .int .i64 r4, .int .i64 r5, .int .i64 r6, .int .i64 r7, .int .u32 r8, .string r9]) ∧ Frm (fun k => k = c) w4 w') := HRD
      have d1 : ((y : Int) != (y : Int)) = false := by simp
      have hcl := HCU.out.lt
      go_wp2_with fail
      refine Calls.mono HRD.out ?_
      rintro e w5 ⟨rfl, fr⟩
      replace HB := hide (HB.out.frm fr hqc)
      replace HD : Hid (Below w.heap.size w w5) := HD.out.trans (fr.below (by have := HCW.out; have := HQ0.out; omega) (fun k hk => by have := HCW.out; have := HQ0.out; have : k = c := hk; omega))
      replace HE := hide (HE0.out.below HD.out)
      clear fr HRD hcl HCU
      obtain ⟨W6, hW6, B6, D6⟩ := box1 w5 [.int .i64 r0, .int .i64 r1, .int .i64 r2, .int .i64 r3, .int .i64 r4, .int .i64 r5, .int .i64 r6, .int .i64 r7, .int .u32 r8, .string r9] 33
      obtain ⟨p, hp⟩ : ∃ p, w5.heap.size = p := ⟨_, rfl⟩
      rw [hp] at B6
      have HW6 := hide hW6
      have HP6 := hide hp
      have HB6 := hide B6
      have HPQ : Hid (q ≠ p) := by have := HB.out.lt; unfold Hid; omega
      replace HB := hide (HB.out.below D6)
      replace HD := hide (chain HD.out D6)
      replace HE := hide (HE.out.below D6)
      clear hW6 hp B6 D6
      go_upto_region 11 with fail
      have hW6 := HW6.out
      have hp := HP6.out
      clear HW6 HP6
      simp only [hW6, hp]
      clear hW6 hp
      have HC3 := hide (check_any r0 r1 r2 r3 r4 r5 r6 r7 r8 r9 HE.out.e7 HTT.out.2.2 HTT.out.1 HTT.out.2.1)
      have c0 := HB6.out.cell 0 rfl
      have c1 := HB6.out.cell 1 rfl
      have c2 := HB6.out.cell 2 rfl
      have c3 := HB6.out.cell 3 rfl
      have c4 := HB6.out.cell 4 rfl
      have c5 := HB6.out.cell 5 rfl
      have c6 := HB6.out.cell 6 rfl
      have c7 := HB6.out.cell 7 rfl
      have c8 := HB6.out.cell 8 rfl
      have c9 := HB6.out.cell 9 rfl
      obtain ⟨K, hK0⟩ : ∃ K, chk ⟨r0, r1, r2, r3, r4, r5, r6, r7, r8, r9⟩ = K := ⟨_, rfl⟩
      rw [hK0] at HC3 HXK
      clear hK0
      go_wp2_with fail
      refine Calls.mono HC3.out ?_
      rintro e w7 ⟨rfl, b2⟩
      replace HB := hide (HB.out.below b2)
      replace HB6 := hide (HB6.out.below b2)
      replace HD := hide (chain HD.out b2)
      clear b2 HC3 c0 c1 c2 c3 c4 c5 c6 c7 c8 c9
      by_cases hK : K = 0
      · subst hK
        have HF : Hid (XE = 0) := HXK.out
        have HG : Hid (XN = ⟨r0, r1, r2, r3, r4, r5, r6, r7, r8, r9⟩) := by
          rw [HXN.out, HF.out]
          rfl
        rw [show erv E 0 = .nilIface from rfl]
        go_upto_region 14 with fail
        have c0 := HB6.out.cell 0 rfl
        have c1 := HB6.out.cell 1 rfl
        have c2 := HB6.out.cell 2 rfl
        have c3 := HB6.out.cell 3 rfl
        have c4 := HB6.out.cell 4 rfl
        have c5 := HB6.out.cell 5 rfl
        have c6 := HB6.out.cell 6 rfl
        have c7 := HB6.out.cell 7 rfl
        have c8 := HB6.out.cell 8 rfl
        have c9 := HB6.out.cell 9 rfl
        have g0 := HB.out.cell 0 rfl
        have g1 := HB.out.cell 1 rfl
        have g2 := HB.out.cell 2 rfl
        have g3 := HB.out.cell 3 rfl
        have g4 := HB.out.cell 4 rfl
        have g5 := HB.out.cell 5 rfl
        have g6 := HB.out.cell 6 rfl
        have g7 := HB.out.cell 7 rfl
        have g8 := HB.out.cell 8 rfl
        have g9 := HB.out.cell 9 rfl
        have f0 := HB.out.frozen 0
        have f1 := HB.out.frozen 1
        have f2 := HB.out.frozen 2
        have f3 := HB.out.frozen 3
        have f4 := HB.out.frozen 4
        have f5 := HB.out.frozen 5
        have f6 := HB.out.frozen 6
        have f7 := HB.out.frozen 7
        have f8 := HB.out.frozen 8
        have f9 := HB.out.frozen 9
        have Q1 := hide (HB.out.sets [.int .i64 r0, .int .i64 r1, .int .i64 r2, .int .i64 r3, .int .i64 r4, .int .i64 r5, .int .i64 r6, .int .i64 r7, .int .u32 r8, .string r9] rfl)
        have Q3 := hide (below_sets HQ0.out [.int .i64 r0, .int .i64 r1, .int .i64 r2, .int .i64 r3, .int .i64 r4, .int .i64 r5, .int .i64 r6, .int .i64 r7, .int .u32 r8, .string r9] 0 HD.out)
        go_wp2
        obtain ⟨W9, hW9⟩ : ∃ W9, ((((((((((w7.setCell ⟨q, 0, none⟩ (.int .i64 r0)).setCell ⟨q, 1, none⟩ (.int .i64 r1)).setCell ⟨q, 2, none⟩ (.int .i64 r2)).setCell ⟨q, 3, none⟩ (.int .i64 r3)).setCell ⟨q, 4, none⟩ (.int .i64 r4)).setCell ⟨q, 5, none⟩ (.int .i64 r5)).setCell ⟨q, 6, none⟩ (.int .i64 r6)).setCell ⟨q, 7, none⟩ (.int .i64 r7)).setCell ⟨q, 8, none⟩ (.int .u32 r8)).setCell ⟨q, 9, none⟩ (.string r9)) = W9 := ⟨_, rfl⟩
        simp only [hW9]
        rw [show World.setCells w7 q 0 [.int .i64 r0, .int .i64 r1, .int .i64 r2, .int .i64 r3, .int .i64 r4, .int .i64 r5, .int .i64 r6, .int .i64 r7, .int .u32 r8, .string r9] = W9 from hW9] at Q1 Q3
        clear hW9
        have e0 := Q1.out.cell 0 rfl
        have e1 := Q1.out.cell 1 rfl
        have e2 := Q1.out.cell 2 rfl
        have e3 := Q1.out.cell 3 rfl
        have e4 := Q1.out.cell 4 rfl
        have e5 := Q1.out.cell 5 rfl
        have e6 := Q1.out.cell 6 rfl
        have e7 := Q1.out.cell 7 rfl
        have e8 := Q1.out.cell 8 rfl
        have e9 := Q1.out.cell 9 rfl
        refine bodyPost_ret (v := .tuple #[.agg #[.int .i64 r0, .int .i64 r1, .int .i64 r2, .int .i64 r3, .int .i64 r4, .int .i64 r5, .int .i64 r6, .int .i64 r7, .int .u32 r8, .string r9], .nilIface]) (by simp [results, Tryz.results23, go_sem, e0, e1, e2, e3, e4, e5, e6, e7, e8, e9]) rfl ?_
        exact ⟨by rw [HF.out, HG.out]; rfl, Q3.out⟩
      · rw [show erv E K = sent (E K) from if_neg hK]
        unfold sent
        go_upto_region 13 with fail
        have HF : Hid (XE = K) := by
          unfold Hid
          skip
          exact HXK.out
        have HG : Hid (XN = gNt) := by
          rw [HXN.out, HF.out]
          exact if_neg (by assumption)
        have g0 := HB.out.cell 0 rfl
        have g1 := HB.out.cell 1 rfl
        have g2 := HB.out.cell 2 rfl
        have g3 := HB.out.cell 3 rfl
        have g4 := HB.out.cell 4 rfl
        have g5 := HB.out.cell 5 rfl
        have g6 := HB.out.cell 6 rfl
        have g7 := HB.out.cell 7 rfl
        have g8 := HB.out.cell 8 rfl
        have g9 := HB.out.cell 9 rfl
        have f0 := HB.out.frozen 0
        have f1 := HB.out.frozen 1
        have f2 := HB.out.frozen 2
        have f3 := HB.out.frozen 3
        have f4 := HB.out.frozen 4
        have f5 := HB.out.frozen 5
        have f6 := HB.out.frozen 6
        have f7 := HB.out.frozen 7
        have f8 := HB.out.frozen 8
        have f9 := HB.out.frozen 9
        have Q1 := hide (HB.out.sets [.int .i64 0, .int .i64 0, .int .i64 0, .int .i64 0, .int .i64 0, .int .i64 0, .int .i64 0, .int .i64 0, .int .u32 0, .string ⟨#[]⟩] rfl)
        have Q3 := hide (below_sets HQ0.out [.int .i64 0, .int .i64 0, .int .i64 0, .int .i64 0, .int .i64 0, .int .i64 0, .int .i64 0, .int .i64 0, .int .u32 0, .string ⟨#[]⟩] 0 HD.out)
        go_wp2
        obtain ⟨W9, hW9⟩ : ∃ W9, ((((((((((w7.setCell ⟨q, 0, none⟩ (.int .i64 0)).setCell ⟨q, 1, none⟩ (.int .i64 0)).setCell ⟨q, 2, none⟩ (.int .i64 0)).setCell ⟨q, 3, none⟩ (.int .i64 0)).setCell ⟨q, 4, none⟩ (.int .i64 0)).setCell ⟨q, 5, none⟩ (.int .i64 0)).setCell ⟨q, 6, none⟩ (.int .i64 0)).setCell ⟨q, 7, none⟩ (.int .i64 0)).setCell ⟨q, 8, none⟩ (.int .u32 0)).setCell ⟨q, 9, none⟩ (.string ⟨#[]⟩)) = W9 := ⟨_, rfl⟩
        simp only [hW9]
        rw [show World.setCells w7 q 0 [.int .i64 0, .int .i64 0, .int .i64 0, .int .i64 0, .int .i64 0, .int .i64 0, .int .i64 0, .int .i64 0, .int .u32 0, .string ⟨#[]⟩] = W9 from hW9] at Q1 Q3
        clear hW9
        have e0 := Q1.out.cell 0 rfl
        have e1 := Q1.out.cell 1 rfl
        have e2 := Q1.out.cell 2 rfl
        have e3 := Q1.out.cell 3 rfl
        have e4 := Q1.out.cell 4 rfl
        have e5 := Q1.out.cell 5 rfl
        have e6 := Q1.out.cell 6 rfl
        have e7 := Q1.out.cell 7 rfl
        have e8 := Q1.out.cell 8 rfl
        have e9 := Q1.out.cell 9 rfl
        refine bodyPost_ret (v := .tuple #[.agg #[.int .i64 0, .int .i64 0, .int .i64 0, .int .i64 0, .int .i64 0, .int .i64 0, .int .i64 0, .int .i64 0, .int .u32 0, .string ⟨#[]⟩], .iface 157 (.pointer (some (E K)))]) (by simp [results, Tryz.results23, go_sem, e0, e1, e2, e3, e4, e5, e6, e7, e8, e9]) rfl ?_
        exact ⟨by rw [HF.out, HG.out]; rw [show erv E K = sent (E K) from if_neg hK]; rfl, Q3.out⟩
end Go.Proofs.YtdbciciljeainaaGreatDoor
