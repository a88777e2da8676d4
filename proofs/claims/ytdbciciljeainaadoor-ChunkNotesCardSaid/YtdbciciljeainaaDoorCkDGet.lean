/-
  The document's number and Get.
-/
import Derived.Test.YtdbciciljeainaaDoorCkCode
import Derived.Test.YtdbciciljeainaaDoorCkCu
import Derived.Test.YtdbciciljeainaaDoorCkGet
namespace Go.Proofs.YtdbciciljeainaaDoor
open Go.RowKit FerryCrc
set_option linter.unusedVariables false
set_option linter.unusedSimpArgs false

theorem str_index (s : ByteArray) (i x : Nat) (hx : (bytesOf s)[i]? = some x) (w : World) : (Instr.index 9 (.string s) (.int .i64 (i : Int))).run Tryd.prog w = .ok (.int .u8 (x : Int)) w := by
  have hi : i < s.size := by
    have := (List.getElem?_eq_some_iff.1 hx).1
    rw [bytesOf_len] at this
    exact this
  have hx2 : (s.data[i]'hi).toNat = x := by
    unfold bytesOf at hx
    rw [List.getElem?_map, Array.getElem?_toList, Array.getElem?_eq_getElem hi] at hx
    simpa using hx
  go_simp
  rw [← hx2]
  rfl

set_option maxRecDepth 100000 in
theorem rnum_any (s : ByteArray) (p n : Nat) (w : World) (h : p + n ≤ s.size) (hn : n ≤ 4) (hm : s.size ≤ 140737488351232) :
    Calls Tryd.prog 45 #[.string s, .int .i64 (p : Int), .int .i64 (n : Int)] w fun e w' => e = .returned (.int .i64 ((nbe (cut (bytesOf s) p n) : Nat) : Int)) ∧ w' = w := by
  have HI := hide (str_index s)
  have HM := hide (And.intro h (And.intro hn hm))
  clear h hn hm
  go_enter Tryd.func45, Tryd.ntmps45
  go_wp2
  go_loopw [7, 8] (fun x i wr => ∃ j : Nat, j ≤ n ∧ i = .int .i64 (j : Int) ∧ x = .int .i64 ((nbe (cut (bytesOf s) p j) : Nat) : Int) ∧ wr = w) (fun _ i _ => ((n : Int) - intOf i).toNat)
  case atStart => exact ⟨0, Nat.zero_le _, rfl, by simp [cut, nbe], rfl⟩
  case round =>
    obtain ⟨j, hj, rfl, rfl, hwr⟩ := hrel
    obtain ⟨v, hv⟩ : ∃ v, nbe (cut (bytesOf s) p j) = v := ⟨_, rfl⟩
    rw [hv]
    by_cases hjn : j = n
    · subst hjn
      have HVV := hide hv
      have HWW := hide hwr
      clear hv hwr
      go_wp2
      go_ret
      exact ⟨by rw [HVV.out]; rfl, HWW.out⟩
    · have hlt : j < n := by omega
      obtain ⟨x, hx⟩ : ∃ x, (bytesOf s)[p + j]? = some x := ⟨_, List.getElem?_eq_getElem (by rw [bytesOf_len]; have := HM.out; omega)⟩
      have hx8 : x < 256 := bytesOf_lt s x (List.mem_of_getElem? hx)
      have hvl : v < 256 ^ j := by rw [← hv]; exact cut_lt (bytesOf_lt s) p j
      have hv3 : v < 16777216 := by
        have h1 : 256 ^ j ≤ 256 ^ 3 := Nat.pow_le_pow_right (by decide) (by have := HM.out; omega)
        have h2 : (256 : Nat) ^ 3 = 16777216 := by decide
        omega
      have hnew : nbe (cut (bytesOf s) p (j + 1)) = v * 256 + x := by
        have e : cut (bytesOf s) p (j + 1) = cut (bytesOf s) p j ++ [x] := by
          unfold cut
          rw [List.take_add_one, List.getElem?_drop, hx]
          rfl
        rw [e, nbe_snoc, hv]
      have hidx := HI.out (p + j) x hx
      have w1 : IntKind.i64.wrap ((p : Int) + (j : Int)) = ((p + j : Nat) : Int) := by have := HM.out; rw [IntKind.wrap_i64]; omega
      have w2 : IntKind.i64.wrap (256 * (v : Int)) = 256 * (v : Int) := by rw [IntKind.wrap_i64]; omega
      have w3 : IntKind.i64.wrap (x : Int) = (x : Int) := by rw [IntKind.wrap_i64]; omega
      have w4 : IntKind.i64.wrap (256 * (v : Int) + (x : Int)) = 256 * (v : Int) + (x : Int) := by rw [IntKind.wrap_i64]; omega
      have w5 : IntKind.i64.wrap ((j : Int) + 1) = (j : Int) + 1 := by have := HM.out; rw [IntKind.wrap_i64]; omega
      have hltI : (j : Int) < (n : Int) := by omega
      have HNW := hide hnew
      have HWW := hide hwr
      have HVS := hide (And.intro hv3 (And.intro hx8 hlt))
      obtain ⟨pj, hpj⟩ : ∃ q, p + j = q := ⟨_, rfl⟩
      rw [hpj] at hidx w1
      clear hv hx hvl hv3 hx8 hnew hjn hwr hpj
      go_wp2
      refine ⟨⟨j + 1, by have := HVS.out; omega, by simp, ?_, HWW.out⟩, by have := HVS.out; simp [intOf]; omega⟩
      rw [HNW.out]
      congr 1
      omega
theorem cut_one {L : List Nat} {p x : Nat} (h : L[p]? = some x) : nbe (cut L p 1) = x := by
  unfold cut
  rw [List.take_add_one, List.take_zero, List.getElem?_drop, Nat.add_zero, h]
  simp [nbe]
theorem str_slice (s : ByteArray) (a z : Nat) : s.extract a z = str (((bytesOf s).drop a).take (z - a)) := by
  apply ByteArray.ext
  rw [ByteArray.data_extract]
  rw [← Array.toList_inj]
  simp only [str, bytesOf, List.map_take, List.map_drop, List.map_map]
  simp [Function.comp_def]

set_option maxRecDepth 100000 in
set_option maxHeartbeats 4000000 in
theorem rget_any (s : ByteArray) {w : World} (hm : s.size ≤ 140737488351232) :
    Calls Tryd.prog 14 #[.string s] w fun e w' => e = .returned (.tuple #[.agg (getN (bytesOf s)).cells.toArray, .int .i64 (getE (bytesOf s) : Int)]) ∧ Below w.heap.size w w' := by
  obtain ⟨XE, hXE⟩ : ∃ x, getE (bytesOf s) = x := ⟨_, rfl⟩
  obtain ⟨XN, hXN⟩ : ∃ x, getN (bytesOf s) = x := ⟨_, rfl⟩
  rw [hXE, hXN]
  obtain ⟨l, hl⟩ : ∃ l, bytesOf s = l := ⟨_, rfl⟩
  obtain ⟨n, hn⟩ : ∃ n, s.size = n := ⟨_, rfl⟩
  have hln : l.length = n := by rw [← hl, bytesOf_len, hn]
  have HXN : Hid (XN = if XE = 0 then rdN (l.take (n - 4)) else gNt) := by rw [← hXN, ← hXE]; unfold Hid getN; rw [hl, hln]
  have HXE : Hid (XE = if n < 4 then 1 else if ¬ sumOf (l.take (n - 4)) = num4 (l.drop (n - 4)) then 6 else if n < 27 then 1 else if nbe (cut l 0 2) ≠ n then 5 else chk (rdN (l.take (n - 4)))) := by rw [← hXE]; unfold Hid getE; rw [hl, hln]
  have HLN := hide hln
  have HS9 : Hid (n ≤ 140737488351232) := by unfold Hid; omega
  have HSM : Hid (∀ c ∈ l, c < 256) := by rw [← hl]; exact bytesOf_lt s
  have HLS := hide hl
  clear hXE hXN
  obtain ⟨W, hW, B0, D0⟩ := box1 w [.int .i64 0, .int .i64 0, .int .i64 0, .int .i64 0, .int .i64 0, .int .i64 0, .int .i64 0, .int .i64 0, .int .u32 0, .string ⟨#[]⟩] 26
  obtain ⟨c1, w1, hrun, hs1, b1⟩ := conv_lay W s n hn (hn ▸ hm)
  rw [hl] at hs1
  obtain ⟨q, hq⟩ : ∃ q, w.heap.size = q := ⟨_, rfl⟩
  have HQ0 : Hid (w.heap.size ≤ q) := by unfold Hid; omega
  rw [hq] at B0
  have HB := hide (B0.below b1)
  have HD := hide (chain D0 b1)
  have HS := hide hs1
  have HWD := hide hW
  have HQQ := hide hq
  have HRU := hide hrun
  have HNN := hide hn
  clear hs1 b1 D0 B0 hW hm hrun hq hl hln hn
  go_enter Tryd.func14, Tryd.ntmps14
  go_upto_region 1 with fail
  have hW := HWD.out
  have hq := HQQ.out
  clear HWD HQQ
  simp only [hW, hq]
  clear hW hq
  have hrun := HRU.out
  have hn := HNN.out
  clear HRU
  by_cases h4 : n < 4
  · have HC := hide (refOpen_short (some ⟨W.heap.size, 0, none⟩) n c1 w1 h4)
    go_wp2_with fail
    refine Calls.mono HC.out ?_
    rintro e w2 ⟨rfl, rfl⟩
    clear HC hrun
    go_upto_region 3 with fail
    have HF : Hid (XE = 1) := by
      unfold Hid
      rw [HXE.out]
      rw [if_pos h4]
    have HG : Hid (XN = gNt) := by
      rw [HXN.out, HF.out]
      exact if_neg (by decide)
    have g0 := HB.out.cell 0 rfl
    have g1 := HB.out.cell 1 rfl
    have g2 := HB.out.cell 2 rfl
    have g3 := HB.out.cell 3 rfl
    have g4 := HB.out.cell 4 rfl
    have g5 := HB.out.cell 5 rfl
    have g6 := HB.out.cell 6 rfl
    have g7 := HB.out.cell 7 rfl
    have g8 := HB.out.cell 8 rfl
    have g9 := HB.out.cell 9 rfl
    have f0 := HB.out.frozen 0
    have f1 := HB.out.frozen 1
    have f2 := HB.out.frozen 2
    have f3 := HB.out.frozen 3
    have f4 := HB.out.frozen 4
    have f5 := HB.out.frozen 5
    have f6 := HB.out.frozen 6
    have f7 := HB.out.frozen 7
    have f8 := HB.out.frozen 8
    have f9 := HB.out.frozen 9
    have Q1 := hide (HB.out.sets [.int .i64 0, .int .i64 0, .int .i64 0, .int .i64 0, .int .i64 0, .int .i64 0, .int .i64 0, .int .i64 0, .int .u32 0, .string ⟨#[]⟩] rfl)
    have Q3 := hide (below_sets HQ0.out [.int .i64 0, .int .i64 0, .int .i64 0, .int .i64 0, .int .i64 0, .int .i64 0, .int .i64 0, .int .i64 0, .int .u32 0, .string ⟨#[]⟩] 0 HD.out)
    go_wp2
    obtain ⟨W9, hW9⟩ : ∃ W9, ((((((((((w1.setCell ⟨q, 0, none⟩ (.int .i64 0)).setCell ⟨q, 1, none⟩ (.int .i64 0)).setCell ⟨q, 2, none⟩ (.int .i64 0)).setCell ⟨q, 3, none⟩ (.int .i64 0)).setCell ⟨q, 4, none⟩ (.int .i64 0)).setCell ⟨q, 5, none⟩ (.int .i64 0)).setCell ⟨q, 6, none⟩ (.int .i64 0)).setCell ⟨q, 7, none⟩ (.int .i64 0)).setCell ⟨q, 8, none⟩ (.int .u32 0)).setCell ⟨q, 9, none⟩ (.string ⟨#[]⟩)) = W9 := ⟨_, rfl⟩
    simp only [hW9]
    rw [show World.setCells w1 q 0 [.int .i64 0, .int .i64 0, .int .i64 0, .int .i64 0, .int .i64 0, .int .i64 0, .int .i64 0, .int .i64 0, .int .u32 0, .string ⟨#[]⟩] = W9 from hW9] at Q1 Q3
    clear hW9
    have e0 := Q1.out.cell 0 rfl
    have e1 := Q1.out.cell 1 rfl
    have e2 := Q1.out.cell 2 rfl
    have e3 := Q1.out.cell 3 rfl
    have e4 := Q1.out.cell 4 rfl
    have e5 := Q1.out.cell 5 rfl
    have e6 := Q1.out.cell 6 rfl
    have e7 := Q1.out.cell 7 rfl
    have e8 := Q1.out.cell 8 rfl
    have e9 := Q1.out.cell 9 rfl
    refine bodyPost_ret (v := .tuple #[.agg #[.int .i64 0, .int .i64 0, .int .i64 0, .int .i64 0, .int .i64 0, .int .i64 0, .int .i64 0, .int .i64 0, .int .u32 0, .string ⟨#[]⟩], .int .i64 1]) (by simp [results, Tryd.results14, go_sem, e0, e1, e2, e3, e4, e5, e6, e7, e8, e9]) rfl ?_
    exact ⟨by rw [HF.out, HG.out]; rfl, Q3.out⟩
  · have HC := hide (refOpen_any _ n c1 l w1 HS.out (by omega))
    go_wp2_with fail
    refine Calls.mono HC.out ?_
    rintro e w2 ⟨b2, hg⟩
    replace HB := hide (HB.out.below b2)
    replace HD := hide (chain HD.out b2)
    clear b2 HC hrun HS
    rcases hg with ⟨hg, g, cc, rfl, ho⟩ | ⟨hg, rfl⟩
    rotate_left
    · have HG9 : Hid (¬ sumOf (l.take (n - 4)) = num4 (l.drop (n - 4))) := by
        unfold Good at hg
        rw [HLN.out] at hg
        exact hg
      clear hg
      go_upto_region 3 with fail
      have HF : Hid (XE = 6) := by
        unfold Hid
        rw [HXE.out]
        rw [if_neg h4, if_pos HG9.out]
      have HG : Hid (XN = gNt) := by
        rw [HXN.out, HF.out]
        exact if_neg (by decide)
      have g0 := HB.out.cell 0 rfl
      have g1 := HB.out.cell 1 rfl
      have g2 := HB.out.cell 2 rfl
      have g3 := HB.out.cell 3 rfl
      have g4 := HB.out.cell 4 rfl
      have g5 := HB.out.cell 5 rfl
      have g6 := HB.out.cell 6 rfl
      have g7 := HB.out.cell 7 rfl
      have g8 := HB.out.cell 8 rfl
      have g9 := HB.out.cell 9 rfl
      have f0 := HB.out.frozen 0
      have f1 := HB.out.frozen 1
      have f2 := HB.out.frozen 2
      have f3 := HB.out.frozen 3
      have f4 := HB.out.frozen 4
      have f5 := HB.out.frozen 5
      have f6 := HB.out.frozen 6
      have f7 := HB.out.frozen 7
      have f8 := HB.out.frozen 8
      have f9 := HB.out.frozen 9
      have Q1 := hide (HB.out.sets [.int .i64 0, .int .i64 0, .int .i64 0, .int .i64 0, .int .i64 0, .int .i64 0, .int .i64 0, .int .i64 0, .int .u32 0, .string ⟨#[]⟩] rfl)
      have Q3 := hide (below_sets HQ0.out [.int .i64 0, .int .i64 0, .int .i64 0, .int .i64 0, .int .i64 0, .int .i64 0, .int .i64 0, .int .i64 0, .int .u32 0, .string ⟨#[]⟩] 0 HD.out)
      go_wp2
      obtain ⟨W9, hW9⟩ : ∃ W9, ((((((((((w2.setCell ⟨q, 0, none⟩ (.int .i64 0)).setCell ⟨q, 1, none⟩ (.int .i64 0)).setCell ⟨q, 2, none⟩ (.int .i64 0)).setCell ⟨q, 3, none⟩ (.int .i64 0)).setCell ⟨q, 4, none⟩ (.int .i64 0)).setCell ⟨q, 5, none⟩ (.int .i64 0)).setCell ⟨q, 6, none⟩ (.int .i64 0)).setCell ⟨q, 7, none⟩ (.int .i64 0)).setCell ⟨q, 8, none⟩ (.int .u32 0)).setCell ⟨q, 9, none⟩ (.string ⟨#[]⟩)) = W9 := ⟨_, rfl⟩
      simp only [hW9]
      rw [show World.setCells w2 q 0 [.int .i64 0, .int .i64 0, .int .i64 0, .int .i64 0, .int .i64 0, .int .i64 0, .int .i64 0, .int .i64 0, .int .u32 0, .string ⟨#[]⟩] = W9 from hW9] at Q1 Q3
      clear hW9
      have e0 := Q1.out.cell 0 rfl
      have e1 := Q1.out.cell 1 rfl
      have e2 := Q1.out.cell 2 rfl
      have e3 := Q1.out.cell 3 rfl
      have e4 := Q1.out.cell 4 rfl
      have e5 := Q1.out.cell 5 rfl
      have e6 := Q1.out.cell 6 rfl
      have e7 := Q1.out.cell 7 rfl
      have e8 := Q1.out.cell 8 rfl
      have e9 := Q1.out.cell 9 rfl
      refine bodyPost_ret (v := .tuple #[.agg #[.int .i64 0, .int .i64 0, .int .i64 0, .int .i64 0, .int .i64 0, .int .i64 0, .int .i64 0, .int .i64 0, .int .u32 0, .string ⟨#[]⟩], .int .i64 6]) (by simp [results, Tryd.results14, go_sem, e0, e1, e2, e3, e4, e5, e6, e7, e8, e9]) rfl ?_
      exact ⟨by rw [HF.out, HG.out]; rfl, Q3.out⟩
    have HG9 : Hid (sumOf (l.take (n - 4)) = num4 (l.drop (n - 4))) := by
      unfold Good at hg
      rw [HLN.out] at hg
      exact hg
    clear hg ho
    by_cases h27 : n < 27
    · have i27 : (n : Int) < 27 := by omega
      go_upto_region 5 with fail
      have HF : Hid (XE = 1) := by
        unfold Hid
        rw [HXE.out]
        rw [if_neg h4, if_neg (fun h => h HG9.out), if_pos h27]
      have HG : Hid (XN = gNt) := by
        rw [HXN.out, HF.out]
        exact if_neg (by decide)
      have g0 := HB.out.cell 0 rfl
      have g1 := HB.out.cell 1 rfl
      have g2 := HB.out.cell 2 rfl
      have g3 := HB.out.cell 3 rfl
      have g4 := HB.out.cell 4 rfl
      have g5 := HB.out.cell 5 rfl
      have g6 := HB.out.cell 6 rfl
      have g7 := HB.out.cell 7 rfl
      have g8 := HB.out.cell 8 rfl
      have g9 := HB.out.cell 9 rfl
      have f0 := HB.out.frozen 0
      have f1 := HB.out.frozen 1
      have f2 := HB.out.frozen 2
      have f3 := HB.out.frozen 3
      have f4 := HB.out.frozen 4
      have f5 := HB.out.frozen 5
      have f6 := HB.out.frozen 6
      have f7 := HB.out.frozen 7
      have f8 := HB.out.frozen 8
      have f9 := HB.out.frozen 9
      have Q1 := hide (HB.out.sets [.int .i64 0, .int .i64 0, .int .i64 0, .int .i64 0, .int .i64 0, .int .i64 0, .int .i64 0, .int .i64 0, .int .u32 0, .string ⟨#[]⟩] rfl)
      have Q3 := hide (below_sets HQ0.out [.int .i64 0, .int .i64 0, .int .i64 0, .int .i64 0, .int .i64 0, .int .i64 0, .int .i64 0, .int .i64 0, .int .u32 0, .string ⟨#[]⟩] 0 HD.out)
      go_wp2
      obtain ⟨W9, hW9⟩ : ∃ W9, ((((((((((w2.setCell ⟨q, 0, none⟩ (.int .i64 0)).setCell ⟨q, 1, none⟩ (.int .i64 0)).setCell ⟨q, 2, none⟩ (.int .i64 0)).setCell ⟨q, 3, none⟩ (.int .i64 0)).setCell ⟨q, 4, none⟩ (.int .i64 0)).setCell ⟨q, 5, none⟩ (.int .i64 0)).setCell ⟨q, 6, none⟩ (.int .i64 0)).setCell ⟨q, 7, none⟩ (.int .i64 0)).setCell ⟨q, 8, none⟩ (.int .u32 0)).setCell ⟨q, 9, none⟩ (.string ⟨#[]⟩)) = W9 := ⟨_, rfl⟩
      simp only [hW9]
      rw [show World.setCells w2 q 0 [.int .i64 0, .int .i64 0, .int .i64 0, .int .i64 0, .int .i64 0, .int .i64 0, .int .i64 0, .int .i64 0, .int .u32 0, .string ⟨#[]⟩] = W9 from hW9] at Q1 Q3
      clear hW9
      have e0 := Q1.out.cell 0 rfl
      have e1 := Q1.out.cell 1 rfl
      have e2 := Q1.out.cell 2 rfl
      have e3 := Q1.out.cell 3 rfl
      have e4 := Q1.out.cell 4 rfl
      have e5 := Q1.out.cell 5 rfl
      have e6 := Q1.out.cell 6 rfl
      have e7 := Q1.out.cell 7 rfl
      have e8 := Q1.out.cell 8 rfl
      have e9 := Q1.out.cell 9 rfl
      refine bodyPost_ret (v := .tuple #[.agg #[.int .i64 0, .int .i64 0, .int .i64 0, .int .i64 0, .int .i64 0, .int .i64 0, .int .i64 0, .int .i64 0, .int .u32 0, .string ⟨#[]⟩], .int .i64 1]) (by simp [results, Tryd.results14, go_sem, e0, e1, e2, e3, e4, e5, e6, e7, e8, e9]) rfl ?_
      exact ⟨by rw [HF.out, HG.out]; rfl, Q3.out⟩
    · have i27 : ¬ (n : Int) < 27 := by omega
      obtain ⟨y, hy⟩ : ∃ y, nbe (cut l 0 2) = y := ⟨_, rfl⟩
      have HC : Hid (Calls Tryd.prog 45 #[.string s, .int .i64 0, .int .i64 2] w2 fun e w' => e = .returned (.int .i64 ((nbe (cut (bytesOf s) 0 2) : Nat) : Int)) ∧ w' = w2) := rnum_any s 0 2 w2 (by omega) (by decide) (by have := HS9.out; omega)
      rw [HLS.out, hy] at HC
      rw [hy] at HXE
      clear hy
      go_wp2_with fail
      refine Calls.mono HC.out ?_
      rintro e w3 ⟨rfl, rfl⟩
      clear HC
      by_cases hyn : y = n
      rotate_left
      · have d1 : ((y : Int) != (n : Int)) = true := by simp; omega
        have d2 : (y != n) = true := by simp; omega
        go_upto_region 7 with fail
        have HF : Hid (XE = 5) := by
          unfold Hid
          rw [HXE.out]
          rw [if_neg h4, if_neg (fun h => h HG9.out), if_neg h27, if_pos hyn]
        have HG : Hid (XN = gNt) := by
          rw [HXN.out, HF.out]
          exact if_neg (by decide)
        have g0 := HB.out.cell 0 rfl
        have g1 := HB.out.cell 1 rfl
        have g2 := HB.out.cell 2 rfl
        have g3 := HB.out.cell 3 rfl
        have g4 := HB.out.cell 4 rfl
        have g5 := HB.out.cell 5 rfl
        have g6 := HB.out.cell 6 rfl
        have g7 := HB.out.cell 7 rfl
        have g8 := HB.out.cell 8 rfl
        have g9 := HB.out.cell 9 rfl
        have f0 := HB.out.frozen 0
        have f1 := HB.out.frozen 1
        have f2 := HB.out.frozen 2
        have f3 := HB.out.frozen 3
        have f4 := HB.out.frozen 4
        have f5 := HB.out.frozen 5
        have f6 := HB.out.frozen 6
        have f7 := HB.out.frozen 7
        have f8 := HB.out.frozen 8
        have f9 := HB.out.frozen 9
        have Q1 := hide (HB.out.sets [.int .i64 0, .int .i64 0, .int .i64 0, .int .i64 0, .int .i64 0, .int .i64 0, .int .i64 0, .int .i64 0, .int .u32 0, .string ⟨#[]⟩] rfl)
        have Q3 := hide (below_sets HQ0.out [.int .i64 0, .int .i64 0, .int .i64 0, .int .i64 0, .int .i64 0, .int .i64 0, .int .i64 0, .int .i64 0, .int .u32 0, .string ⟨#[]⟩] 0 HD.out)
        go_wp2
        obtain ⟨W9, hW9⟩ : ∃ W9, ((((((((((w3.setCell ⟨q, 0, none⟩ (.int .i64 0)).setCell ⟨q, 1, none⟩ (.int .i64 0)).setCell ⟨q, 2, none⟩ (.int .i64 0)).setCell ⟨q, 3, none⟩ (.int .i64 0)).setCell ⟨q, 4, none⟩ (.int .i64 0)).setCell ⟨q, 5, none⟩ (.int .i64 0)).setCell ⟨q, 6, none⟩ (.int .i64 0)).setCell ⟨q, 7, none⟩ (.int .i64 0)).setCell ⟨q, 8, none⟩ (.int .u32 0)).setCell ⟨q, 9, none⟩ (.string ⟨#[]⟩)) = W9 := ⟨_, rfl⟩
        simp only [hW9]
        rw [show World.setCells w3 q 0 [.int .i64 0, .int .i64 0, .int .i64 0, .int .i64 0, .int .i64 0, .int .i64 0, .int .i64 0, .int .i64 0, .int .u32 0, .string ⟨#[]⟩] = W9 from hW9] at Q1 Q3
        clear hW9
        have e0 := Q1.out.cell 0 rfl
        have e1 := Q1.out.cell 1 rfl
        have e2 := Q1.out.cell 2 rfl
        have e3 := Q1.out.cell 3 rfl
        have e4 := Q1.out.cell 4 rfl
        have e5 := Q1.out.cell 5 rfl
        have e6 := Q1.out.cell 6 rfl
        have e7 := Q1.out.cell 7 rfl
        have e8 := Q1.out.cell 8 rfl
        have e9 := Q1.out.cell 9 rfl
        refine bodyPost_ret (v := .tuple #[.agg #[.int .i64 0, .int .i64 0, .int .i64 0, .int .i64 0, .int .i64 0, .int .i64 0, .int .i64 0, .int .i64 0, .int .u32 0, .string ⟨#[]⟩], .int .i64 5]) (by simp [results, Tryd.results14, go_sem, e0, e1, e2, e3, e4, e5, e6, e7, e8, e9]) rfl ?_
        exact ⟨by rw [HF.out, HG.out]; rfl, Q3.out⟩
      subst hyn
      have HXK : Hid (XE = chk (rdN (l.take (y - 4)))) := by unfold Hid; rw [HXE.out, if_neg h4, if_neg (fun h => h HG9.out), if_neg h27, if_neg (fun h => h rfl)]
      obtain ⟨x2, hx2⟩ : ∃ x, l[2]? = some x := ⟨_, List.getElem?_eq_getElem (by rw [HLN.out]; omega)⟩
      have i2 : ∀ w, (Instr.index 9 (.string s) (.int .i64 2)).run Tryd.prog w = .ok (.int .u8 (x2 : Int)) w := str_index s 2 x2 (by rw [HLS.out]; exact hx2)
      have v2 : IntKind.i64.wrap (x2 : Int) = (x2 : Int) := by have := HSM.out x2 (List.mem_of_getElem? hx2); rw [IntKind.wrap_i64]; omega
      obtain ⟨x3, hx3⟩ : ∃ x, l[3]? = some x := ⟨_, List.getElem?_eq_getElem (by rw [HLN.out]; omega)⟩
      have i3 : ∀ w, (Instr.index 9 (.string s) (.int .i64 3)).run Tryd.prog w = .ok (.int .u8 (x3 : Int)) w := str_index s 3 x3 (by rw [HLS.out]; exact hx3)
      have v3 : IntKind.i64.wrap (x3 : Int) = (x3 : Int) := by have := HSM.out x3 (List.mem_of_getElem? hx3); rw [IntKind.wrap_i64]; omega
      obtain ⟨x16, hx16⟩ : ∃ x, l[16]? = some x := ⟨_, List.getElem?_eq_getElem (by rw [HLN.out]; omega)⟩
      have i16 : ∀ w, (Instr.index 9 (.string s) (.int .i64 16)).run Tryd.prog w = .ok (.int .u8 (x16 : Int)) w := str_index s 16 x16 (by rw [HLS.out]; exact hx16)
      have v16 : IntKind.i64.wrap (x16 : Int) = (x16 : Int) := by have := HSM.out x16 (List.mem_of_getElem? hx16); rw [IntKind.wrap_i64]; omega
      obtain ⟨x17, hx17⟩ : ∃ x, l[17]? = some x := ⟨_, List.getElem?_eq_getElem (by rw [HLN.out]; omega)⟩
      have i17 : ∀ w, (Instr.index 9 (.string s) (.int .i64 17)).run Tryd.prog w = .ok (.int .u8 (x17 : Int)) w := str_index s 17 x17 (by rw [HLS.out]; exact hx17)
      have v17 : IntKind.i64.wrap (x17 : Int) = (x17 : Int) := by have := HSM.out x17 (List.mem_of_getElem? hx17); rw [IntKind.wrap_i64]; omega
      obtain ⟨x18, hx18⟩ : ∃ x, l[18]? = some x := ⟨_, List.getElem?_eq_getElem (by rw [HLN.out]; omega)⟩
      have i18 : ∀ w, (Instr.index 9 (.string s) (.int .i64 18)).run Tryd.prog w = .ok (.int .u8 (x18 : Int)) w := str_index s 18 x18 (by rw [HLS.out]; exact hx18)
      have v18 : IntKind.i64.wrap (x18 : Int) = (x18 : Int) := by have := HSM.out x18 (List.mem_of_getElem? hx18); rw [IntKind.wrap_i64]; omega
      obtain ⟨z, hz⟩ : ∃ z, y - 4 = z := ⟨_, rfl⟩
      have hz23 : 23 ≤ z := by omega
      have hzy : z ≤ y := by omega
      have hz23i : (23 : Int) ≤ (z : Int) := by omega
      have hzyi : (z : Int) ≤ (y : Int) := by omega
      have w4 : IntKind.i64.wrap ((y : Int) - 4) = (z : Int) := by have := HS9.out; rw [IntKind.wrap_i64]; omega
      obtain ⟨u, hu⟩ : ∃ u, nbe (cut l 19 4) = u := ⟨_, rfl⟩
      have hu4 : u < 256 ^ 4 := by rw [← hu]; exact cut_lt HSM.out 19 4
      have wu : IntKind.u32.wrap (u : Int) = (u : Int) := by rw [IntKind.wrap_u32]; omega
      have HC19 : Hid (∀ wx, Calls Tryd.prog 45 #[.string s, .int .i64 19, .int .i64 4] wx fun e w' => e = .returned (.int .i64 ((nbe (cut (bytesOf s) 19 4) : Nat) : Int)) ∧ w' = wx) := fun wx => rnum_any s 19 4 wx (by omega) (by decide) (by have := HS9.out; omega)
      rw [HLS.out, hu] at HC19
      have HRD : Hid (rdN (l.take (y - 4)) = ⟨(x2 : Int), (x3 : Int), (nbe (cut l 4 4) : Nat), (nbe (cut l 8 4) : Nat), (nbe (cut l 12 4) : Nat), (x16 : Int), (x17 : Int), (x18 : Int), (u : Int), s.extract 23 z⟩) := by
        unfold Hid rdN
        have hL : (l.take (y - 4)).length = z := by rw [List.length_take, HLN.out]; omega
        rw [hL, cut_take _ _ _ _ (by omega), cut_take _ _ _ _ (by omega), cut_take _ _ _ _ (by omega), cut_take _ _ _ _ (by omega), cut_take _ _ _ _ (by omega), cut_take _ _ _ _ (by omega), cut_take _ _ _ _ (by omega), cut_take _ _ _ _ (by omega), cut_take _ _ _ _ (by omega), cut_take _ _ _ _ (by omega), cut_one hx2, cut_one hx3, cut_one hx16, cut_one hx17, cut_one hx18, hu]
        have e : str (cut l 23 (z - 23)) = s.extract 23 z := by rw [str_slice, HLS.out]; rfl
        rw [e]
      rw [HRD.out] at HXK HXN
      have HX18 : Hid (x18 < 256) := HSM.out x18 (List.mem_of_getElem? hx18)
      have HZY := hide (And.intro hz (And.intro hz23 hzy))
      have HU4 := hide hu4
      clear hx2 hx3 hx16 hx17 hx18 hz hu hu4 HRD HXE
      have d1 : ((y : Int) != (y : Int)) = false := by simp
      go_upto_region 8 with fail
      go_cut [6] from 27 to 51 (fun v wz => ∃ h : Nat, v = .pointer (some ⟨h, 0, none⟩) ∧ Hid (h ≠ q ∧ w.heap.size ≤ h) ∧ Hid (Bk wz h [.int .i64 (x2 : Int), .int .i64 (x3 : Int), .int .i64 0, .int .i64 0, .int .i64 0, .int .i64 (x16 : Int), .int .i64 (x17 : Int), .int .i64 (x18 : Int), .int .u32 (u : Int), .string (s.extract 23 z)] 26) ∧ Hid (Bk wz q [.int .i64 0, .int .i64 0, .int .i64 0, .int .i64 0, .int .i64 0, .int .i64 0, .int .i64 0, .int .i64 0, .int .u32 0, .string ⟨#[]⟩] 26) ∧ Hid (Below w.heap.size w wz))
      case first =>
        refine wp_region_held_drew (S := fun _ => True) (by kernel_rfl) trivial (fun hHeld => ?_)
        have HBd := hide (HB.out.below (Below.refl _ w3).drew)
        have HDd := hide HD.out.drew
        obtain ⟨wd, hwd⟩ : ∃ z, z = w3.drew := ⟨_, rfl⟩
        rw [← hwd] at HBd HDd ⊢
        clear hwd
        refine wpAnyH_take (i := 0) (oi := { dst := some 27, op := Go.Op.move (Go.Operand.tmp 0), type := 9, pos := "ref.go:134", after := #[], guard := none }) (v := ?_) rfl (by kernel_rfl) (by kernel_rfl) (by kernel_rfl) (fun _ _ _ h => h) (Or.inl ⟨by rfl, ?_⟩) (by assumption) ?_
        rotate_left
        · intro w hSw
          go_simp
          try with_reducible rfl
        simp only [Act.put, List.setIfInBounds_toArray, List.set_cons_zero, List.set_cons_succ]
        refine wpAnyH_take (i := 1) (oi := { dst := some 28, op := Go.Op.index 9 (Go.Operand.tmp 27) (Go.Operand.const (Go.Value.int Go.IntKind.i64 2)), type := 5, pos := "ref.go:134", after := #[{ on := 0, ground := Go.Ground.data }], guard := none }) (v := ?_) rfl (by kernel_rfl) (by kernel_rfl) (by kernel_rfl) (fun _ _ _ h => h) (Or.inl ⟨by rfl, ?_⟩) (by assumption) ?_
        rotate_left
        · intro w hSw
          go_simp
          try with_reducible rfl
        simp only [Act.put, List.setIfInBounds_toArray, List.set_cons_zero, List.set_cons_succ]
        refine wpAnyH_take (i := 2) (oi := { dst := some 29, op := Go.Op.convert 5 3 (Go.Operand.tmp 28), type := 3, pos := "ref.go:134", after := #[{ on := 1, ground := Go.Ground.data }], guard := none }) (v := ?_) rfl (by kernel_rfl) (by kernel_rfl) (by kernel_rfl) (fun _ _ _ h => h) (Or.inl ⟨by rfl, ?_⟩) (by assumption) ?_
        rotate_left
        · intro w hSw
          go_simp
          try with_reducible rfl
        simp only [Act.put, List.setIfInBounds_toArray, List.set_cons_zero, List.set_cons_succ]
        refine wpAnyH_take (i := 3) (oi := { dst := some 30, op := Go.Op.move (Go.Operand.tmp 0), type := 9, pos := "ref.go:134", after := #[], guard := none }) (v := ?_) rfl (by kernel_rfl) (by kernel_rfl) (by kernel_rfl) (fun _ _ _ h => h) (Or.inl ⟨by rfl, ?_⟩) (by assumption) ?_
        rotate_left
        · intro w hSw
          go_simp
          try with_reducible rfl
        simp only [Act.put, List.setIfInBounds_toArray, List.set_cons_zero, List.set_cons_succ]
        refine wpAnyH_take (i := 4) (oi := { dst := some 31, op := Go.Op.index 9 (Go.Operand.tmp 30) (Go.Operand.const (Go.Value.int Go.IntKind.i64 3)), type := 5, pos := "ref.go:134", after := #[{ on := 3, ground := Go.Ground.data }], guard := none }) (v := ?_) rfl (by kernel_rfl) (by kernel_rfl) (by kernel_rfl) (fun _ _ _ h => h) (Or.inl ⟨by rfl, ?_⟩) (by assumption) ?_
        rotate_left
        · intro w hSw
          go_simp
          try with_reducible rfl
        simp only [Act.put, List.setIfInBounds_toArray, List.set_cons_zero, List.set_cons_succ]
        refine wpAnyH_take (i := 5) (oi := { dst := some 32, op := Go.Op.convert 5 3 (Go.Operand.tmp 31), type := 3, pos := "ref.go:134", after := #[{ on := 4, ground := Go.Ground.data }], guard := none }) (v := ?_) rfl (by kernel_rfl) (by kernel_rfl) (by kernel_rfl) (fun _ _ _ h => h) (Or.inl ⟨by rfl, ?_⟩) (by assumption) ?_
        rotate_left
        · intro w hSw
          go_simp
          try with_reducible rfl
        simp only [Act.put, List.setIfInBounds_toArray, List.set_cons_zero, List.set_cons_succ]
        refine wpAnyH_take (i := 6) (oi := { dst := some 33, op := Go.Op.move (Go.Operand.tmp 0), type := 9, pos := "ref.go:134", after := #[], guard := none }) (v := ?_) rfl (by kernel_rfl) (by kernel_rfl) (by kernel_rfl) (fun _ _ _ h => h) (Or.inl ⟨by rfl, ?_⟩) (by assumption) ?_
        rotate_left
        · intro w hSw
          go_simp
          try with_reducible rfl
        simp only [Act.put, List.setIfInBounds_toArray, List.set_cons_zero, List.set_cons_succ]
        refine wpAnyH_take (i := 7) (oi := { dst := some 34, op := Go.Op.index 9 (Go.Operand.tmp 33) (Go.Operand.const (Go.Value.int Go.IntKind.i64 16)), type := 5, pos := "ref.go:134", after := #[{ on := 6, ground := Go.Ground.data }], guard := none }) (v := ?_) rfl (by kernel_rfl) (by kernel_rfl) (by kernel_rfl) (fun _ _ _ h => h) (Or.inl ⟨by rfl, ?_⟩) (by assumption) ?_
        rotate_left
        · intro w hSw
          go_simp
          try with_reducible rfl
        simp only [Act.put, List.setIfInBounds_toArray, List.set_cons_zero, List.set_cons_succ]
        refine wpAnyH_take (i := 8) (oi := { dst := some 35, op := Go.Op.convert 5 3 (Go.Operand.tmp 34), type := 3, pos := "ref.go:134", after := #[{ on := 7, ground := Go.Ground.data }], guard := none }) (v := ?_) rfl (by kernel_rfl) (by kernel_rfl) (by kernel_rfl) (fun _ _ _ h => h) (Or.inl ⟨by rfl, ?_⟩) (by assumption) ?_
        rotate_left
        · intro w hSw
          go_simp
          try with_reducible rfl
        simp only [Act.put, List.setIfInBounds_toArray, List.set_cons_zero, List.set_cons_succ]
        refine wpAnyH_take (i := 9) (oi := { dst := some 36, op := Go.Op.move (Go.Operand.tmp 0), type := 9, pos := "ref.go:134", after := #[], guard := none }) (v := ?_) rfl (by kernel_rfl) (by kernel_rfl) (by kernel_rfl) (fun _ _ _ h => h) (Or.inl ⟨by rfl, ?_⟩) (by assumption) ?_
        rotate_left
        · intro w hSw
          go_simp
          try with_reducible rfl
        simp only [Act.put, List.setIfInBounds_toArray, List.set_cons_zero, List.set_cons_succ]
        refine wpAnyH_take (i := 10) (oi := { dst := some 37, op := Go.Op.index 9 (Go.Operand.tmp 36) (Go.Operand.const (Go.Value.int Go.IntKind.i64 17)), type := 5, pos := "ref.go:134", after := #[{ on := 9, ground := Go.Ground.data }], guard := none }) (v := ?_) rfl (by kernel_rfl) (by kernel_rfl) (by kernel_rfl) (fun _ _ _ h => h) (Or.inl ⟨by rfl, ?_⟩) (by assumption) ?_
        rotate_left
        · intro w hSw
          go_simp
          try with_reducible rfl
        simp only [Act.put, List.setIfInBounds_toArray, List.set_cons_zero, List.set_cons_succ]
        refine wpAnyH_take (i := 11) (oi := { dst := some 38, op := Go.Op.convert 5 3 (Go.Operand.tmp 37), type := 3, pos := "ref.go:134", after := #[{ on := 10, ground := Go.Ground.data }], guard := none }) (v := ?_) rfl (by kernel_rfl) (by kernel_rfl) (by kernel_rfl) (fun _ _ _ h => h) (Or.inl ⟨by rfl, ?_⟩) (by assumption) ?_
        rotate_left
        · intro w hSw
          go_simp
          try with_reducible rfl
        simp only [Act.put, List.setIfInBounds_toArray, List.set_cons_zero, List.set_cons_succ]
        refine wpAnyH_take (i := 12) (oi := { dst := some 39, op := Go.Op.move (Go.Operand.tmp 0), type := 9, pos := "ref.go:134", after := #[], guard := none }) (v := ?_) rfl (by kernel_rfl) (by kernel_rfl) (by kernel_rfl) (fun _ _ _ h => h) (Or.inl ⟨by rfl, ?_⟩) (by assumption) ?_
        rotate_left
        · intro w hSw
          go_simp
          try with_reducible rfl
        simp only [Act.put, List.setIfInBounds_toArray, List.set_cons_zero, List.set_cons_succ]
        refine wpAnyH_take (i := 13) (oi := { dst := some 40, op := Go.Op.index 9 (Go.Operand.tmp 39) (Go.Operand.const (Go.Value.int Go.IntKind.i64 18)), type := 5, pos := "ref.go:134", after := #[{ on := 12, ground := Go.Ground.data }], guard := none }) (v := ?_) rfl (by kernel_rfl) (by kernel_rfl) (by kernel_rfl) (fun _ _ _ h => h) (Or.inl ⟨by rfl, ?_⟩) (by assumption) ?_
        rotate_left
        · intro w hSw
          go_simp
          try with_reducible rfl
        simp only [Act.put, List.setIfInBounds_toArray, List.set_cons_zero, List.set_cons_succ]
        refine wpAnyH_take (i := 14) (oi := { dst := some 41, op := Go.Op.convert 5 3 (Go.Operand.tmp 40), type := 3, pos := "ref.go:134", after := #[{ on := 13, ground := Go.Ground.data }], guard := none }) (v := ?_) rfl (by kernel_rfl) (by kernel_rfl) (by kernel_rfl) (fun _ _ _ h => h) (Or.inl ⟨by rfl, ?_⟩) (by assumption) ?_
        rotate_left
        · intro w hSw
          go_simp
          try with_reducible rfl
        simp only [Act.put, List.setIfInBounds_toArray, List.set_cons_zero, List.set_cons_succ]
        refine wpAnyH_take (i := 15) (oi := { dst := some 42, op := Go.Op.move (Go.Operand.tmp 0), type := 9, pos := "ref.go:134", after := #[], guard := none }) (v := ?_) rfl (by kernel_rfl) (by kernel_rfl) (by kernel_rfl) (fun _ _ _ h => h) (Or.inl ⟨by rfl, ?_⟩) (by assumption) ?_
        rotate_left
        · intro w hSw
          go_simp
          try with_reducible rfl
        simp only [Act.put, List.setIfInBounds_toArray, List.set_cons_zero, List.set_cons_succ]
        refine wpAnyH_take (i := 18) (oi := { dst := some 45, op := Go.Op.move (Go.Operand.tmp 0), type := 9, pos := "ref.go:134", after := #[], guard := none }) (v := ?_) rfl (by kernel_rfl) (by kernel_rfl) (by kernel_rfl) (fun _ _ _ h => h) (Or.inl ⟨by rfl, ?_⟩) (by assumption) ?_
        rotate_left
        · intro w hSw
          go_simp
          try with_reducible rfl
        simp only [Act.put, List.setIfInBounds_toArray, List.set_cons_zero, List.set_cons_succ]
        refine wpAnyH_take (i := 19) (oi := { dst := some 46, op := Go.Op.move (Go.Operand.tmp 0), type := 9, pos := "ref.go:134", after := #[], guard := none }) (v := ?_) rfl (by kernel_rfl) (by kernel_rfl) (by kernel_rfl) (fun _ _ _ h => h) (Or.inl ⟨by rfl, ?_⟩) (by assumption) ?_
        rotate_left
        · intro w hSw
          go_simp
          try with_reducible rfl
        simp only [Act.put, List.setIfInBounds_toArray, List.set_cons_zero, List.set_cons_succ]
        refine wpAnyH_take (i := 20) (oi := { dst := some 47, op := Go.Op.call { callee := Go.Callee.builtin Go.Builtin.len, args := #[Go.Operand.tmp 46], argTypes := #[9] }, type := 3, pos := "ref.go:134", after := #[{ on := 19, ground := Go.Ground.data }], guard := none }) (v := ?_) rfl (by kernel_rfl) (by kernel_rfl) (by kernel_rfl) (fun _ _ _ h => h) (Or.inl ⟨by rfl, ?_⟩) (by assumption) ?_
        rotate_left
        · intro w hSw
          go_simp
          try with_reducible rfl
        simp only [Act.put, List.setIfInBounds_toArray, List.set_cons_zero, List.set_cons_succ]
        refine wpAnyH_take (i := 21) (oi := { dst := some 48, op := Go.Op.binOp Go.BinOp.sub 3 (Go.Operand.tmp 47) (Go.Operand.const (Go.Value.int Go.IntKind.i64 4)) 3, type := 3, pos := "ref.go:134", after := #[{ on := 20, ground := Go.Ground.data }], guard := none }) (v := ?_) rfl (by kernel_rfl) (by kernel_rfl) (by kernel_rfl) (fun _ _ _ h => h) (Or.inl ⟨by rfl, ?_⟩) (by assumption) ?_
        rotate_left
        · intro w hSw
          go_simp
          try with_reducible rfl
        simp only [Act.put, List.setIfInBounds_toArray, List.set_cons_zero, List.set_cons_succ]
        refine wpAnyH_take (i := 22) (oi := { dst := some 49, op := Go.Op.slice 9 (Go.Operand.tmp 45) (some (Go.Operand.const (Go.Value.int Go.IntKind.i64 23))) (some (Go.Operand.tmp 48)) none, type := 9, pos := "ref.go:134", after := #[{ on := 18, ground := Go.Ground.data }, { on := 21, ground := Go.Ground.data }], guard := none }) (v := ?_) rfl (by kernel_rfl) (by kernel_rfl) (by kernel_rfl) (fun _ _ _ h => h) (Or.inl ⟨by rfl, ?_⟩) (by assumption) ?_
        rotate_left
        · intro w hSw
          go_simp
          try with_reducible rfl
        simp only [Act.put, List.setIfInBounds_toArray, List.set_cons_zero, List.set_cons_succ]
        refine wpAnyH_ready (rs := [16, 24]) (by kernel_rfl) (by simp) ?_
        refine AllReadyH.cons (o := { dst := some 43, op := Go.Op.call { callee := Go.Callee.value (Go.Operand.func 45), args := #[Go.Operand.tmp 42, Go.Operand.const (Go.Value.int Go.IntKind.i64 19), Go.Operand.const (Go.Value.int Go.IntKind.i64 4)], argTypes := #[9, 3, 3] }, type := 3, pos := "ref.go:134", after := #[{ on := 15, ground := Go.Ground.data }], guard := none }) rfl (fun K hK => ?_) ?_
        · go_simp
          go_at_call 45
          with_reducible refine Calls.mono (HC19.out wd) ?_
          rintro e wf ⟨rfl, hwf⟩
          have hwg := hwf.symm
          subst hwg
          try dsimp only
          refine hK.out _ _ trivial (fun hHeld2 => ?_)
          clear hK K
          try simp only [Act.put, List.setIfInBounds_toArray, List.set_cons_zero, List.set_cons_succ]
          refine wpAnyH_take (i := 17) (oi := { dst := some 44, op := Go.Op.convert 3 24 (Go.Operand.tmp 43), type := 24, pos := "ref.go:134", after := #[{ on := 16, ground := Go.Ground.data }], guard := none }) (v := ?_) rfl (by kernel_rfl) (by kernel_rfl) (by kernel_rfl) (fun _ _ _ h => h) (Or.inl ⟨by rfl, ?_⟩) (by assumption) ?_
          rotate_left
          · intro w hSw
            go_simp
            try with_reducible rfl
          simp only [Act.put, List.setIfInBounds_toArray, List.set_cons_zero, List.set_cons_succ]
          refine wpAnyH_take (i := 23) (oi := { dst := some 50, op := Go.Op.build 26 #[(0, Go.Operand.tmp 29), (1, Go.Operand.tmp 32), (3, Go.Operand.tmp 35), (4, Go.Operand.tmp 38), (5, Go.Operand.tmp 41), (6, Go.Operand.tmp 44), (7, Go.Operand.tmp 49)], type := 26, pos := "ref.go:134", after := #[{ on := 2, ground := Go.Ground.data }, { on := 5, ground := Go.Ground.data }, { on := 8, ground := Go.Ground.data }, { on := 11, ground := Go.Ground.data }, { on := 14, ground := Go.Ground.data }, { on := 17, ground := Go.Ground.data }, { on := 22, ground := Go.Ground.data }], guard := none }) (v := ?_) rfl (by kernel_rfl) (by kernel_rfl) (by kernel_rfl) (fun _ _ _ h => h) (Or.inl ⟨by rfl, ?_⟩) (by assumption) ?_
          rotate_left
          · intro w hSw
            go_simp
            try with_reducible rfl
          simp only [Act.put, List.setIfInBounds_toArray, List.set_cons_zero, List.set_cons_succ]
          refine wpAnyH_ready (rs := [24]) (by kernel_rfl) (by simp) ?_
          refine AllReadyH.cons (o := { dst := some 6, op := Go.Op.alloc 26, type := 0, pos := "ref.go:134", after := #[], guard := none }) rfl (fun K hK => ?_) ?_
          · go_simp
            refine hK.out _ _ trivial (fun hHeld3 => ?_)
            clear hK K
            try simp only [Act.put, List.setIfInBounds_toArray, List.set_cons_zero, List.set_cons_succ]
            obtain ⟨y0, e0, m0, D0⟩ := box1 wd [.int .i64 0, .int .i64 0, .int .i64 0, .int .i64 0, .int .i64 0, .int .i64 0, .int .i64 0, .int .i64 0, .int .u32 0, .string ⟨#[]⟩] 26
            obtain ⟨h, eh⟩ : ∃ h, wd.heap.size = h := ⟨_, rfl⟩
            simp only [e0, eh]
            rw [eh] at m0
            have BH := hide m0
            have HQB := hide (HBd.out.below D0)
            have HDA := hide (chain HDd.out D0)
            have HLO : Hid (h ≠ q ∧ w.heap.size ≤ h) := by have h1 := HBd.out.lt; have h2 := HDd.out.size; exact ⟨by omega, by omega⟩
            clear e0 eh m0 D0
            have K9 := hide (BH.out.sets [.int .i64 (x2 : Int), .int .i64 (x3 : Int), .int .i64 0, .int .i64 0, .int .i64 0, .int .i64 (x16 : Int), .int .i64 (x17 : Int), .int .i64 (x18 : Int), .int .u32 (u : Int), .string (s.extract 23 z)] rfl)
            have KQ := hide (Bk.others (Ne.symm HLO.out.1) [.int .i64 (x2 : Int), .int .i64 (x3 : Int), .int .i64 0, .int .i64 0, .int .i64 0, .int .i64 (x16 : Int), .int .i64 (x17 : Int), .int .i64 (x18 : Int), .int .u32 (u : Int), .string (s.extract 23 z)] 0 HQB.out)
            have D9 := hide (below_sets HLO.out.2 [.int .i64 (x2 : Int), .int .i64 (x3 : Int), .int .i64 0, .int .i64 0, .int .i64 0, .int .i64 (x16 : Int), .int .i64 (x17 : Int), .int .i64 (x18 : Int), .int .u32 (u : Int), .string (s.extract 23 z)] 0 HDA.out)
            have g0 := BH.out.cell 0 rfl
            have g1 := BH.out.cell 1 rfl
            have g2 := BH.out.cell 2 rfl
            have g3 := BH.out.cell 3 rfl
            have g4 := BH.out.cell 4 rfl
            have g5 := BH.out.cell 5 rfl
            have g6 := BH.out.cell 6 rfl
            have g7 := BH.out.cell 7 rfl
            have g8 := BH.out.cell 8 rfl
            have g9 := BH.out.cell 9 rfl
            have f0 := BH.out.frozen 0
            have f1 := BH.out.frozen 1
            have f2 := BH.out.frozen 2
            have f3 := BH.out.frozen 3
            have f4 := BH.out.frozen 4
            have f5 := BH.out.frozen 5
            have f6 := BH.out.frozen 6
            have f7 := BH.out.frozen 7
            have f8 := BH.out.frozen 8
            have f9 := BH.out.frozen 9
            refine wpAnyH_ready (rs := [25]) (by kernel_rfl) (by simp) ?_
            refine AllReadyH.cons (o := { dst := none, op := Go.Op.store 26 (Go.Operand.tmp 6) (Go.Operand.tmp 50), type := 0, pos := "ref.go:134", after := #[{ on := 24, ground := Go.Ground.data }, { on := 23, ground := Go.Ground.data }, { on := 16, ground := Go.Ground.chain }, { on := 0, ground := Go.Ground.phase }, { on := 1, ground := Go.Ground.phase }, { on := 2, ground := Go.Ground.phase }, { on := 3, ground := Go.Ground.phase }, { on := 4, ground := Go.Ground.phase }, { on := 5, ground := Go.Ground.phase }, { on := 6, ground := Go.Ground.phase }, { on := 7, ground := Go.Ground.phase }, { on := 8, ground := Go.Ground.phase }, { on := 9, ground := Go.Ground.phase }, { on := 10, ground := Go.Ground.phase }, { on := 11, ground := Go.Ground.phase }, { on := 12, ground := Go.Ground.phase }, { on := 13, ground := Go.Ground.phase }, { on := 14, ground := Go.Ground.phase }, { on := 15, ground := Go.Ground.phase }, { on := 16, ground := Go.Ground.phase }, { on := 17, ground := Go.Ground.phase }, { on := 18, ground := Go.Ground.phase }, { on := 19, ground := Go.Ground.phase }, { on := 20, ground := Go.Ground.phase }, { on := 21, ground := Go.Ground.phase }, { on := 22, ground := Go.Ground.phase }, { on := 23, ground := Go.Ground.phase }, { on := 24, ground := Go.Ground.phase }], guard := none }) rfl (fun K hK => ?_) AllReadyH.nil
            go_simp
            refine hK.out _ _ trivial (fun hHeld5 => ?_)
            clear hK K
            refine wpAnyH_done (by kernel_rfl) ?_ _
            clear g0 f0 g1 f1 g2 f2 g3 f3 g4 f4 g5 f5 g6 f6 g7 f7 g8 f8 g9 f9
            go_wp2
            go_meet
            case rel => exact ⟨h, rfl, HLO.out, K9.out, KQ.out, D9.out⟩
          exact AllReadyH.nil
        refine AllReadyH.cons (o := { dst := some 6, op := Go.Op.alloc 26, type := 0, pos := "ref.go:134", after := #[], guard := none }) rfl (fun K hK => ?_) ?_
        · go_simp
          refine hK.out _ _ trivial (fun hHeld3 => ?_)
          clear hK K
          try simp only [Act.put, List.setIfInBounds_toArray, List.set_cons_zero, List.set_cons_succ]
          obtain ⟨y0, e0, m0, D0⟩ := box1 wd [.int .i64 0, .int .i64 0, .int .i64 0, .int .i64 0, .int .i64 0, .int .i64 0, .int .i64 0, .int .i64 0, .int .u32 0, .string ⟨#[]⟩] 26
          obtain ⟨h, eh⟩ : ∃ h, wd.heap.size = h := ⟨_, rfl⟩
          simp only [e0, eh]
          rw [eh] at m0
          have BH := hide m0
          have HQB := hide (HBd.out.below D0)
          have HDA := hide (chain HDd.out D0)
          have HLO : Hid (h ≠ q ∧ w.heap.size ≤ h) := by have h1 := HBd.out.lt; have h2 := HDd.out.size; exact ⟨by omega, by omega⟩
          clear e0 eh m0 D0
          refine wpAnyH_ready (rs := [16]) (by kernel_rfl) (by simp) ?_
          refine AllReadyH.cons (o := { dst := some 43, op := Go.Op.call { callee := Go.Callee.value (Go.Operand.func 45), args := #[Go.Operand.tmp 42, Go.Operand.const (Go.Value.int Go.IntKind.i64 19), Go.Operand.const (Go.Value.int Go.IntKind.i64 4)], argTypes := #[9, 3, 3] }, type := 3, pos := "ref.go:134", after := #[{ on := 15, ground := Go.Ground.data }], guard := none }) rfl (fun K hK => ?_) ?_
          · go_simp
            go_at_call 45
            with_reducible refine Calls.mono (HC19.out y0) ?_
            rintro e wf ⟨rfl, hwf⟩
            have hwg := hwf.symm
            subst hwg
            try dsimp only
            refine hK.out _ _ trivial (fun hHeld2 => ?_)
            clear hK K
            try simp only [Act.put, List.setIfInBounds_toArray, List.set_cons_zero, List.set_cons_succ]
            refine wpAnyH_take (i := 17) (oi := { dst := some 44, op := Go.Op.convert 3 24 (Go.Operand.tmp 43), type := 24, pos := "ref.go:134", after := #[{ on := 16, ground := Go.Ground.data }], guard := none }) (v := ?_) rfl (by kernel_rfl) (by kernel_rfl) (by kernel_rfl) (fun _ _ _ h => h) (Or.inl ⟨by rfl, ?_⟩) (by assumption) ?_
            rotate_left
            · intro w hSw
              go_simp
              try with_reducible rfl
            simp only [Act.put, List.setIfInBounds_toArray, List.set_cons_zero, List.set_cons_succ]
            refine wpAnyH_take (i := 23) (oi := { dst := some 50, op := Go.Op.build 26 #[(0, Go.Operand.tmp 29), (1, Go.Operand.tmp 32), (3, Go.Operand.tmp 35), (4, Go.Operand.tmp 38), (5, Go.Operand.tmp 41), (6, Go.Operand.tmp 44), (7, Go.Operand.tmp 49)], type := 26, pos := "ref.go:134", after := #[{ on := 2, ground := Go.Ground.data }, { on := 5, ground := Go.Ground.data }, { on := 8, ground := Go.Ground.data }, { on := 11, ground := Go.Ground.data }, { on := 14, ground := Go.Ground.data }, { on := 17, ground := Go.Ground.data }, { on := 22, ground := Go.Ground.data }], guard := none }) (v := ?_) rfl (by kernel_rfl) (by kernel_rfl) (by kernel_rfl) (fun _ _ _ h => h) (Or.inl ⟨by rfl, ?_⟩) (by assumption) ?_
            rotate_left
            · intro w hSw
              go_simp
              try with_reducible rfl
            simp only [Act.put, List.setIfInBounds_toArray, List.set_cons_zero, List.set_cons_succ]
            have K9 := hide (BH.out.sets [.int .i64 (x2 : Int), .int .i64 (x3 : Int), .int .i64 0, .int .i64 0, .int .i64 0, .int .i64 (x16 : Int), .int .i64 (x17 : Int), .int .i64 (x18 : Int), .int .u32 (u : Int), .string (s.extract 23 z)] rfl)
            have KQ := hide (Bk.others (Ne.symm HLO.out.1) [.int .i64 (x2 : Int), .int .i64 (x3 : Int), .int .i64 0, .int .i64 0, .int .i64 0, .int .i64 (x16 : Int), .int .i64 (x17 : Int), .int .i64 (x18 : Int), .int .u32 (u : Int), .string (s.extract 23 z)] 0 HQB.out)
            have D9 := hide (below_sets HLO.out.2 [.int .i64 (x2 : Int), .int .i64 (x3 : Int), .int .i64 0, .int .i64 0, .int .i64 0, .int .i64 (x16 : Int), .int .i64 (x17 : Int), .int .i64 (x18 : Int), .int .u32 (u : Int), .string (s.extract 23 z)] 0 HDA.out)
            have g0 := BH.out.cell 0 rfl
            have g1 := BH.out.cell 1 rfl
            have g2 := BH.out.cell 2 rfl
            have g3 := BH.out.cell 3 rfl
            have g4 := BH.out.cell 4 rfl
            have g5 := BH.out.cell 5 rfl
            have g6 := BH.out.cell 6 rfl
            have g7 := BH.out.cell 7 rfl
            have g8 := BH.out.cell 8 rfl
            have g9 := BH.out.cell 9 rfl
            have f0 := BH.out.frozen 0
            have f1 := BH.out.frozen 1
            have f2 := BH.out.frozen 2
            have f3 := BH.out.frozen 3
            have f4 := BH.out.frozen 4
            have f5 := BH.out.frozen 5
            have f6 := BH.out.frozen 6
            have f7 := BH.out.frozen 7
            have f8 := BH.out.frozen 8
            have f9 := BH.out.frozen 9
            refine wpAnyH_ready (rs := [25]) (by kernel_rfl) (by simp) ?_
            refine AllReadyH.cons (o := { dst := none, op := Go.Op.store 26 (Go.Operand.tmp 6) (Go.Operand.tmp 50), type := 0, pos := "ref.go:134", after := #[{ on := 24, ground := Go.Ground.data }, { on := 23, ground := Go.Ground.data }, { on := 16, ground := Go.Ground.chain }, { on := 0, ground := Go.Ground.phase }, { on := 1, ground := Go.Ground.phase }, { on := 2, ground := Go.Ground.phase }, { on := 3, ground := Go.Ground.phase }, { on := 4, ground := Go.Ground.phase }, { on := 5, ground := Go.Ground.phase }, { on := 6, ground := Go.Ground.phase }, { on := 7, ground := Go.Ground.phase }, { on := 8, ground := Go.Ground.phase }, { on := 9, ground := Go.Ground.phase }, { on := 10, ground := Go.Ground.phase }, { on := 11, ground := Go.Ground.phase }, { on := 12, ground := Go.Ground.phase }, { on := 13, ground := Go.Ground.phase }, { on := 14, ground := Go.Ground.phase }, { on := 15, ground := Go.Ground.phase }, { on := 16, ground := Go.Ground.phase }, { on := 17, ground := Go.Ground.phase }, { on := 18, ground := Go.Ground.phase }, { on := 19, ground := Go.Ground.phase }, { on := 20, ground := Go.Ground.phase }, { on := 21, ground := Go.Ground.phase }, { on := 22, ground := Go.Ground.phase }, { on := 23, ground := Go.Ground.phase }, { on := 24, ground := Go.Ground.phase }], guard := none }) rfl (fun K hK => ?_) AllReadyH.nil
            go_simp
            refine hK.out _ _ trivial (fun hHeld5 => ?_)
            clear hK K
            refine wpAnyH_done (by kernel_rfl) ?_ _
            clear g0 f0 g1 f1 g2 f2 g3 f3 g4 f4 g5 f5 g6 f6 g7 f7 g8 f8 g9 f9
            go_wp2
            go_meet
            case rel => exact ⟨h, rfl, HLO.out, K9.out, KQ.out, D9.out⟩
          exact AllReadyH.nil
        exact AllReadyH.nil
      case rest =>
      obtain ⟨h, rfl, K0, K1, K2, K3⟩ := hcut
      obtain ⟨wz, hwz⟩ : ∃ z, z = wc := ⟨_, rfl⟩
      subst hwz
      clear HB HD i2 i3 i16 i17 i18 v2 v3 v16 v17 v18 hz23 hzy hz23i hzyi w4 wu HC19
      have HC4 : Hid (∀ wx, Calls Tryd.prog 45 #[.string s, .int .i64 4, .int .i64 4] wx fun e w' => e = .returned (.int .i64 ((nbe (cut (bytesOf s) 4 4) : Nat) : Int)) ∧ w' = wx) := fun wx => rnum_any s 4 4 wx (by omega) (by decide) (by have := HS9.out; omega)
      rw [HLS.out] at HC4
      obtain ⟨a4, ha4⟩ : ∃ u, nbe (cut l 4 4) = u := ⟨_, rfl⟩
      rw [ha4] at HC4 HXK HXN
      clear ha4
      have HC8 : Hid (∀ wx, Calls Tryd.prog 45 #[.string s, .int .i64 8, .int .i64 4] wx fun e w' => e = .returned (.int .i64 ((nbe (cut (bytesOf s) 8 4) : Nat) : Int)) ∧ w' = wx) := fun wx => rnum_any s 8 4 wx (by omega) (by decide) (by have := HS9.out; omega)
      rw [HLS.out] at HC8
      obtain ⟨a8, ha8⟩ : ∃ u, nbe (cut l 8 4) = u := ⟨_, rfl⟩
      rw [ha8] at HC8 HXK HXN
      clear ha8
      have HC12 : Hid (∀ wx, Calls Tryd.prog 45 #[.string s, .int .i64 12, .int .i64 4] wx fun e w' => e = .returned (.int .i64 ((nbe (cut (bytesOf s) 12 4) : Nat) : Int)) ∧ w' = wx) := fun wx => rnum_any s 12 4 wx (by omega) (by decide) (by have := HS9.out; omega)
      rw [HLS.out] at HC12
      obtain ⟨a12, ha12⟩ : ∃ u, nbe (cut l 12 4) = u := ⟨_, rfl⟩
      rw [ha12] at HC12 HXK HXN
      clear ha12
      go_wp2_with fail
      refine Calls.mono (HC4.out _) ?_
      rintro e w4x ⟨rfl, hwx⟩
      have hwy := hwx.symm
      subst hwy
      go_wp2_with fail
      refine Calls.mono (HC8.out _) ?_
      rintro e w8x ⟨rfl, hwx⟩
      have hwy := hwx.symm
      subst hwy
      go_wp2_with fail
      refine Calls.mono (HC12.out _) ?_
      rintro e w12x ⟨rfl, hwx⟩
      have hwy := hwx.symm
      subst hwy
      have g2 := K1.out.cell 2 rfl
      have g3 := K1.out.cell 3 rfl
      have g4 := K1.out.cell 4 rfl
      have f2 := K1.out.frozen 2
      have f3 := K1.out.frozen 3
      have f4 := K1.out.frozen 4
      go_upto_region 10 with fail
      replace K1 := hide (((K1.out.set 2 (.int .i64 (a4 : Int))).set 3 (.int .i64 (a8 : Int))).set 4 (.int .i64 (a12 : Int)))
      replace K2 := hide (((K2.out.other ⟨h, 2, none⟩ (.int .i64 (a4 : Int)) (Ne.symm K0.out.1)).other ⟨h, 3, none⟩ (.int .i64 (a8 : Int)) (Ne.symm K0.out.1)).other ⟨h, 4, none⟩ (.int .i64 (a12 : Int)) (Ne.symm K0.out.1))
      replace K3 := hide (((K3.out.setCell (p := ⟨h, 2, none⟩) K0.out.2 (.int .i64 (a4 : Int))).setCell (p := ⟨h, 3, none⟩) K0.out.2 (.int .i64 (a8 : Int))).setCell (p := ⟨h, 4, none⟩) K0.out.2 (.int .i64 (a12 : Int)))
      clear g2 g3 g4 f2 f3 f4
      obtain ⟨W8, hW8⟩ : ∃ W8, ((wz.setCell ⟨h, 2, none⟩ (.int .i64 (a4 : Int))).setCell ⟨h, 3, none⟩ (.int .i64 (a8 : Int))).setCell ⟨h, 4, none⟩ (.int .i64 (a12 : Int)) = W8 := ⟨_, rfl⟩
      rw [hW8] at K1 K2 K3
      simp only [hW8]
      clear hW8
      replace K1 : Hid (Bk W8 h [.int .i64 (x2 : Int), .int .i64 (x3 : Int), .int .i64 (a4 : Int), .int .i64 (a8 : Int), .int .i64 (a12 : Int), .int .i64 (x16 : Int), .int .i64 (x17 : Int), .int .i64 (x18 : Int), .int .u32 (u : Int), .string (s.extract 23 z)] 26) := K1
      have HC3 := hide (rcheck_any (x2 : Int) (x3 : Int) (a4 : Int) (a8 : Int) (a12 : Int) (x16 : Int) (x17 : Int) (x18 : Int) (u : Int) (s.extract 23 z) W8 (by rw [ByteArray.size_extract]; have := HS9.out; omega) (by omega) (by have := HX18.out; omega))
      obtain ⟨K, hK0⟩ : ∃ K, chk ⟨(x2 : Int), (x3 : Int), (a4 : Int), (a8 : Int), (a12 : Int), (x16 : Int), (x17 : Int), (x18 : Int), (u : Int), s.extract 23 z⟩ = K := ⟨_, rfl⟩
      rw [hK0] at HC3 HXK
      clear hK0
      have c0 := K1.out.cell 0 rfl
      have c1 := K1.out.cell 1 rfl
      have c2 := K1.out.cell 2 rfl
      have c3 := K1.out.cell 3 rfl
      have c4 := K1.out.cell 4 rfl
      have c5 := K1.out.cell 5 rfl
      have c6 := K1.out.cell 6 rfl
      have c7 := K1.out.cell 7 rfl
      have c8 := K1.out.cell 8 rfl
      have c9 := K1.out.cell 9 rfl
      go_wp2_with fail
      refine Calls.mono HC3.out ?_
      rintro e w7 ⟨rfl, b2⟩
      have HB := hide (K2.out.below b2)
      have HB6 := hide (K1.out.below b2)
      have HD := hide (chain K3.out b2)
      clear b2 HC3 c0 c2 c3 c4 c5 c6 c7 c8 c9 K1 K2 K3
      by_cases hK : K = 0
      · subst hK
        have HF : Hid (XE = 0) := HXK.out
        have HG : Hid (XN = ⟨(x2 : Int), (x3 : Int), (a4 : Int), (a8 : Int), (a12 : Int), (x16 : Int), (x17 : Int), (x18 : Int), (u : Int), s.extract 23 z⟩) := by
          rw [HXN.out, HF.out]
          rfl
        go_upto_region 13 with fail
        have c0 := HB6.out.cell 0 rfl
        have c1 := HB6.out.cell 1 rfl
        have c2 := HB6.out.cell 2 rfl
        have c3 := HB6.out.cell 3 rfl
        have c4 := HB6.out.cell 4 rfl
        have c5 := HB6.out.cell 5 rfl
        have c6 := HB6.out.cell 6 rfl
        have c7 := HB6.out.cell 7 rfl
        have c8 := HB6.out.cell 8 rfl
        have c9 := HB6.out.cell 9 rfl
        have g0 := HB.out.cell 0 rfl
        have g1 := HB.out.cell 1 rfl
        have g2 := HB.out.cell 2 rfl
        have g3 := HB.out.cell 3 rfl
        have g4 := HB.out.cell 4 rfl
        have g5 := HB.out.cell 5 rfl
        have g6 := HB.out.cell 6 rfl
        have g7 := HB.out.cell 7 rfl
        have g8 := HB.out.cell 8 rfl
        have g9 := HB.out.cell 9 rfl
        have f0 := HB.out.frozen 0
        have f1 := HB.out.frozen 1
        have f2 := HB.out.frozen 2
        have f3 := HB.out.frozen 3
        have f4 := HB.out.frozen 4
        have f5 := HB.out.frozen 5
        have f6 := HB.out.frozen 6
        have f7 := HB.out.frozen 7
        have f8 := HB.out.frozen 8
        have f9 := HB.out.frozen 9
        have Q1 := hide (HB.out.sets [.int .i64 (x2 : Int), .int .i64 (x3 : Int), .int .i64 (a4 : Int), .int .i64 (a8 : Int), .int .i64 (a12 : Int), .int .i64 (x16 : Int), .int .i64 (x17 : Int), .int .i64 (x18 : Int), .int .u32 (u : Int), .string (s.extract 23 z)] rfl)
        have Q3 := hide (below_sets HQ0.out [.int .i64 (x2 : Int), .int .i64 (x3 : Int), .int .i64 (a4 : Int), .int .i64 (a8 : Int), .int .i64 (a12 : Int), .int .i64 (x16 : Int), .int .i64 (x17 : Int), .int .i64 (x18 : Int), .int .u32 (u : Int), .string (s.extract 23 z)] 0 HD.out)
        go_wp2
        obtain ⟨W9, hW9⟩ : ∃ W9, ((((((((((w7.setCell ⟨q, 0, none⟩ (.int .i64 (x2 : Int))).setCell ⟨q, 1, none⟩ (.int .i64 (x3 : Int))).setCell ⟨q, 2, none⟩ (.int .i64 (a4 : Int))).setCell ⟨q, 3, none⟩ (.int .i64 (a8 : Int))).setCell ⟨q, 4, none⟩ (.int .i64 (a12 : Int))).setCell ⟨q, 5, none⟩ (.int .i64 (x16 : Int))).setCell ⟨q, 6, none⟩ (.int .i64 (x17 : Int))).setCell ⟨q, 7, none⟩ (.int .i64 (x18 : Int))).setCell ⟨q, 8, none⟩ (.int .u32 (u : Int))).setCell ⟨q, 9, none⟩ (.string (s.extract 23 z))) = W9 := ⟨_, rfl⟩
        simp only [hW9]
        rw [show World.setCells w7 q 0 [.int .i64 (x2 : Int), .int .i64 (x3 : Int), .int .i64 (a4 : Int), .int .i64 (a8 : Int), .int .i64 (a12 : Int), .int .i64 (x16 : Int), .int .i64 (x17 : Int), .int .i64 (x18 : Int), .int .u32 (u : Int), .string (s.extract 23 z)] = W9 from hW9] at Q1 Q3
        clear hW9
        have e0 := Q1.out.cell 0 rfl
        have e1 := Q1.out.cell 1 rfl
        have e2 := Q1.out.cell 2 rfl
        have e3 := Q1.out.cell 3 rfl
        have e4 := Q1.out.cell 4 rfl
        have e5 := Q1.out.cell 5 rfl
        have e6 := Q1.out.cell 6 rfl
        have e7 := Q1.out.cell 7 rfl
        have e8 := Q1.out.cell 8 rfl
        have e9 := Q1.out.cell 9 rfl
        refine bodyPost_ret (v := .tuple #[.agg #[.int .i64 (x2 : Int), .int .i64 (x3 : Int), .int .i64 (a4 : Int), .int .i64 (a8 : Int), .int .i64 (a12 : Int), .int .i64 (x16 : Int), .int .i64 (x17 : Int), .int .i64 (x18 : Int), .int .u32 (u : Int), .string (s.extract 23 z)], .int .i64 0]) (by simp [results, Tryd.results14, go_sem, e0, e1, e2, e3, e4, e5, e6, e7, e8, e9]) rfl ?_
        exact ⟨by rw [HF.out, HG.out]; rfl, Q3.out⟩
      · have k1 : ((K : Int) != 0) = true := by simp; omega
        have k2 : (K != 0) = true := by simp; omega
        go_upto_region 12 with fail
        have HF : Hid (XE = K) := by
          unfold Hid
          skip
          exact HXK.out
        have HG : Hid (XN = gNt) := by
          rw [HXN.out, HF.out]
          exact if_neg (by assumption)
        have g0 := HB.out.cell 0 rfl
        have g1 := HB.out.cell 1 rfl
        have g2 := HB.out.cell 2 rfl
        have g3 := HB.out.cell 3 rfl
        have g4 := HB.out.cell 4 rfl
        have g5 := HB.out.cell 5 rfl
        have g6 := HB.out.cell 6 rfl
        have g7 := HB.out.cell 7 rfl
        have g8 := HB.out.cell 8 rfl
        have g9 := HB.out.cell 9 rfl
        have f0 := HB.out.frozen 0
        have f1 := HB.out.frozen 1
        have f2 := HB.out.frozen 2
        have f3 := HB.out.frozen 3
        have f4 := HB.out.frozen 4
        have f5 := HB.out.frozen 5
        have f6 := HB.out.frozen 6
        have f7 := HB.out.frozen 7
        have f8 := HB.out.frozen 8
        have f9 := HB.out.frozen 9
        have Q1 := hide (HB.out.sets [.int .i64 0, .int .i64 0, .int .i64 0, .int .i64 0, .int .i64 0, .int .i64 0, .int .i64 0, .int .i64 0, .int .u32 0, .string ⟨#[]⟩] rfl)
        have Q3 := hide (below_sets HQ0.out [.int .i64 0, .int .i64 0, .int .i64 0, .int .i64 0, .int .i64 0, .int .i64 0, .int .i64 0, .int .i64 0, .int .u32 0, .string ⟨#[]⟩] 0 HD.out)
        go_wp2
        obtain ⟨W9, hW9⟩ : ∃ W9, ((((((((((w7.setCell ⟨q, 0, none⟩ (.int .i64 0)).setCell ⟨q, 1, none⟩ (.int .i64 0)).setCell ⟨q, 2, none⟩ (.int .i64 0)).setCell ⟨q, 3, none⟩ (.int .i64 0)).setCell ⟨q, 4, none⟩ (.int .i64 0)).setCell ⟨q, 5, none⟩ (.int .i64 0)).setCell ⟨q, 6, none⟩ (.int .i64 0)).setCell ⟨q, 7, none⟩ (.int .i64 0)).setCell ⟨q, 8, none⟩ (.int .u32 0)).setCell ⟨q, 9, none⟩ (.string ⟨#[]⟩)) = W9 := ⟨_, rfl⟩
        simp only [hW9]
        rw [show World.setCells w7 q 0 [.int .i64 0, .int .i64 0, .int .i64 0, .int .i64 0, .int .i64 0, .int .i64 0, .int .i64 0, .int .i64 0, .int .u32 0, .string ⟨#[]⟩] = W9 from hW9] at Q1 Q3
        clear hW9
        have e0 := Q1.out.cell 0 rfl
        have e1 := Q1.out.cell 1 rfl
        have e2 := Q1.out.cell 2 rfl
        have e3 := Q1.out.cell 3 rfl
        have e4 := Q1.out.cell 4 rfl
        have e5 := Q1.out.cell 5 rfl
        have e6 := Q1.out.cell 6 rfl
        have e7 := Q1.out.cell 7 rfl
        have e8 := Q1.out.cell 8 rfl
        have e9 := Q1.out.cell 9 rfl
        refine bodyPost_ret (v := .tuple #[.agg #[.int .i64 0, .int .i64 0, .int .i64 0, .int .i64 0, .int .i64 0, .int .i64 0, .int .i64 0, .int .i64 0, .int .u32 0, .string ⟨#[]⟩], .int .i64 (K : Int)]) (by simp [results, Tryd.results14, go_sem, e0, e1, e2, e3, e4, e5, e6, e7, e8, e9]) rfl ?_
        exact ⟨by rw [HF.out, HG.out]; rfl, Q3.out⟩
end Go.Proofs.YtdbciciljeainaaDoor
