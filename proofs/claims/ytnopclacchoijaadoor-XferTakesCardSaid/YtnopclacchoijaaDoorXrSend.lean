/-
  The document's pieces, Good, Due, copied and Arrived of what is sent; SameNotes of lists that are alike.
-/
import Derived.Test.YtnopclacchoijaaDoorXrChk
import Derived.Test.YtnopclacchoijaaDoorXfRound
namespace Go.Proofs.YtnopclacchoijaaDoor
open Go.RowKit FerryCrc
set_option linter.unusedVariables false
set_option linter.unusedSimpArgs false

set_option maxRecDepth 100000 in
set_option maxHeartbeats 2000000 in
theorem rpieces_any (s : Sd) (fa : Option Addr) (fn fc : Nat) {w : World} (him : s.image.size ≤ 140737488351232) :
    Calls Tryd.prog 37 #[.agg (s.cells (.slice fa fn fc)).toArray] w fun e w' => ∃ v, e = .returned (.tuple #[v, .int .i64 (cutE s.part s.boot s.peer s.num s.stage s.image.size : Int)]) ∧ NOwn w' w.heap.size v (cutL s.part s.boot s.peer s.num s.stage (bytesOf s.image)) ∧ Below w.heap.size w w' := by
  obtain ⟨pt, b, r, m, st, im, rd⟩ := s
  unfold Sd.cells
  simp only at him ⊢
  obtain ⟨W, hW, B0, D0⟩ := box1 w [.int .i64 pt, .int .i64 b, .int .i64 r, .int .i64 m, .int .i64 st, .string im, .slice fa fn fc, .int .i64 rd] 26
  obtain ⟨n, hn⟩ : ∃ n, im.size = n := ⟨_, rfl⟩
  obtain ⟨c1, w1, hrun, hs1, b1⟩ := conv_lay W im n hn (hn ▸ him)
  have HC1 := hide (rcut_any pt b r m st _ n c1 _ hs1)
  have HB0 := hide B0
  have HD := hide (chain D0 b1)
  have HWD := hide hW
  have HRU := hide hrun
  rw [hn]
  obtain ⟨kk, hkk⟩ : ∃ kk, cutE pt b r m st n = kk := ⟨_, rfl⟩
  obtain ⟨V, hV⟩ : ∃ V, cutL pt b r m st (bytesOf im) = V := ⟨_, rfl⟩
  rw [hkk, hV] at HC1
  rw [hkk, hV]
  clear B0 D0 hW b1 hs1 him hrun hn hkk hV
  go_enter Tryd.func37, Tryd.ntmps37
  go_upto_region 1 with fail
  have hW := HWD.out
  simp only [hW]
  clear hW HWD
  have hrun := HRU.out
  clear HRU
  have g0 := HB0.out.cell 0 rfl
  have g1 := HB0.out.cell 1 rfl
  have g2 := HB0.out.cell 2 rfl
  have g3 := HB0.out.cell 3 rfl
  have g4 := HB0.out.cell 4 rfl
  have g5 := HB0.out.cell 5 rfl
  have g6 := HB0.out.cell 6 rfl
  have g7 := HB0.out.cell 7 rfl
  go_wp2_with fail
  refine Calls.mono HC1.out ?_
  rintro e w2 ⟨v, rfl, o2, b2⟩
  have HO := hide o2
  have HD2 := hide (chain HD.out b2)
  clear o2 b2 hrun HC1 HB0 g0 g1 g2 g3 g4 g5 g6 g7
  go_wp2
  go_ret2
  exact ⟨v, rfl, HO.out.weaken HD.out.size, HD2.out⟩
set_option maxRecDepth 100000 in
set_option maxHeartbeats 2000000 in
theorem rgood_any (s : Sd) (fa : Option Addr) (fn fc : Nat) {w : World} (him : s.image.size ≤ 140737488351232) :
    Calls Tryd.prog 16 #[.agg (s.cells (.slice fa fn fc)).toArray] w fun e w' => e = .returned (.bool (decide (pieE s fn = 0))) ∧ Below w.heap.size w w' := by
  have HC1 := hide (fun (w' : World) => rpieces_any (w := w') s fa fn fc him)
  obtain ⟨R, hR⟩ : ∃ R, decide (pieE s fn = 0) = R := ⟨_, rfl⟩
  rw [hR]
  have HLE : Hid (cutE s.part s.boot s.peer s.num s.stage s.image.size = 0 → (cutL s.part s.boot s.peer s.num s.stage (bytesOf s.image)).length = tot (bytesOf s.image) ∧ tot (bytesOf s.image) ≤ 32) := fun h => by
    have h2 := (cutE_ok h).2
    refine ⟨cutL_len (by rw [bytesOf_len]; exact h), ?_⟩
    unfold tot
    rw [bytesOf_len]
    omega
  have HR : Hid (R = decide (cutE s.part s.boot s.peer s.num s.stage s.image.size = 0 ∧ fn = tot (bytesOf s.image) ∧ 0 ≤ s.rounds)) := by
    unfold Hid
    rw [← hR]
    unfold pieE
    by_cases h : cutE s.part s.boot s.peer s.num s.stage s.image.size = 0 ∧ fn = tot (bytesOf s.image) ∧ 0 ≤ s.rounds
    · rw [if_pos h, decide_eq_true h]; rfl
    · rw [if_neg h, decide_eq_false h]; rfl
  clear hR him
  obtain ⟨pt, b, r, m, st, im, rd⟩ := s
  unfold Sd.cells at *
  simp only at *
  obtain ⟨kk, hkk⟩ : ∃ kk, cutE pt b r m st im.size = kk := ⟨_, rfl⟩
  obtain ⟨V, hV⟩ : ∃ V, cutL pt b r m st (bytesOf im) = V := ⟨_, rfl⟩
  obtain ⟨t, ht⟩ : ∃ t, tot (bytesOf im) = t := ⟨_, rfl⟩
  rw [hkk] at HC1 HLE HR
  rw [hV] at HC1 HLE
  rw [ht] at HLE HR
  clear hkk hV ht
  obtain ⟨W, hW, B0, D0⟩ := box1 w [.int .i64 pt, .int .i64 b, .int .i64 r, .int .i64 m, .int .i64 st, .string im, .slice fa fn fc, .int .i64 rd] 26
  have HB0 := hide B0
  have HD := hide D0
  have HWD := hide hW
  clear B0 D0 hW
  go_enter Tryd.func16, Tryd.ntmps16
  go_upto_region 1 with fail
  have hW := HWD.out
  simp only [hW]
  clear hW HWD
  have g0 := HB0.out.cell 0 rfl
  have g1 := HB0.out.cell 1 rfl
  have g2 := HB0.out.cell 2 rfl
  have g3 := HB0.out.cell 3 rfl
  have g4 := HB0.out.cell 4 rfl
  have g5 := HB0.out.cell 5 rfl
  have g6 := HB0.out.cell 6 rfl
  have g7 := HB0.out.cell 7 rfl
  go_wp2_with fail
  refine Calls.mono (HC1.out W) ?_
  rintro e w1 ⟨v, rfl, o1, b1⟩
  obtain ⟨va, vc, rfl, -⟩ := o1.rcs
  replace HB0 := hide (HB0.out.below b1)
  replace HD := hide (chain HD.out b1)
  clear b1 o1 HC1 g0 g1 g2 g3 g4 g5 g6 g7
  have g6 := HB0.out.cell 6 rfl
  have g7 := HB0.out.cell 7 rfl
  obtain ⟨vn, hvn⟩ : ∃ vn, V.length = vn := ⟨_, rfl⟩
  rw [hvn] at HLE ⊢
  clear hvn
  by_cases hk : kk = 0
  · subst hk
    obtain ⟨h1, h2⟩ := HLE.out rfl
    subst h1
    by_cases h3 : fn = vn
    · subst h3
      by_cases h4 : 0 ≤ rd
      · have HF : Hid (R = true) := by rw [HR.out]; exact decide_eq_true ⟨rfl, rfl, h4⟩
        clear HR HLE
        go_wp2
        go_ret
        exact ⟨ret_b HF.out.symm, HD.out⟩
      · have HF : Hid (R = false) := by rw [HR.out]; exact decide_eq_false (fun h => h4 h.2.2)
        clear HR HLE
        go_wp2
        go_ret
        exact ⟨ret_b (by rw [HF.out]; exact decide_eq_false (by omega)), HD.out⟩
    · have HF : Hid (R = false) := by rw [HR.out]; exact decide_eq_false (fun h => h3 h.2.1)
      have e1 : ((vn : Int) == (fn : Int)) = false := by simp; omega
      clear HR HLE h3
      go_wp2
      go_ret
      exact ⟨ret_b HF.out.symm, HD.out⟩
  · have HF : Hid (R = false) := by rw [HR.out]; exact decide_eq_false (fun h => hk h.1)
    have e1 : ((kk : Int) == 0) = false := by simp; omega
    clear HR HLE hk
    go_wp2
    go_ret
    exact ⟨ret_b HF.out.symm, HD.out⟩
set_option maxRecDepth 100000 in
set_option maxHeartbeats 4000000 in
theorem rdue_any (s : Sd) (fa : Option Addr) (fn fc : Nat) (F : List Bool) {w : World} (him : s.image.size ≤ 140737488351232) (hF : Fls w fa fn fc F) :
    Calls Tryd.prog 10 #[.agg (s.cells (.slice fa fn fc)).toArray] w fun e w' => ∃ v, e = .returned (.tuple #[v, .int .i64 (pieE s fn : Int)]) ∧ NOwn w' w.heap.size v (dueL s F) ∧ Below w.heap.size w w' := by
  have hFs := hF.size
  have HC0 := hide (fun (w' : World) => rgood_any (w := w') s fa fn fc him)
  have HC1 := hide (fun (w' : World) => rpieces_any (w := w') s fa fn fc him)
  have HRR : Hid (pieE s fn = 0 ∨ pieE s fn = 9) := by unfold Hid pieE; split <;> simp
  have HPL : Hid (pieE s fn = 0 → cutL s.part s.boot s.peer s.num s.stage (bytesOf s.image) = pieL s fn ∧ (pieL s fn).length = fn ∧ fn ≤ 32) := fun h0 => by
    have h1 : cutE s.part s.boot s.peer s.num s.stage s.image.size = 0 ∧ fn = tot (bytesOf s.image) ∧ 0 ≤ s.rounds := by
      unfold pieE at h0
      split at h0
      · assumption
      · cases h0
    have h3 : cutL s.part s.boot s.peer s.num s.stage (bytesOf s.image) = pieL s fn := by
      unfold cutL pieL
      rw [if_pos h0, bytesOf_len, if_pos h1.1]
    refine ⟨h3, ?_, pieE_fn h0⟩
    rw [← h3, cutL_len (by rw [bytesOf_len]; exact h1.1)]
    exact h1.2.1.symm
  have HN0 : Hid (pieE s fn = 9 → dueL s F = []) := fun h0 => by
    unfold dueL pieL
    rw [hFs, if_neg (by rw [h0]; decide)]
    rfl
  have HV : Hid (dueL s F = dueN (pieL s fn) F) := by unfold Hid dueL; rw [hFs]
  obtain ⟨R, hR⟩ : ∃ R, pieE s fn = R := ⟨_, rfl⟩
  obtain ⟨N, hN⟩ : ∃ N, pieL s fn = N := ⟨_, rfl⟩
  obtain ⟨D, hD⟩ : ∃ D, dueL s F = D := ⟨_, rfl⟩
  rw [hR] at HC0 HRR HPL HN0 ⊢
  rw [hN] at HPL HV
  rw [hD] at HN0 HV ⊢
  clear hR hN hD him
  obtain ⟨pt, b, r, m, st, im, rd⟩ := s
  unfold Sd.cells at *
  simp only at *
  obtain ⟨kk, hkk⟩ : ∃ kk, cutE pt b r m st im.size = kk := ⟨_, rfl⟩
  obtain ⟨V, hV⟩ : ∃ V, cutL pt b r m st (bytesOf im) = V := ⟨_, rfl⟩
  rw [hkk, hV] at HC1
  rw [hV] at HPL
  clear hkk hV
  obtain ⟨W, hW, B0, D0⟩ := box1 w [.int .i64 pt, .int .i64 b, .int .i64 r, .int .i64 m, .int .i64 st, .string im, .slice fa fn fc, .int .i64 rd] 26
  have HB0 := hide B0
  have HD := hide D0
  have HWD := hide hW
  have HF := hide (hF.below D0)
  clear B0 D0 hW hF
  go_enter Tryd.func10, Tryd.ntmps10
  go_upto_region 1 with fail
  have hW := HWD.out
  simp only [hW]
  clear hW HWD
  have g0 := HB0.out.cell 0 rfl
  have g1 := HB0.out.cell 1 rfl
  have g2 := HB0.out.cell 2 rfl
  have g3 := HB0.out.cell 3 rfl
  have g4 := HB0.out.cell 4 rfl
  have g5 := HB0.out.cell 5 rfl
  have g6 := HB0.out.cell 6 rfl
  have g7 := HB0.out.cell 7 rfl
  go_wp2_with fail
  refine Calls.mono (HC0.out W) ?_
  rintro e w1 ⟨rfl, b1⟩
  replace HB0 := hide (HB0.out.below b1)
  replace HD := hide (chain HD.out b1)
  replace HF := hide (HF.out.below b1)
  clear b1 HC0 g0 g1 g2 g3 g4 g5 g6 g7
  by_cases hR : R = 0
  · subst hR
    obtain ⟨hv1, hnl, h32⟩ := HPL.out rfl
    subst hv1
    rw [show decide ((0 : Nat) = 0) = true from rfl]
    have g0 := HB0.out.cell 0 rfl
    have g1 := HB0.out.cell 1 rfl
    have g2 := HB0.out.cell 2 rfl
    have g3 := HB0.out.cell 3 rfl
    have g4 := HB0.out.cell 4 rfl
    have g5 := HB0.out.cell 5 rfl
    have g6 := HB0.out.cell 6 rfl
    have g7 := HB0.out.cell 7 rfl
    go_upto_region 3 with fail
    go_wp2_with fail
    refine Calls.mono (HC1.out w1) ?_
    rintro e w2 ⟨v, rfl, o2, b2⟩
    replace HB0 := hide (HB0.out.below b2)
    have HWS := hide HD.out.size
    replace HD := hide (chain HD.out b2)
    replace HF := hide (HF.out.below b2)
    obtain ⟨na, nc, rfl, hrc⟩ := o2.rcs
    rw [hnl] at hrc ⊢
    have HNR := hide hrc
    have HVV : Hid (D = dueN V F) := HV.out
    clear b2 o2 hrc HC1 HV HPL HN0 HRR g0 g1 g2 g3 g4 g5 g6 g7
    go_wp2_with fail
    go_loopw [6, 7] (fun o i wr => ∃ k : Nat, k ≤ fn ∧ i = .int .i64 (k : Int) ∧ Hid (NOwn wr w2.heap.size o (dueN (V.take k) (F.take k))) ∧ Hid (Below w2.heap.size w2 wr)) (fun _ i _ => fn - (intOf i).toNat)
    case atStart => exact ⟨0, Nat.zero_le _, rfl, World.ownsRow_nil _ _ _ _, Below.refl _ _⟩
    case round =>
      obtain ⟨k, hk, rfl, HO, HB⟩ := hrel
      by_cases hlt : k < fn
      · obtain ⟨x, hx⟩ : ∃ x, V[k]? = some x := ⟨_, List.getElem?_eq_getElem (by omega)⟩
        obtain ⟨y, hy⟩ : ∃ y, F[k]? = some y := ⟨_, List.getElem?_eq_getElem (by omega)⟩
        have HST := hide (dueN_step hx hy)
        obtain ⟨b1, o1, rfl, hc1⟩ := (HNR.out.below HB.out).at nt10 (by decide) hx
        obtain ⟨b2, o2, rfl, hc2⟩ := (HF.out.below HB.out).at bvl1 (by decide) hy
        have y0 := hc2 0 _ rfl
        rw [Nat.mul_one, Nat.add_zero] at y0
        have g6 := (HB0.out.below HB.out).cell 6 rfl
        have HHC := hide hc1
        clear hc1 hc2 hx hy
        have h40 : (k : Int) < (fn : Int) := by omega
        cases y with
        | true =>
          go_wp2
          refine ⟨⟨k + 1, by omega, by simp, ?_, HB.out⟩, by simp [intOf]; omega⟩
          have h5 := HO.out
          rw [HST.out, if_pos rfl, List.append_nil]
          exact h5
        | false =>
          have n0 := HHC.out 0 _ rfl
          have n1 := HHC.out 1 _ rfl
          have n2 := HHC.out 2 _ rfl
          have n3 := HHC.out 3 _ rfl
          have n4 := HHC.out 4 _ rfl
          have n5 := HHC.out 5 _ rfl
          have n6 := HHC.out 6 _ rfl
          have n7 := HHC.out 7 _ rfl
          have n8 := HHC.out 8 _ rfl
          have n9 := HHC.out 9 _ rfl
          rw [Nat.add_zero] at n0
          have DA : Hid (Below wr.heap.size wr (wr.alloc (.cells #[.int .i64 x.kind, .int .i64 x.part, .int .i64 x.boot, .int .i64 x.peer, .int .i64 x.num, .int .i64 x.stage, .int .i64 x.index, .int .i64 x.total, .int .u32 x.sum, .string x.data] 34))) := (Below.refl _ _).alloc (Nat.le_refl _) _
          have HOa := hide (HO.out.below DA.out)
          have hl1 : (dueN (V.take k) (F.take k)).length ≤ 32 := by
            have h1 := dueN_len (V.take k) (F.take k)
            rw [List.length_take] at h1
            omega
          have hl2 : (dueN (V.take k) (F.take k)).length < 4294967296 := by omega
          have hl3 : ((dueN (V.take k) (F.take k)).length + 1) * 88 ≤ 140737488355328 := by omega
          have hba : w2.heap.size ≤ (wr.alloc (.cells #[.int .i64 x.kind, .int .i64 x.part, .int .i64 x.boot, .int .i64 x.peer, .int .i64 x.num, .int .i64 x.stage, .int .i64 x.index, .int .i64 x.total, .int .u32 x.sum, .string x.data] 34)).heap.size := (chain HB.out DA.out).size
          have HH := hide (And.intro hl2 (And.intro hl3 hba))
          have HBa := hide (chain HB.out DA.out)
          clear hl1 hl2 hl3 hba HHC
          have HOB : Hid (∀ j, u6.ownBlock = some j → w2.heap.size ≤ j) := fun j e => (World.ownsRow.lt HO.out j e).1
          go_wp2_with (at_builtin; refine append_l (f := Nt.cells) (sz := 10) nt10 (by decide) zNt Tryd.underlying38 infoNote rfl (.tmp 28) (.tmp 33) rfl w2.heap.size _ (dueN (V.take k) (F.take k)) rfl HOa.out wr.heap.size 1 x rfl (nt_one x) (fun j u hu => by rw [World.cell?_alloc_at _ _ _ _ rfl]; simpa [Nt.cells] using hu) HH.out.1 HH.out.2.1 HH.out.2.2 ?_; intro v' w3 q1 q2; have HQ1 := hide q1; have HQ2 := hide q2; clear q1 q2)
          refine ⟨⟨k + 1, by omega, by simp, ?_, ?_⟩, by simp [intOf]; omega⟩
          · have h5 := HQ1.out
            rw [HST.out]
            exact h5
          · exact HBa.out.grown HQ2.out HBa.out.size HOB.out
      · obtain rfl : k = fn := by omega
        have hnk : ¬ (k : Int) < (k : Int) := by omega
        have HFS := hide hFs
        clear hFs hlt
        go_wp2
        go_ret2
        refine ⟨_, rfl, ?_, chain HD.out HB.out⟩
        have h5 := HO.out
        rw [List.take_of_length_le (by omega), List.take_of_length_le (by have := HFS.out; omega)] at h5
        rw [HVV.out]
        exact h5.weaken HD.out.size
  · have h9 : R = 9 := by
      rcases HRR.out with h | h
      · exact absurd h hR
      · exact h
    subst h9
    rw [show decide ((9 : Nat) = 0) = false from rfl]
    have HD0 := hide (HN0.out rfl)
    clear hR
    go_wp2
    go_ret2
    exact ⟨_, rfl, by rw [HD0.out]; exact World.ownsRow_nil _ _ _ _, HD.out⟩
set_option maxRecDepth 100000 in
set_option maxHeartbeats 2000000 in
theorem rcopied_any (s : Sd) (fa : Option Addr) (fn fc : Nat) (F : List Bool) {w : World} (hF : Fls w fa fn fc F) (hm : fn ≤ 140737488351232) :
    Calls Tryd.prog 38 #[.agg (s.cells (.slice fa fn fc)).toArray] w fun e w' => ∃ va vc, e = .returned (.agg (s.cells (.slice va fn vc)).toArray) ∧ FlOwn w' w.heap.size (.slice va fn vc) F ∧ Below w.heap.size w w' := by
  have hFs := hF.size
  obtain ⟨pt, b, r, m, st, im, rd⟩ := s
  unfold Sd.cells
  simp only
  obtain ⟨W, hW, B0, B1, D0⟩ := box2 w [.int .i64 pt, .int .i64 b, .int .i64 r, .int .i64 m, .int .i64 st, .string im, .slice fa fn fc, .int .i64 rd] 26 [.int .i64 0, .int .i64 0, .int .i64 0, .int .i64 0, .int .i64 0, .string ⟨#[]⟩, .slice none 0 0, .int .i64 0] 26
  obtain ⟨q, hq⟩ : ∃ q, w.heap.size + 1 = q := ⟨_, rfl⟩
  have HQ0 : Hid (w.heap.size < q) := by unfold Hid; omega
  rw [hq] at B1
  have HB0 := hide B0
  have HB1 := hide B1
  have HD := hide D0
  have HWD := hide hW
  have HQQ := hide hq
  have HF := hide (hF.below D0)
  clear B0 B1 D0 hW hq hF
  go_enter Tryd.func38, Tryd.ntmps38
  go_upto_region 1 with fail
  have hW := HWD.out
  have hq := HQQ.out
  simp only [hW, hq]
  clear hW HWD hq HQQ
  have HWL : Hid (w.heap.size < W.heap.size ∧ q < W.heap.size) := ⟨HB0.out.lt, HB1.out.lt⟩
  have BE := hide (xnew W (.cells #[] 4))
  have HI := hide infoFl
  have ONE := hide (bvl_one F)
  have a6 := (HB0.out.below BE.out).cell 6 rfl
  have HOB : Hid (∀ w2, Below W.heap.size W w2 → Bk w2 w.heap.size [.int .i64 pt, .int .i64 b, .int .i64 r, .int .i64 m, .int .i64 st, .string im, .slice fa fn fc, .int .i64 rd] 26 ∧ Bk w2 q [.int .i64 0, .int .i64 0, .int .i64 0, .int .i64 0, .int .i64 0, .string ⟨#[]⟩, .slice none 0 0, .int .i64 0] 26) := fun w2 h => ⟨HB0.out.below h, HB1.out.below h⟩
  cases fa with
  | none =>
    go_upto_region 2 with (at_builtin; refine append_list rfl (.tmp 3) (.tmp 5) 24 4 rfl Tryd.underlying24 HI.out rfl (by decide) W.heap.size _ 0 [] rfl (World.ownsRow_lit W #[] 0 (Nat.le_refl _) (by decide) rfl) none fn fc (F.flatMap bvl) rfl (HF.out.row.below BE.out) ONE.out (by unfold maxLen; omega) (by omega) BE.out.size ?_; intro v2 w2 h2 b2; rw [List.nil_append, Nat.zero_add] at h2; have HV : Hid (FlOwn w2 W.heap.size v2 F) := (by rw [← hFs] at h2; exact h2); have D2 := hide (BE.out.trans b2); clear h2 b2; obtain ⟨K0, K1⟩ := HOB.out _ D2.out; have HK0 := hide K0; have HK1 := hide K1; obtain ⟨va, vc, hv, -⟩ := HV.out.rcs; rw [hFs] at hv; subst hv; have c6 := K0.cell 6 rfl; have z6 := K0.frozen 6; clear K0 K1)
    have HV0 := hide (HV.out.off HWL.out.1)
    have HVQ := hide (HV.out.off HWL.out.2)
    have M0 := hide (HK0.out.set 6 (.slice va fn vc))
    have MQ := hide (HK1.out.other ⟨w.heap.size, 6, none⟩ (.slice va fn vc) (Ne.symm (Nat.ne_of_lt HQ0.out)))
    have MV := hide (HV.out.far (p := ⟨w.heap.size, 6, none⟩) HV0.out (.slice va fn vc))
    have MD := hide ((chain HD.out D2.out).setCell (p := ⟨w.heap.size, 6, none⟩) (Nat.le_refl _) (.slice va fn vc))
    obtain ⟨W4, hW4⟩ : ∃ W4, w2.setCell ⟨w.heap.size, 6, none⟩ (.slice va fn vc) = W4 := ⟨_, rfl⟩
    rw [hW4] at M0 MQ MV MD
    simp only [hW4]
    replace M0 : Hid (Bk W4 w.heap.size [.int .i64 pt, .int .i64 b, .int .i64 r, .int .i64 m, .int .i64 st, .string im, .slice va fn vc, .int .i64 rd] 26) := M0
    clear hW4 c6 z6 HK0 HK1 HV D2 HB0 HB1 HF HOB BE HI ONE a6
    have c0 := M0.out.cell 0 rfl
    have c1 := M0.out.cell 1 rfl
    have c2 := M0.out.cell 2 rfl
    have c3 := M0.out.cell 3 rfl
    have c4 := M0.out.cell 4 rfl
    have c5 := M0.out.cell 5 rfl
    have c6 := M0.out.cell 6 rfl
    have c7 := M0.out.cell 7 rfl
    have g0 := MQ.out.cell 0 rfl
    have g1 := MQ.out.cell 1 rfl
    have g2 := MQ.out.cell 2 rfl
    have g3 := MQ.out.cell 3 rfl
    have g4 := MQ.out.cell 4 rfl
    have g5 := MQ.out.cell 5 rfl
    have g6 := MQ.out.cell 6 rfl
    have g7 := MQ.out.cell 7 rfl
    have f0 := MQ.out.frozen 0
    have f1 := MQ.out.frozen 1
    have f2 := MQ.out.frozen 2
    have f3 := MQ.out.frozen 3
    have f4 := MQ.out.frozen 4
    have f5 := MQ.out.frozen 5
    have f6 := MQ.out.frozen 6
    have f7 := MQ.out.frozen 7
    have Q1 := hide (MQ.out.sets [.int .i64 pt, .int .i64 b, .int .i64 r, .int .i64 m, .int .i64 st, .string im, .slice va fn vc, .int .i64 rd] rfl)
    have Q2 := hide (LOwn.fars HVQ.out [.int .i64 pt, .int .i64 b, .int .i64 r, .int .i64 m, .int .i64 st, .string im, .slice va fn vc, .int .i64 rd] 0 MV.out)
    have Q3 := hide (below_sets (Nat.le_of_lt HQ0.out) [.int .i64 pt, .int .i64 b, .int .i64 r, .int .i64 m, .int .i64 st, .string im, .slice va fn vc, .int .i64 rd] 0 MD.out)
    go_wp2
    obtain ⟨W9, hW9⟩ : ∃ W9, ((((((((W4.setCell ⟨q, 0, none⟩ (.int .i64 pt)).setCell ⟨q, 1, none⟩ (.int .i64 b)).setCell ⟨q, 2, none⟩ (.int .i64 r)).setCell ⟨q, 3, none⟩ (.int .i64 m)).setCell ⟨q, 4, none⟩ (.int .i64 st)).setCell ⟨q, 5, none⟩ (.string im)).setCell ⟨q, 6, none⟩ (.slice va fn vc)).setCell ⟨q, 7, none⟩ (.int .i64 rd)) = W9 := ⟨_, rfl⟩
    simp only [hW9]
    rw [show W4.setCells q 0 [.int .i64 pt, .int .i64 b, .int .i64 r, .int .i64 m, .int .i64 st, .string im, .slice va fn vc, .int .i64 rd] = W9 from hW9] at Q1 Q2 Q3
    clear hW9
    have e0 := Q1.out.cell 0 rfl
    have e1 := Q1.out.cell 1 rfl
    have e2 := Q1.out.cell 2 rfl
    have e3 := Q1.out.cell 3 rfl
    have e4 := Q1.out.cell 4 rfl
    have e5 := Q1.out.cell 5 rfl
    have e6 := Q1.out.cell 6 rfl
    have e7 := Q1.out.cell 7 rfl
    refine bodyPost_ret (v := .agg #[.int .i64 pt, .int .i64 b, .int .i64 r, .int .i64 m, .int .i64 st, .string im, .slice va fn vc, .int .i64 rd]) (by simp [results, Tryd.results38, go_sem, e0, e1, e2, e3, e4, e5, e6, e7]) rfl ?_
    exact ⟨va, vc, rfl, Q2.out.weaken (Nat.le_of_lt HWL.out.1), Q3.out⟩
  | some ad =>
    go_upto_region 2 with (at_builtin; refine append_list rfl (.tmp 3) (.tmp 5) 24 4 rfl Tryd.underlying24 HI.out rfl (by decide) W.heap.size _ 0 [] rfl (World.ownsRow_lit W #[] 0 (Nat.le_refl _) (by decide) rfl) (some ad) fn fc (F.flatMap bvl) rfl (HF.out.row.below BE.out) ONE.out (by unfold maxLen; omega) (by omega) BE.out.size ?_; intro v2 w2 h2 b2; rw [List.nil_append, Nat.zero_add] at h2; have HV : Hid (FlOwn w2 W.heap.size v2 F) := (by rw [← hFs] at h2; exact h2); have D2 := hide (BE.out.trans b2); clear h2 b2; obtain ⟨K0, K1⟩ := HOB.out _ D2.out; have HK0 := hide K0; have HK1 := hide K1; obtain ⟨va, vc, hv, -⟩ := HV.out.rcs; rw [hFs] at hv; subst hv; have c6 := K0.cell 6 rfl; have z6 := K0.frozen 6; clear K0 K1)
    have HV0 := hide (HV.out.off HWL.out.1)
    have HVQ := hide (HV.out.off HWL.out.2)
    have M0 := hide (HK0.out.set 6 (.slice va fn vc))
    have MQ := hide (HK1.out.other ⟨w.heap.size, 6, none⟩ (.slice va fn vc) (Ne.symm (Nat.ne_of_lt HQ0.out)))
    have MV := hide (HV.out.far (p := ⟨w.heap.size, 6, none⟩) HV0.out (.slice va fn vc))
    have MD := hide ((chain HD.out D2.out).setCell (p := ⟨w.heap.size, 6, none⟩) (Nat.le_refl _) (.slice va fn vc))
    obtain ⟨W4, hW4⟩ : ∃ W4, w2.setCell ⟨w.heap.size, 6, none⟩ (.slice va fn vc) = W4 := ⟨_, rfl⟩
    rw [hW4] at M0 MQ MV MD
    simp only [hW4]
    replace M0 : Hid (Bk W4 w.heap.size [.int .i64 pt, .int .i64 b, .int .i64 r, .int .i64 m, .int .i64 st, .string im, .slice va fn vc, .int .i64 rd] 26) := M0
    clear hW4 c6 z6 HK0 HK1 HV D2 HB0 HB1 HF HOB BE HI ONE a6
    have c0 := M0.out.cell 0 rfl
    have c1 := M0.out.cell 1 rfl
    have c2 := M0.out.cell 2 rfl
    have c3 := M0.out.cell 3 rfl
    have c4 := M0.out.cell 4 rfl
    have c5 := M0.out.cell 5 rfl
    have c6 := M0.out.cell 6 rfl
    have c7 := M0.out.cell 7 rfl
    have g0 := MQ.out.cell 0 rfl
    have g1 := MQ.out.cell 1 rfl
    have g2 := MQ.out.cell 2 rfl
    have g3 := MQ.out.cell 3 rfl
    have g4 := MQ.out.cell 4 rfl
    have g5 := MQ.out.cell 5 rfl
    have g6 := MQ.out.cell 6 rfl
    have g7 := MQ.out.cell 7 rfl
    have f0 := MQ.out.frozen 0
    have f1 := MQ.out.frozen 1
    have f2 := MQ.out.frozen 2
    have f3 := MQ.out.frozen 3
    have f4 := MQ.out.frozen 4
    have f5 := MQ.out.frozen 5
    have f6 := MQ.out.frozen 6
    have f7 := MQ.out.frozen 7
    have Q1 := hide (MQ.out.sets [.int .i64 pt, .int .i64 b, .int .i64 r, .int .i64 m, .int .i64 st, .string im, .slice va fn vc, .int .i64 rd] rfl)
    have Q2 := hide (LOwn.fars HVQ.out [.int .i64 pt, .int .i64 b, .int .i64 r, .int .i64 m, .int .i64 st, .string im, .slice va fn vc, .int .i64 rd] 0 MV.out)
    have Q3 := hide (below_sets (Nat.le_of_lt HQ0.out) [.int .i64 pt, .int .i64 b, .int .i64 r, .int .i64 m, .int .i64 st, .string im, .slice va fn vc, .int .i64 rd] 0 MD.out)
    go_wp2
    obtain ⟨W9, hW9⟩ : ∃ W9, ((((((((W4.setCell ⟨q, 0, none⟩ (.int .i64 pt)).setCell ⟨q, 1, none⟩ (.int .i64 b)).setCell ⟨q, 2, none⟩ (.int .i64 r)).setCell ⟨q, 3, none⟩ (.int .i64 m)).setCell ⟨q, 4, none⟩ (.int .i64 st)).setCell ⟨q, 5, none⟩ (.string im)).setCell ⟨q, 6, none⟩ (.slice va fn vc)).setCell ⟨q, 7, none⟩ (.int .i64 rd)) = W9 := ⟨_, rfl⟩
    simp only [hW9]
    rw [show W4.setCells q 0 [.int .i64 pt, .int .i64 b, .int .i64 r, .int .i64 m, .int .i64 st, .string im, .slice va fn vc, .int .i64 rd] = W9 from hW9] at Q1 Q2 Q3
    clear hW9
    have e0 := Q1.out.cell 0 rfl
    have e1 := Q1.out.cell 1 rfl
    have e2 := Q1.out.cell 2 rfl
    have e3 := Q1.out.cell 3 rfl
    have e4 := Q1.out.cell 4 rfl
    have e5 := Q1.out.cell 5 rfl
    have e6 := Q1.out.cell 6 rfl
    have e7 := Q1.out.cell 7 rfl
    refine bodyPost_ret (v := .agg #[.int .i64 pt, .int .i64 b, .int .i64 r, .int .i64 m, .int .i64 st, .string im, .slice va fn vc, .int .i64 rd]) (by simp [results, Tryd.results38, go_sem, e0, e1, e2, e3, e4, e5, e6, e7]) rfl ?_
    exact ⟨va, vc, rfl, Q2.out.weaken (Nat.le_of_lt HWL.out.1), Q3.out⟩
end Go.Proofs.YtnopclacchoijaaDoor
