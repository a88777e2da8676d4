/-
  The walk of XferStarts: every Start is the document's.
-/
import Derived.Test.YtnopclacchoijaaDoorXfAwake
import Derived.Test.YtnopclacchoijaaDoorXrStart
import Derived.Test.YtnopclacchoijaaDoorXrSame
import Derived.Deep.RegionHeld3
namespace Go.Proofs.YtnopclacchoijaaDoor.xferStarts
open Go.RowKit FerryCrc
set_option linter.unusedVariables false
set_option linter.unusedSimpArgs false

theorem held16 {w : World} {g h : Nat} {s1 s2 s3 s4 s5 s7 : Int} {s6 : ByteArray} {fa fb : Option Addr} {fn fc fd : Nat} {t t' : TypeId} (h0 : Bk w g [.int .i64 s1, .int .i64 s2, .int .i64 s3, .int .i64 s4, .int .i64 s5, .string s6, .slice fa fn fc, .int .i64 s7] t) (h1 : Bk w h [.int .i64 s1, .int .i64 s2, .int .i64 s3, .int .i64 s4, .int .i64 s5, .string s6, .slice fb fn fd, .int .i64 s7] t') :
    w.cell? ⟨g, 0, none⟩ = some (.int .i64 s1) ∧ w.cell? ⟨g, 1, none⟩ = some (.int .i64 s2) ∧ w.cell? ⟨g, 2, none⟩ = some (.int .i64 s3) ∧ w.cell? ⟨g, 3, none⟩ = some (.int .i64 s4) ∧ w.cell? ⟨g, 4, none⟩ = some (.int .i64 s5) ∧ w.cell? ⟨g, 5, none⟩ = some (.string s6) ∧ w.cell? ⟨g, 6, none⟩ = some (.slice fa fn fc) ∧ w.cell? ⟨g, 7, none⟩ = some (.int .i64 s7) ∧ w.cell? ⟨h, 0, none⟩ = some (.int .i64 s1) ∧ w.cell? ⟨h, 1, none⟩ = some (.int .i64 s2) ∧ w.cell? ⟨h, 2, none⟩ = some (.int .i64 s3) ∧ w.cell? ⟨h, 3, none⟩ = some (.int .i64 s4) ∧ w.cell? ⟨h, 4, none⟩ = some (.int .i64 s5) ∧ w.cell? ⟨h, 5, none⟩ = some (.string s6) ∧ w.cell? ⟨h, 6, none⟩ = some (.slice fb fn fd) ∧ w.cell? ⟨h, 7, none⟩ = some (.int .i64 s7) :=
  ⟨h0.cell 0 rfl, h0.cell 1 rfl, h0.cell 2 rfl, h0.cell 3 rfl, h0.cell 4 rfl, h0.cell 5 rfl, h0.cell 6 rfl, h0.cell 7 rfl, h1.cell 0 rfl, h1.cell 1 rfl, h1.cell 2 rfl, h1.cell 3 rfl, h1.cell 4 rfl, h1.cell 5 rfl, h1.cell 6 rfl, h1.cell 7 rfl⟩

set_option maxRecDepth 100000 in
set_option maxHeartbeats 4000000 in
theorem law (nt : Nt) (a : Option Addr) (n c : Nat) (L : List Nat) (w : World) {E : Nat → Addr} (he : Errs w E) (hok : nt.Ok) (hs : Bts w a n c L) (hr : n ≤ 140737488351232) :
    Calls Tryd.prog 4 #[.agg nt.cells.toArray, .slice a n c] w fun e w' => e = .returned (.bool true) ∧ Below w.heap.size w w' := by
  obtain ⟨k, pt, b, r, m, st, ix, tt, sm, d⟩ := nt
  unfold Nt.cells
  simp only
  have hl := hs.size
  obtain ⟨W, hW, B0, D0⟩ := box1 w [.int .i64 k, .int .i64 pt, .int .i64 b, .int .i64 r, .int .i64 m, .int .i64 st, .int .i64 ix, .int .i64 tt, .int .u32 sm, .string d] 34
  have HB0 := hide B0
  have HD := hide D0
  have HWD := hide hW
  have HE := hide he
  have HS := hide hs
  have HAW := hide (awake_any (he.below D0))
  have HC1 := hide (fun (w' : World) (h : Bts w' a n c L) => rstart_any pt b r m st a n c L h)
  have HC2 := hide (fun (w' : World) (h : Errs w' E) (h2 : Bts w' a n c L) => start_any pt b r m st a n c L h h2)
  have HK : Hid (cutE pt b r m st n ≤ 20) := by
    rcases cutE_cases pt b r m st n with h | h | h <;> (unfold Hid; rw [h]; decide)
  obtain ⟨kk, hkk⟩ : ∃ kk, cutE pt b r m st n = kk := ⟨_, rfl⟩
  rw [hkk] at HC1 HC2 HK
  obtain ⟨S, hS⟩ : ∃ S, startS pt b r m st L = S := ⟨_, rfl⟩
  obtain ⟨F, hF⟩ : ∃ F, startA pt b r m st L = F := ⟨_, rfl⟩
  rw [hS, hF] at HC1 HC2
  have HFL : Hid (F.length ≤ 4294967296) := by
    unfold Hid
    rw [← hF]
    unfold startA
    split
    · rename_i h0
      rw [List.length_replicate]
      have h4 := (cutE_ok h0).2
      unfold tot
      omega
    · simp
  have HPL := hide (fun (w' : World) (h : Errs w' E) => plain_any h kk HK.out)
  have HFR := hide (fun (fa : Option Addr) (fn fc : Nat) (w' : World) => from_any S fa fn fc w')
  have HSM := hide (fun (w' : World) (fa fb : Option Addr) (fn fc fd : Nat) (h1 : Fls w' fa fn fc F) (h2 : Fls w' fb fn fd F) (h3 : fn ≤ 4611686018427387904) => rsame_any S fa fb fn fc fd F h1 h2 h3)
  obtain ⟨s1, s2, s3, s4, s5, s6, s7⟩ := S
  unfold Sd.cells at HC1 HC2 HFR HSM
  simp only at HC1 HC2 HFR HSM
  obtain ⟨KE, hKE⟩ : ∃ KE, erv E kk = KE := ⟨_, rfl⟩
  rw [hKE] at HC2 HPL
  clear B0 D0 hW he hs hok hr hkk hS hF hKE
  go_enter Tryd.func4, Tryd.ntmps4
  go_upto_region 1 with fail
  have hW := HWD.out
  simp only [hW]
  clear hW HWD
  go_wp2_with fail
  refine Calls.mono HAW.out ?_
  rintro e w1 ⟨rfl, b1⟩
  replace HB0 := hide (HB0.out.below b1)
  replace HD := hide (chain HD.out b1)
  clear b1 HAW
  have g0 := HB0.out.cell 0 rfl
  have g1 := HB0.out.cell 1 rfl
  have g2 := HB0.out.cell 2 rfl
  have g3 := HB0.out.cell 3 rfl
  have g4 := HB0.out.cell 4 rfl
  have g5 := HB0.out.cell 5 rfl
  go_upto_region 3 with fail
  go_wp2_with fail
  refine Calls.mono (HC1.out w1 (HS.out.below HD.out)) ?_
  rintro e w2 ⟨v, rfl, o2, b2⟩
  obtain ⟨fb, fd, rfl, hf2⟩ := o2.rcs
  obtain ⟨fn, hfn⟩ : ∃ fn, F.length = fn := ⟨_, rfl⟩
  rw [hfn] at hf2 HFL ⊢
  obtain ⟨W3, hW3, B3, D3⟩ := box1 w2 [.int .i64 s1, .int .i64 s2, .int .i64 s3, .int .i64 s4, .int .i64 s5, .string s6, .slice fb fn fd, .int .i64 s7] 26
  obtain ⟨h, hgh⟩ : ∃ h, w2.heap.size = h := ⟨_, rfl⟩
  rw [hgh] at B3
  have HH := hide B3
  have HW3 := hide hW3
  have HGH := hide hgh
  have HF2 := hide (hf2.below D3)
  replace HB0 := hide ((HB0.out.below b2).below D3)
  replace HD := hide (chain (chain HD.out b2) D3)
  clear B3 D3 hW3 hgh o2 b2 hf2 HC1 g0 g1 g2 g3 g4 g5
  go_upto_region 4 with fail
  have hW3 := HW3.out
  have hgh := HGH.out
  simp only [hW3, hgh]
  clear HW3 HGH hW3 hgh
  have g0 := HB0.out.cell 0 rfl
  have g1 := HB0.out.cell 1 rfl
  have g2 := HB0.out.cell 2 rfl
  have g3 := HB0.out.cell 3 rfl
  have g4 := HB0.out.cell 4 rfl
  have g5 := HB0.out.cell 5 rfl
  go_wp2_with fail
  refine Calls.mono (HC2.out W3 (HE.out.below HD.out) (HS.out.below HD.out)) ?_
  rintro e w4 ⟨v, rfl, o4, b4⟩
  obtain ⟨fa, fc, rfl, hf4⟩ := o4.rcs
  rw [hfn] at hf4 ⊢
  obtain ⟨W5, hW5, B5, D5⟩ := box1 w4 [.int .i64 s1, .int .i64 s2, .int .i64 s3, .int .i64 s4, .int .i64 s5, .string s6, .slice fa fn fc, .int .i64 s7] 48
  obtain ⟨g, hgg⟩ : ∃ g, w4.heap.size = g := ⟨_, rfl⟩
  rw [hgg] at B5
  have HG := hide B5
  have HW5 := hide hW5
  have HGG := hide hgg
  have HF4 := hide (hf4.below D5)
  replace HF2 := hide ((HF2.out.below b4).below D5)
  replace HH := hide ((HH.out.below b4).below D5)
  replace HD := hide (chain (chain HD.out b4) D5)
  clear B5 D5 hW5 hgg o4 b4 hf4 HC2 g0 g1 g2 g3 g4 g5 hfn
  go_upto_region 5 with fail
  have hW5 := HW5.out
  have hgg := HGG.out
  simp only [hW5, hgg]
  clear HW5 HGG hW5 hgg
  have G0 := hide (HG.out.below (Below.refl _ W5).drew)
  have G1 := hide (HH.out.below (Below.refl _ W5).drew)
  have ED := hide (HE.out.below HD.out.drew)
  have DD := hide HD.out.drew
  have FA := hide (HF4.out.below (Below.refl _ W5).drew)
  have FB := hide (HF2.out.below (Below.refl _ W5).drew)
  go_region_held3 (fun wz => wz.cell? ⟨g, 0, none⟩ = some (.int .i64 s1) ∧ wz.cell? ⟨g, 1, none⟩ = some (.int .i64 s2) ∧ wz.cell? ⟨g, 2, none⟩ = some (.int .i64 s3) ∧ wz.cell? ⟨g, 3, none⟩ = some (.int .i64 s4) ∧ wz.cell? ⟨g, 4, none⟩ = some (.int .i64 s5) ∧ wz.cell? ⟨g, 5, none⟩ = some (.string s6) ∧ wz.cell? ⟨g, 6, none⟩ = some (.slice fa fn fc) ∧ wz.cell? ⟨g, 7, none⟩ = some (.int .i64 s7) ∧ wz.cell? ⟨h, 0, none⟩ = some (.int .i64 s1) ∧ wz.cell? ⟨h, 1, none⟩ = some (.int .i64 s2) ∧ wz.cell? ⟨h, 2, none⟩ = some (.int .i64 s3) ∧ wz.cell? ⟨h, 3, none⟩ = some (.int .i64 s4) ∧ wz.cell? ⟨h, 4, none⟩ = some (.int .i64 s5) ∧ wz.cell? ⟨h, 5, none⟩ = some (.string s6) ∧ wz.cell? ⟨h, 6, none⟩ = some (.slice fb fn fd) ∧ wz.cell? ⟨h, 7, none⟩ = some (.int .i64 s7)) (first | exact held16 G0.out G1.out | exact held16 K0.out K1.out | exact held16 M0.out M1.out | exact held16 N0.out N1.out) (first | (go_at_call 18; refine Calls.mono (HPL.out _ ED.out) ?_; rintro e w5 ⟨rfl, b5⟩; have D6 := hide (chain DD.out b5); have K0 := hide (G0.out.below b5); have K1 := hide (G1.out.below b5); have FA5 := hide (FA.out.below b5); have FB5 := hide (FB.out.below b5); clear b5) | (go_at_call 22; refine Calls.mono (HFR.out fa fn fc _) ?_; rintro e w6 ⟨rfl, b6⟩; have D7 := hide (chain D6.out b6); have M0 := hide (K0.out.below b6); have M1 := hide (K1.out.below b6); have FA6 := hide (FA5.out.below b6); have FB6 := hide (FB5.out.below b6); clear b6) | (go_at_call 21; refine Calls.mono (HSM.out _ fa fb fn fc fd FA6.out FB6.out (Nat.le_trans HFL.out (by decide))) ?_; rintro e w7 ⟨rfl, b7⟩; have D8 := hide (chain D7.out b7); have N0 := hide (M0.out.below b7); have N1 := hide (M1.out.below b7); clear b7) | fail)
  go_wp2
  go_ret
  exact ⟨rfl, D8.out⟩
end Go.Proofs.YtnopclacchoijaaDoor.xferStarts
