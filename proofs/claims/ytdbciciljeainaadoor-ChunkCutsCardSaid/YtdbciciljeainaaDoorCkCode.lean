/-
  The law's code; the document's Put.
-/
import Derived.Test.YtdbciciljeainaaDoorCkDoc
import Derived.Test.YtdbciciljeainaaDoorErrHitQ
import Derived.Test.YtdbciciljeainaaDoorPlainQ
namespace Go.Proofs.YtdbciciljeainaaDoor
open Go.RowKit FerryCrc
set_option linter.unusedVariables false
set_option linter.unusedSimpArgs false

set_option maxRecDepth 100000 in
theorem lcode_any {w : World} {E : Nat → Addr} (he : Errs w E) (i : Nat) (hi : i ≤ 20) :
    Calls Tryd.prog 10 #[erv E i] w fun e w' => e = .returned (.int .i64 (i : Int)) ∧ Below w.heap.size w w' := by
  have hv := erv_bare E i hi
  have H1 := hide (place_bare he _ i hv)
  have HE := hide he
  have HV := hide hv
  clear he hv
  generalize erv E i = v at *
  go_enter Tryd.func10, Tryd.ntmps10
  go_wp2_with fail
  refine Calls.mono H1.out ?_
  rintro e w1 ⟨rfl, b1⟩
  have H2 := hide (code_any (HE.out.below b1) _ i _ (HV.out.err (w := w1)))
  have B1 := hide b1
  clear b1
  go_wp2_with fail
  refine Calls.mono H2.out ?_
  rintro e w2 ⟨rfl, rfl⟩
  go_wp2
  go_ret
  exact ⟨rfl, B1.out⟩

set_option maxRecDepth 100000 in
set_option maxHeartbeats 4000000 in
theorem rput_any (k pt b r m st ix tt sm : Int) (d : ByteArray) {w : World} (hd : d.size ≤ 9223372036854775807) (h1 : -9223372036854775808 ≤ tt) (h2 : tt ≤ 9223372036854775807) (s0 : 0 ≤ sm) (s1 : sm < 4294967296) :
    Calls Tryd.prog 9 #[.agg #[.int .i64 k, .int .i64 pt, .int .i64 b, .int .i64 r, .int .i64 m, .int .i64 st, .int .i64 ix, .int .i64 tt, .int .u32 sm, .string d]] w fun e w' => e = .returned (.tuple #[.string (putS ⟨k, pt, b, r, m, st, ix, tt, sm, d⟩), .int .i64 (chk ⟨k, pt, b, r, m, st, ix, tt, sm, d⟩ : Int)]) ∧ Below w.heap.size w w' := by
  obtain ⟨W, hW, B0, D0⟩ := box1 w [.int .i64 k, .int .i64 pt, .int .i64 b, .int .i64 r, .int .i64 m, .int .i64 st, .int .i64 ix, .int .i64 tt, .int .u32 sm, .string d] 26
  have HB := hide B0
  have HD := hide D0
  have HW := hide hW
  have HC := hide (rcheck_any k pt b r m st ix tt sm d W hd h1 h2)
  have HL : Hid (∀ wx, chk ⟨k, pt, b, r, m, st, ix, tt, sm, d⟩ = 0 → Calls Tryd.prog 32 #[.agg #[.int .i64 k, .int .i64 pt, .int .i64 b, .int .i64 r, .int .i64 m, .int .i64 st, .int .i64 ix, .int .i64 tt, .int .u32 sm, .string d]] wx fun e w' => e = .returned (.string (str (sealOf (body ⟨k, pt, b, r, m, st, ix, tt, sm, d⟩)))) ∧ Below wx.heap.size wx w') := fun wx h => rlay_any k pt b r m st ix tt sm d h s0 s1
  obtain ⟨R, hR⟩ : ∃ R, chk ⟨k, pt, b, r, m, st, ix, tt, sm, d⟩ = R := ⟨_, rfl⟩
  obtain ⟨V, hV⟩ : ∃ V, putS ⟨k, pt, b, r, m, st, ix, tt, sm, d⟩ = V := ⟨_, rfl⟩
  rw [hR] at HC HL
  have HV : Hid (V = if R = 0 then str (sealOf (body ⟨k, pt, b, r, m, st, ix, tt, sm, d⟩)) else ⟨#[]⟩) := by rw [← hV, ← hR]; rfl
  rw [hR, hV]
  obtain ⟨g, hg⟩ : ∃ g, w.heap.size = g := ⟨_, rfl⟩
  rw [hg] at HB
  have HG := hide hg
  clear B0 D0 hW hR hV hg hd h1 h2 s0 s1
  go_enter Tryd.func9, Tryd.ntmps9
  go_upto_region 1 with fail
  have hW := HW.out
  have hg := HG.out
  simp only [hW, hg]
  clear hW hg HW HG
  have c0 := HB.out.cell 0 rfl
  have c1 := HB.out.cell 1 rfl
  have c2 := HB.out.cell 2 rfl
  have c3 := HB.out.cell 3 rfl
  have c4 := HB.out.cell 4 rfl
  have c5 := HB.out.cell 5 rfl
  have c6 := HB.out.cell 6 rfl
  have c7 := HB.out.cell 7 rfl
  have c8 := HB.out.cell 8 rfl
  have c9 := HB.out.cell 9 rfl
  go_wp2_with fail
  refine Calls.mono HC.out ?_
  rintro e w1 ⟨rfl, b1⟩
  replace HB := hide (HB.out.below b1)
  replace HD := hide (chain HD.out b1)
  clear b1 HC c0 c1 c2 c3 c4 c5 c6 c7 c8 c9
  by_cases hX : R = 0
  · subst hX
    have c0 := HB.out.cell 0 rfl
    have c1 := HB.out.cell 1 rfl
    have c2 := HB.out.cell 2 rfl
    have c3 := HB.out.cell 3 rfl
    have c4 := HB.out.cell 4 rfl
    have c5 := HB.out.cell 5 rfl
    have c6 := HB.out.cell 6 rfl
    have c7 := HB.out.cell 7 rfl
    have c8 := HB.out.cell 8 rfl
    have c9 := HB.out.cell 9 rfl
    have HV2 : Hid (V = str (sealOf (body ⟨k, pt, b, r, m, st, ix, tt, sm, d⟩))) := by rw [HV.out]; rfl
    go_wp2_with fail
    refine Calls.mono (HL.out _ (by trivial)) ?_
    rintro e w2 ⟨rfl, b1⟩
    replace HD := hide (chain HD.out b1)
    clear b1
    go_wp2
    go_ret2
    exact ⟨by rw [HV2.out]; rfl, HD.out⟩
  · have d1 : ((R : Int) != 0) = true := by simp; omega
    have d2 : (R != 0) = true := by simp; omega
    have HV2 : Hid (V = ⟨#[]⟩) := by rw [HV.out]; exact if_neg hX
    go_wp2
    go_ret2
    exact ⟨by rw [HV2.out]; rfl, HD.out⟩
end Go.Proofs.YtdbciciljeainaaDoor
