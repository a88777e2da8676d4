/-
  The program's Answer with an acknowledgement.
-/
import Derived.Test.YtnopclacchoijaaDoorXfAdd
namespace Go.Proofs.YtnopclacchoijaaDoor
open Go.RowKit FerryCrc
set_option linter.unusedVariables false
set_option linter.unusedSimpArgs false

def ansE (n : Nt) : Nat := if chk n = 0 then (if n.kind = 1 then 0 else 12) else chk n
def ansN (n : Nt) : Nt := if ansE n = 0 then ⟨7, n.part, n.boot, n.peer, n.num, n.stage, n.index, n.total, 0, ⟨#[]⟩⟩ else zNt

set_option maxRecDepth 100000 in
set_option maxHeartbeats 4000000 in
theorem answer_any (k pt b r m st ix tt sm : Int) (d : ByteArray) {w : World} {E : Nat → Addr} (he : Er7 w E) (hd : d.size ≤ 9223372036854775807) (h1 : -9223372036854775808 ≤ tt) (h2 : tt ≤ 9223372036854775807) (hc : chk ⟨k, pt, b, r, m, st, ix, tt, sm, d⟩ = 0) (hk : k = 1) :
    Calls Tryd.prog 59 #[.agg #[.int .i64 k, .int .i64 pt, .int .i64 b, .int .i64 r, .int .i64 m, .int .i64 st, .int .i64 ix, .int .i64 tt, .int .u32 sm, .string d], .int .i64 7, .int .u32 0] w fun e w' => e = .returned (.tuple #[.agg (ansN ⟨k, pt, b, r, m, st, ix, tt, sm, d⟩).cells.toArray, erv E (ansE ⟨k, pt, b, r, m, st, ix, tt, sm, d⟩)]) ∧ Below w.heap.size w w' := by
  obtain ⟨N, hN⟩ : ∃ N : Nt, N = ⟨k, pt, b, r, m, st, ix, tt, sm, d⟩ := ⟨_, rfl⟩
  rw [← hN]
  have HC1 := hide (fun (w' : World) (h : Er7 w' E) => check_any k pt b r m st ix tt sm d h hd h1 h2)
  rw [← hN] at HC1
  obtain ⟨W, hW, B0, B2, D0⟩ := box2 w [.int .i64 k, .int .i64 pt, .int .i64 b, .int .i64 r, .int .i64 m, .int .i64 st, .int .i64 ix, .int .i64 tt, .int .u32 sm, .string d] 34 [.int .i64 0, .int .i64 0, .int .i64 0, .int .i64 0, .int .i64 0, .int .i64 0, .int .i64 0, .int .i64 0, .int .u32 0, .string ⟨#[]⟩] 34
  obtain ⟨q, hq⟩ : ∃ q, w.heap.size + 1 = q := ⟨_, rfl⟩
  have HQ0 : Hid (w.heap.size < q) := by unfold Hid; omega
  rw [hq] at B2
  have HB0 := hide B0
  have HB2 := hide B2
  have HD := hide D0
  have HWD := hide hW
  have HE := hide (he.below D0)
  have HE0 := hide he
  have HN := hide hN
  have HQQ := hide hq
  have HCK := hide (And.intro hc hk)
  rw [← hN] at HCK
  clear B0 B2 D0 hW hN he h1 h2 hd hq hc hk
  go_enter Tryd.func59, Tryd.ntmps59
  go_upto_region 1 with fail
  have hW := HWD.out
  have hq := HQQ.out
  clear HWD HQQ
  simp only [hW, hq]
  clear hW hq
  have g0 := HB0.out.cell 0 rfl
  have g1 := HB0.out.cell 1 rfl
  have g2 := HB0.out.cell 2 rfl
  have g3 := HB0.out.cell 3 rfl
  have g4 := HB0.out.cell 4 rfl
  have g5 := HB0.out.cell 5 rfl
  have g6 := HB0.out.cell 6 rfl
  have g7 := HB0.out.cell 7 rfl
  have g8 := HB0.out.cell 8 rfl
  have g9 := HB0.out.cell 9 rfl
  go_wp2_with fail
  refine Calls.mono (HC1.out W HE.out) ?_
  rintro e w1 ⟨rfl, b1⟩
  replace HB0 := hide (HB0.out.below b1)
  replace HB2 := hide (HB2.out.below b1)
  replace HD := hide (chain HD.out b1)
  replace HE := hide (HE.out.below b1)
  clear b1 HC1 g0 g1 g2 g3 g4 g5 g6 g7 g8 g9
  · obtain ⟨hc, hk⟩ := HCK.out
    clear HCK
    rw [hc, show erv E 0 = .nilIface from rfl]
    have g0 := HB0.out.cell 0 rfl
    · subst hk
      have HF : Hid (ansN N = ⟨7, pt, b, r, m, st, ix, tt, 0, ⟨#[]⟩⟩ ∧ ansE N = 0) := by
        have h9 : ansE N = 0 := by unfold ansE; rw [if_pos hc, if_pos (by rw [HN.out])]
        exact ⟨by unfold ansN; rw [if_pos h9, HN.out], h9⟩
      clear hc
      have g0 := HB0.out.cell 0 rfl
      have g1 := HB0.out.cell 1 rfl
      have g2 := HB0.out.cell 2 rfl
      have g3 := HB0.out.cell 3 rfl
      have g4 := HB0.out.cell 4 rfl
      have g5 := HB0.out.cell 5 rfl
      have g6 := HB0.out.cell 6 rfl
      have g7 := HB0.out.cell 7 rfl
      go_upto_region 15 with fail
      obtain ⟨W3, hW3, B3, D3⟩ := box1 w1 [.int .i64 7, .int .i64 pt, .int .i64 b, .int .i64 r, .int .i64 m, .int .i64 st, .int .i64 0, .int .i64 0, .int .u32 0, .string ⟨#[]⟩] 34
      obtain ⟨g, hgq⟩ : ∃ g, w1.heap.size = g := ⟨_, rfl⟩
      rw [hgq] at B3
      have HB3 := hide B3
      have HW3 := hide hW3
      have HGQ := hide hgq
      have hl2 := HB2.out.lt
      have hl0 := HB0.out.lt
      have HNG : Hid (q ≠ g ∧ w.heap.size ≠ g ∧ w.heap.size ≤ g) := ⟨by omega, by omega, by omega⟩
      replace HB0 := hide (HB0.out.below D3)
      replace HB2 := hide (HB2.out.below D3)
      replace HD := hide (chain HD.out D3)
      clear B3 D3 hW3 hgq hl2 hl0
      go_upto_region 17 with fail
      have hW3 := HW3.out
      have hgq := HGQ.out
      simp only [hW3, hgq]
      clear HW3 HGQ hW3 hgq g0 g1 g2 g3 g4 g5 g6 g7
      have g6 := HB0.out.cell 6 rfl
      have g7 := HB0.out.cell 7 rfl
      have c6 := HB3.out.cell 6 rfl
      have c7 := HB3.out.cell 7 rfl
      have z6 := HB3.out.frozen 6
      have z7 := HB3.out.frozen 7
      have K3 := hide ((HB3.out.set 6 (.int .i64 ix)).set 7 (.int .i64 tt))
      have K2 := hide ((HB2.out.other ⟨g, 6, none⟩ (.int .i64 ix) HNG.out.1).other ⟨g, 7, none⟩ (.int .i64 tt) HNG.out.1)
      have KD := hide ((HD.out.setCell (p := ⟨g, 6, none⟩) HNG.out.2.2 (.int .i64 ix)).setCell (p := ⟨g, 7, none⟩) HNG.out.2.2 (.int .i64 tt))
      go_region
      go_upto_region 18 with fail
      obtain ⟨W5, hW5⟩ : ∃ W5, (W3.setCell ⟨g, 6, none⟩ (.int .i64 ix)).setCell ⟨g, 7, none⟩ (.int .i64 tt) = W5 := ⟨_, rfl⟩
      rw [hW5] at K3 K2 KD
      simp only [hW5]
      replace K3 : Hid (Bk W5 g [.int .i64 7, .int .i64 pt, .int .i64 b, .int .i64 r, .int .i64 m, .int .i64 st, .int .i64 ix, .int .i64 tt, .int .u32 0, .string ⟨#[]⟩] 34) := K3
      clear hW5 g6 g7 c6 c7 z6 z7 HB0 HB2 HB3 HD
      replace K3 := hide (K3.out.below (Below.refl _ _).drew)
      replace K2 := hide (K2.out.below (Below.refl _ _).drew)
      replace KD := hide KD.out.drew
      have c0 := K3.out.cell 0 rfl
      have c1 := K3.out.cell 1 rfl
      have c2 := K3.out.cell 2 rfl
      have c3 := K3.out.cell 3 rfl
      have c4 := K3.out.cell 4 rfl
      have c5 := K3.out.cell 5 rfl
      have c6 := K3.out.cell 6 rfl
      have c7 := K3.out.cell 7 rfl
      have c8 := K3.out.cell 8 rfl
      have c9 := K3.out.cell 9 rfl
      have g0 := K2.out.cell 0 rfl
      have g1 := K2.out.cell 1 rfl
      have g2 := K2.out.cell 2 rfl
      have g3 := K2.out.cell 3 rfl
      have g4 := K2.out.cell 4 rfl
      have g5 := K2.out.cell 5 rfl
      have g6 := K2.out.cell 6 rfl
      have g7 := K2.out.cell 7 rfl
      have g8 := K2.out.cell 8 rfl
      have g9 := K2.out.cell 9 rfl
      have f0 := K2.out.frozen 0
      have f1 := K2.out.frozen 1
      have f2 := K2.out.frozen 2
      have f3 := K2.out.frozen 3
      have f4 := K2.out.frozen 4
      have f5 := K2.out.frozen 5
      have f6 := K2.out.frozen 6
      have f7 := K2.out.frozen 7
      have f8 := K2.out.frozen 8
      have f9 := K2.out.frozen 9
      have hge : w.heap.size ≤ q := Nat.le_of_lt HQ0.out
      have Q1 := hide (K2.out.sets [.int .i64 7, .int .i64 pt, .int .i64 b, .int .i64 r, .int .i64 m, .int .i64 st, .int .i64 ix, .int .i64 tt, .int .u32 0, .string ⟨#[]⟩] rfl)
      have Q3 := hide (below_sets hge [.int .i64 7, .int .i64 pt, .int .i64 b, .int .i64 r, .int .i64 m, .int .i64 st, .int .i64 ix, .int .i64 tt, .int .u32 0, .string ⟨#[]⟩] 0 KD.out)
      clear hge
      generalize W5.drew = W6 at *
      go_wp2
      obtain ⟨W9, hW9⟩ : ∃ W9, ((((((((((W6.setCell ⟨q, 0, none⟩ (.int .i64 7)).setCell ⟨q, 1, none⟩ (.int .i64 pt)).setCell ⟨q, 2, none⟩ (.int .i64 b)).setCell ⟨q, 3, none⟩ (.int .i64 r)).setCell ⟨q, 4, none⟩ (.int .i64 m)).setCell ⟨q, 5, none⟩ (.int .i64 st)).setCell ⟨q, 6, none⟩ (.int .i64 ix)).setCell ⟨q, 7, none⟩ (.int .i64 tt)).setCell ⟨q, 8, none⟩ (.int .u32 0)).setCell ⟨q, 9, none⟩ (.string ⟨#[]⟩)) = W9 := ⟨_, rfl⟩
      simp only [hW9]
      rw [show W6.setCells q 0 [.int .i64 7, .int .i64 pt, .int .i64 b, .int .i64 r, .int .i64 m, .int .i64 st, .int .i64 ix, .int .i64 tt, .int .u32 0, .string ⟨#[]⟩] = W9 from hW9] at Q1 Q3
      clear hW9
      have e0 := Q1.out.cell 0 rfl
      have e1 := Q1.out.cell 1 rfl
      have e2 := Q1.out.cell 2 rfl
      have e3 := Q1.out.cell 3 rfl
      have e4 := Q1.out.cell 4 rfl
      have e5 := Q1.out.cell 5 rfl
      have e6 := Q1.out.cell 6 rfl
      have e7 := Q1.out.cell 7 rfl
      have e8 := Q1.out.cell 8 rfl
      have e9 := Q1.out.cell 9 rfl
      refine bodyPost_ret (v := .tuple #[.agg #[.int .i64 7, .int .i64 pt, .int .i64 b, .int .i64 r, .int .i64 m, .int .i64 st, .int .i64 ix, .int .i64 tt, .int .u32 0, .string ⟨#[]⟩], .nilIface]) (by simp [results, Tryd.results59, go_sem, e0, e1, e2, e3, e4, e5, e6, e7, e8, e9]) rfl ?_
      exact ⟨by rw [HF.out.1, HF.out.2]; rfl, Q3.out⟩
end Go.Proofs.YtnopclacchoijaaDoor
