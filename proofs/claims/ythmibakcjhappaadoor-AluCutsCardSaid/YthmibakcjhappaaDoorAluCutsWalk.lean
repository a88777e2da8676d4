/-
  Walk of the law AluCuts.
-/
import Derived.Test.YthmibakcjhappaaDoorCuts
import Derived.LoopTactic
import Derived.Deep.RegionHeld3
namespace Go.Proofs.YthmibakcjhappaaDoor.aluCuts
open Go.RowKit FerryAlu
set_option linter.unusedVariables false

theorem undrew {w w' : World} (h : Below w.drew.heap.size w.drew w') : Below w.heap.size w w' := (Below.refl _ _).drew.trans h
theorem field1 (w : World) : Calls Tryd.prog 11 #[.int .u32 305419896, .int .i64 8, .int .i64 8] w fun e w' => e = .returned (.tuple #[.int .u32 86, .nilIface]) ∧ Below w.heap.size w w' := field_any 305419896 8 8 w (by decide) (by decide) (by decide)

set_option maxRecDepth 100000 in
set_option maxHeartbeats 800000 in
theorem law {E : Nat → Addr} (a : Option Addr) (len cap : Nat) (C : Nat → Cut) (w : World) (he : Errs w E) (hc : Cuts w a len C) :
    Calls Tryd.prog 4 #[.slice a len cap] w fun e w' => e = .returned (.bool true) ∧ Below w.heap.size w w' := by
  have HE := hide he
  have HC := hide hc
  have hm := hc.most
  have F := hide (field1 w)
  clear he hc
  go_enter Tryd.func4, Tryd.ntmps4
  go_wp2_with fail
  refine Calls.mono F.out ?_
  rintro e w0 ⟨rfl, b0⟩
  have B0 := hide b0
  clear b0
  go_wp2_with fail
  go_loopw [5] (fun i wr => ∃ k : Nat, k ≤ len ∧ i = .int .i64 (k : Int) ∧ Below w.heap.size w wr) (fun i _ => len - (intOf i).toNat)
  case atStart => exact ⟨0, by omega, rfl, B0.out⟩
  case round =>
    obtain ⟨k, hk, rfl, hB⟩ := hrel
    have HB := hide hB
    clear hB
    by_cases hlt : k < len
    · obtain ⟨b, off, rfl, ok, c0, c1, c2, c3, c4⟩ := (HC.out.below HB.out).cell k hlt
      have HO := hide ok
      clear ok
      have hx := HO.out.x
      have hv := HO.out.v
      have hl1 := HO.out.lo1
      have hl2 := HO.out.lo2
      have hn1 := HO.out.n1
      have hn2 := HO.out.n2
      obtain ⟨r1, i1, v1, g1, p1, q1⟩ := word_both E (C k).num HO.out.m1 HO.out.m2
      obtain ⟨r2, i2, v2, g2, p2, q2⟩ := sext_both E (C k).x (C k).n hx
      obtain ⟨r3, i3, v3, g3, p3, q3⟩ := field_both E (C k).x (C k).lo (C k).n hx hl1 hl2 hn1 hn2
      obtain ⟨r4, i4, v4, g4, p4, q4⟩ := place_both E (C k).x (C k).v (C k).lo (C k).n hx hv hl1 hl2 hn1 hn2
      have S1 := hide (fun w => signed_any (C k).x w hx)
      have S2 := hide (fun w => refSigned_any (C k).x w hx)
      have G1 := hide g1
      have P1 := hide p1
      have Q1 := hide q1
      have G2 := hide g2
      have P2 := hide p2
      have Q2 := hide q2
      have G3 := hide g3
      have P3 := hide p3
      have Q3 := hide q3
      have G4 := hide g4
      have P4 := hide p4
      have Q4 := hide q4
      clear g1 g2 g3 g4 p1 p2 p3 p4 q1 q2 q3 q4 hx hv hl1 hl2 hn1 hn2 HO
      generalize (C k).x = x at *
      generalize (C k).lo = lo at *
      generalize (C k).n = n at *
      generalize (C k).v = v at *
      generalize (C k).num = num at *
      generalize sg x = sx at *
      go_wp2_with fail
      have X0 := hide (Box.new wr 41 (x : Int) lo n (v : Int) num)
      have D0 : Hid (Below w.heap.size w (wr.alloc (.cells #[.int .u32 (x : Int), .int .i64 lo, .int .i64 n, .int .u32 (v : Int), .int .i64 num] 41))) := HB.out.alloc HB.out.size _
      have E0 := hide (HE.out.below D0.out)
      clear c0 c1 c2 c3 c4
      generalize wr.alloc (.cells #[.int .u32 (x : Int), .int .i64 lo, .int .i64 n, .int .u32 (v : Int), .int .i64 num] 41) = W0 at *
      generalize wr.heap.size = B at *
      refine Calls.mono (P1.out _ E0.out) ?_
      rintro e W1 ⟨rfl, b⟩
      have X1 := hide (X0.out.below b)
      have E1 := hide (E0.out.below b)
      have D1 := hide (chain D0.out b)
      clear b  X0 E0 D0
      have f0 := X1.out.c0
      have f1 := X1.out.c1
      have f2 := X1.out.c2
      have f3 := X1.out.c3
      have f4 := X1.out.c4
      go_wp2_with fail
      refine Calls.mono (Q1.out _ E1.out) ?_
      rintro e W2 ⟨rfl, b⟩
      have X2 := hide (X1.out.below b)
      have E2 := hide (E1.out.below b)
      have D2 := hide (chain D1.out b)
      clear b f0 f1 f2 f3 f4 X1 E1 D1
      have f0 := X2.out.c0
      have f1 := X2.out.c1
      have f2 := X2.out.c2
      have f3 := X2.out.c3
      have f4 := X2.out.c4
      go_wp2_with fail
      have b0 : Below W2.heap.size W2 W2.drew := (Below.refl _ _).drew
      have L := hide (lcode_any (E2.out.below b0) v1 i1 G1.out)
      clear b0
      go_region_held3 (fun wz => wz.cell? ⟨B, 0, none⟩ = some (.int .u32 (x : Int))) (first | exact f0 | exact k0) (first | (go_at_call 14; refine (S1.out _).mono ?_; rintro e w' ⟨rfl, rfl⟩) | (go_at_call 15; refine (S2.out _).mono ?_; rintro e w' ⟨rfl, rfl⟩) | (go_at_call 8; refine (L.out).mono ?_; rintro e W3 ⟨rfl, b⟩; have k0 := cell_below (X2.out.below ((Below.refl _ _).drew)).c0 b))
      have b2 := undrew b
      have X3 := hide (X2.out.below b2)
      have E3 := hide (E2.out.below b2)
      have D3 := hide (chain D2.out b2)
      clear b b2 k0 L f0 f1 f2 f3 f4 X2 E2 D2
      have f0 := X3.out.c0
      have f1 := X3.out.c1
      have f2 := X3.out.c2
      have f3 := X3.out.c3
      have f4 := X3.out.c4
      go_wp2_with fail
      refine Calls.mono (P2.out _ E3.out) ?_
      rintro e W4 ⟨rfl, b⟩
      have X4 := hide (X3.out.below b)
      have E4 := hide (E3.out.below b)
      have D4 := hide (chain D3.out b)
      clear b f0 f1 f2 f3 f4 X3 E3 D3
      have f0 := X4.out.c0
      have f1 := X4.out.c1
      have f2 := X4.out.c2
      have f3 := X4.out.c3
      have f4 := X4.out.c4
      go_wp2_with fail
      refine Calls.mono (Q2.out _ E4.out) ?_
      rintro e W5 ⟨rfl, b⟩
      have X5 := hide (X4.out.below b)
      have E5 := hide (E4.out.below b)
      have D5 := hide (chain D4.out b)
      clear b f0 f1 f2 f3 f4 X4 E4 D4
      have f0 := X5.out.c0
      have f1 := X5.out.c1
      have f2 := X5.out.c2
      have f3 := X5.out.c3
      have f4 := X5.out.c4
      go_wp2_with fail
      refine Calls.mono (lcode_any E5.out v2 i2 G2.out) ?_
      rintro e W6 ⟨rfl, b⟩
      have X6 := hide (X5.out.below b)
      have E6 := hide (E5.out.below b)
      have D6 := hide (chain D5.out b)
      clear b f0 f1 f2 f3 f4 X5 E5 D5
      have f0 := X6.out.c0
      have f1 := X6.out.c1
      have f2 := X6.out.c2
      have f3 := X6.out.c3
      have f4 := X6.out.c4
      go_wp2_with fail
      refine Calls.mono (P3.out _ E6.out) ?_
      rintro e W7 ⟨rfl, b⟩
      have X7 := hide (X6.out.below b)
      have E7 := hide (E6.out.below b)
      have D7 := hide (chain D6.out b)
      clear b f0 f1 f2 f3 f4 X6 E6 D6
      have f0 := X7.out.c0
      have f1 := X7.out.c1
      have f2 := X7.out.c2
      have f3 := X7.out.c3
      have f4 := X7.out.c4
      go_wp2_with fail
      refine Calls.mono (Q3.out _ E7.out) ?_
      rintro e W8 ⟨rfl, b⟩
      have X8 := hide (X7.out.below b)
      have E8 := hide (E7.out.below b)
      have D8 := hide (chain D7.out b)
      clear b f0 f1 f2 f3 f4 X7 E7 D7
      have f0 := X8.out.c0
      have f1 := X8.out.c1
      have f2 := X8.out.c2
      have f3 := X8.out.c3
      have f4 := X8.out.c4
      go_wp2_with fail
      refine Calls.mono (lcode_any E8.out v3 i3 G3.out) ?_
      rintro e W9 ⟨rfl, b⟩
      have X9 := hide (X8.out.below b)
      have E9 := hide (E8.out.below b)
      have D9 := hide (chain D8.out b)
      clear b f0 f1 f2 f3 f4 X8 E8 D8
      have f0 := X9.out.c0
      have f1 := X9.out.c1
      have f2 := X9.out.c2
      have f3 := X9.out.c3
      have f4 := X9.out.c4
      go_wp2_with fail
      refine Calls.mono (P4.out _ E9.out) ?_
      rintro e W10 ⟨rfl, b⟩
      have X10 := hide (X9.out.below b)
      have E10 := hide (E9.out.below b)
      have D10 := hide (chain D9.out b)
      clear b f0 f1 f2 f3 f4 X9 E9 D9
      have f0 := X10.out.c0
      have f1 := X10.out.c1
      have f2 := X10.out.c2
      have f3 := X10.out.c3
      have f4 := X10.out.c4
      go_wp2_with fail
      refine Calls.mono (Q4.out _ E10.out) ?_
      rintro e W11 ⟨rfl, b⟩
      have X11 := hide (X10.out.below b)
      have E11 := hide (E10.out.below b)
      have D11 := hide (chain D10.out b)
      clear b f0 f1 f2 f3 f4 X10 E10 D10
      have f0 := X11.out.c0
      have f1 := X11.out.c1
      have f2 := X11.out.c2
      have f3 := X11.out.c3
      have f4 := X11.out.c4
      go_wp2_with fail
      refine Calls.mono (lcode_any E11.out v4 i4 G4.out) ?_
      rintro e W12 ⟨rfl, b⟩
      have X12 := hide (X11.out.below b)
      have E12 := hide (E11.out.below b)
      have D12 := hide (chain D11.out b)
      clear b f0 f1 f2 f3 f4 X11 E11 D11
      have f0 := X12.out.c0
      have f1 := X12.out.c1
      have f2 := X12.out.c2
      have f3 := X12.out.c3
      have f4 := X12.out.c4
      go_wp2_with fail
      go_roundw
      case rel => exact ⟨k + 1, by omega, by go_num, D12.out⟩
      case measure => simp [intOf]; omega
    · obtain rfl : k = len := by omega
      go_wp2
      go_ret
      exact ⟨rfl, HB.out⟩
end Go.Proofs.YthmibakcjhappaaDoor.aluCuts
