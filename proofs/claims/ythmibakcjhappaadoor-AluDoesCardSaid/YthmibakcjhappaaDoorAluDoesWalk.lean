/-
  Walk of the law AluDoes.
-/
import Derived.Test.YthmibakcjhappaaDoorOpers
import Derived.LoopTactic
namespace Go.Proofs.YthmibakcjhappaaDoor.aluDoes
open Go.RowKit FerryAlu
set_option linter.unusedVariables false

theorem divs1 (w : World) : Calls Tryd.prog 6 #[.int .i64 11, .int .u32 4294967289, .int .u32 2] w fun e w' => e = .returned (.tuple #[.int .u32 4294967293, .nilIface]) ∧ w = w' := do_divs 4294967289 2 w (by decide) (by decide) (by decide)

set_option maxRecDepth 100000 in
set_option maxHeartbeats 800000 in
theorem law {E : Nat → Addr} (a : Option Addr) (len cap : Nat) (C : Nat → Opn) (w : World) (he : Errs w E) (hc : Ops w a len C) :
    Calls Tryd.prog 3 #[.slice a len cap] w fun e w' => e = .returned (.bool true) ∧ Below w.heap.size w w' := by
  have HE := hide he
  have HC := hide hc
  have hm := hc.most
  have F := hide (divs1 w)
  clear he hc
  go_enter Tryd.func3, Tryd.ntmps3
  go_wp2_with fail
  refine Calls.mono F.out ?_
  rintro e w0 ⟨rfl, rfl⟩
  go_wp2_with fail
  go_loopw [5] (fun i wr => ∃ k : Nat, k ≤ len ∧ i = .int .i64 (k : Int) ∧ Below w.heap.size w wr) (fun i _ => len - (intOf i).toNat)
  case atStart => exact ⟨0, by omega, rfl, Below.refl _ _⟩
  case round =>
    obtain ⟨k, hk, rfl, hB⟩ := hrel
    have HB := hide hB
    clear hB
    by_cases hlt : k < len
    · obtain ⟨b, off, rfl, ok, c0, c1, c2⟩ := (HC.out.below HB.out).cell k hlt
      have HO := hide ok
      clear ok
      obtain ⟨r1, i1, v1, g1, p1, q1⟩ := do_both E (C k).op (C k).b (C k).c HO.out.b HO.out.c
      obtain ⟨r2, i2, v2, g2, p2, q2⟩ := test_both E (C k).op (C k).b (C k).c HO.out.b HO.out.c
      have G1 := hide g1
      have P1 := hide p1
      have Q1 := hide q1
      have G2 := hide g2
      have P2 := hide p2
      have Q2 := hide q2
      clear g1 g2 p1 p2 q1 q2 HO
      generalize (C k).op = op at *
      generalize (C k).b = x at *
      generalize (C k).c = y at *
      go_wp2_with fail
      have X0 := hide (OBox.new wr 29 op (x : Int) (y : Int))
      have D0 : Hid (Below w.heap.size w (wr.alloc (.cells #[.int .i64 op, .int .u32 (x : Int), .int .u32 (y : Int)] 29))) := HB.out.alloc HB.out.size _
      have E0 := hide (HE.out.below D0.out)
      clear c0 c1 c2
      generalize wr.alloc (.cells #[.int .i64 op, .int .u32 (x : Int), .int .u32 (y : Int)] 29) = W0 at *
      generalize wr.heap.size = B at *
      refine Calls.mono (P1.out _ E0.out) ?_
      rintro e W1 ⟨rfl, b⟩
      have X1 := hide (X0.out.below b)
      have E1 := hide (E0.out.below b)
      have D1 := hide (chain D0.out b)
      clear b X0 E0 D0
      have f0 := X1.out.c0
      have f1 := X1.out.c1
      have f2 := X1.out.c2
      go_wp2_with fail
      refine Calls.mono (Q1.out _ E1.out) ?_
      rintro e W2 ⟨rfl, b⟩
      have X2 := hide (X1.out.below b)
      have E2 := hide (E1.out.below b)
      have D2 := hide (chain D1.out b)
      clear b f0 f1 f2 X1 E1 D1
      have f0 := X2.out.c0
      have f1 := X2.out.c1
      have f2 := X2.out.c2
      go_wp2_with fail
      refine Calls.mono (lcode_any E2.out v1 i1 G1.out) ?_
      rintro e W3 ⟨rfl, b⟩
      have X3 := hide (X2.out.below b)
      have E3 := hide (E2.out.below b)
      have D3 := hide (chain D2.out b)
      clear b f0 f1 f2 X2 E2 D2
      have f0 := X3.out.c0
      have f1 := X3.out.c1
      have f2 := X3.out.c2
      go_wp2_with fail
      refine Calls.mono (P2.out _ E3.out) ?_
      rintro e W4 ⟨rfl, b⟩
      have X4 := hide (X3.out.below b)
      have E4 := hide (E3.out.below b)
      have D4 := hide (chain D3.out b)
      clear b f0 f1 f2 X3 E3 D3
      have f0 := X4.out.c0
      have f1 := X4.out.c1
      have f2 := X4.out.c2
      go_wp2_with fail
      refine Calls.mono (Q2.out _ E4.out) ?_
      rintro e W5 ⟨rfl, b⟩
      have X5 := hide (X4.out.below b)
      have E5 := hide (E4.out.below b)
      have D5 := hide (chain D4.out b)
      clear b f0 f1 f2 X4 E4 D4
      have f0 := X5.out.c0
      have f1 := X5.out.c1
      have f2 := X5.out.c2
      go_wp2_with fail
      refine Calls.mono (lcode_any E5.out v2 i2 G2.out) ?_
      rintro e W6 ⟨rfl, b⟩
      have X6 := hide (X5.out.below b)
      have E6 := hide (E5.out.below b)
      have D6 := hide (chain D5.out b)
      clear b f0 f1 f2 X5 E5 D5
      have f0 := X6.out.c0
      have f1 := X6.out.c1
      have f2 := X6.out.c2
      go_wp2_with fail
      go_roundw
      case rel => exact ⟨k + 1, by omega, by go_num, D6.out⟩
      case measure => simp [intOf]; omega
    · obtain rfl : k = len := by omega
      go_wp2
      go_ret
      exact ⟨rfl, HB.out⟩
end Go.Proofs.YthmibakcjhappaaDoor.aluDoes
