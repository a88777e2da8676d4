/-
  Walk of the law AluWides.
-/
import Derived.Test.YthmibakcjhappaaDoorCuts
import Derived.Test.YthmibakcjhappaaDoorAluWide
import Derived.Test.YthmibakcjhappaaDoorAluTurn
import Derived.Test.YthmibakcjhappaaDoorRefTurns
import Derived.LoopTactic
import Derived.Deep.RegionHeld3
import Derived.Deep.QuietTactic
import Derived.BigQuiet
namespace Go.Proofs.YthmibakcjhappaaDoor.aluWides
open Go.RowKit FerryAlu
set_option linter.unusedVariables false

theorem undrew {w w' : World} (h : Below w.drew.heap.size w.drew w') : Below w.heap.size w w' := (Below.refl _ _).drew.trans h
theorem mul1 (w : World) : Calls Tryd.prog 21 #[.int .u32 4294967295, .int .u32 4294967295] w fun e w' => e = .returned (.tuple #[.int .u32 4294967294, .int .u32 1]) ∧ w = w' := mulWide_any 4294967295 4294967295 w (by decide) (by decide)
theorem div_both (E : Nat → Addr) (h l c : Nat) (hh : h < 4294967296) (hl : l < 4294967296) (hc : c < 4294967296) :
    ∃ (q r i : Nat) (v : Value), Bare E v i ∧ (∀ w, Errs w E → Calls Tryd.prog 28 #[.int .u32 (h : Int), .int .u32 (l : Int), .int .u32 (c : Int)] w fun e w' => e = .returned (.tuple #[.int .u32 (q : Int), .int .u32 (r : Int), .int .i64 (i : Int)]) ∧ Below w.heap.size w w') ∧
      (∀ w, Errs w E → Calls Tryd.prog 27 #[.int .u32 (h : Int), .int .u32 (l : Int), .int .u32 (c : Int)] w fun e w' => e = .returned (.tuple #[.int .u32 (q : Int), .int .u32 (r : Int), v]) ∧ Below w.heap.size w w') := by
  by_cases h0 : c = 0
  · subst h0
    exact ⟨0, 0, 20, _, bare_sent E 20 (by decide) (by decide), fun w he => same_below (refDiv_zero h l w), fun w he => divWide_zero he h l⟩
  · by_cases h1 : c ≤ h
    · exact ⟨0, 0, 4, _, bare_sent E 4 (by decide) (by decide), fun w he => same_below (refDiv_range h l c w h0 h1), fun w he => divWide_range he h l c h0 h1⟩
    · exact ⟨_, _, 0, _, bare_nil E, fun w he => refDiv_any h l c w (by omega) hl hc, fun w he => divWide_any h l c w (by omega) hl hc⟩

set_option maxRecDepth 100000 in
set_option maxHeartbeats 1000000 in
theorem law {E : Nat → Addr} (a : Option Addr) (len cap : Nat) (C : Nat → Cut) (w : World) (he : Errs w E) (hc : Cuts w a len C) :
    Calls Tryd.prog 5 #[.slice a len cap] w fun e w' => e = .returned (.bool true) ∧ Below w.heap.size w w' := by
  have HE := hide he
  have HC := hide hc
  have hm := hc.most
  have F := hide (mul1 w)
  clear he hc
  go_enter Tryd.func5, Tryd.ntmps5
  go_wp2_with fail
  refine Calls.mono F.out ?_
  rintro e w0 ⟨rfl, rfl⟩
  go_wp2_with fail
  go_loopw [3, 4, 5] (fun h l i wr => ∃ k : Nat, k ≤ len ∧ i = .int .i64 (k : Int) ∧ Below w.heap.size w wr) (fun _ _ i _ => len - (intOf i).toNat)
  case atStart => exact ⟨0, by omega, rfl, Below.refl _ _⟩
  case round =>
    obtain ⟨k, hk, rfl, hB⟩ := hrel
    have D0 := hide hB
    clear hB
    by_cases hlt : k < len
    · have X0 := hide (HC.out.below D0.out)
      have E0 := hide (HE.out.below D0.out)
      obtain ⟨b, off, rfl, ok, c0, c1, c2, c3, c4⟩ := X0.out.cell k hlt
      have HO := hide ok
      clear ok
      have hx := HO.out.x
      have hv := HO.out.v
      obtain ⟨wn, hwn⟩ : ∃ wn : Nat, (wn : Int) = (C k).num % 4294967296 := ⟨((C k).num % 4294967296).toNat, by omega⟩
      have hw : wn < 4294967296 := by omega
      have k1 : (k : Int) < (len : Int) := by omega
      have k2 : (0 : Int) ≤ (k : Int) := by omega
      generalize hxg : (C k).x = x at *
      generalize hvg : (C k).v = v at *
      generalize hlg : (C k).lo = lo at *
      generalize hng : (C k).n = n at *
      generalize hmg : (C k).num = num at *
      have G1 := hide hng
      clear hxg hvg hlg hng hmg
      obtain ⟨odd, hodd⟩ : ∃ odd, (bits .and .i64 lo 1 == 1) = odd := ⟨_, rfl⟩
      obtain ⟨q5, r5, i5, v5, g5, p5, s5⟩ := div_both E x v wn hx hv hw
      have A1 := hide (fun w => addCarry_any x v odd w hx hv)
      have A2 := hide (fun w => refAdd_any x v odd w hx hv)
      have A3 := hide (fun w => subBorrow_any x v odd w hx hv)
      have A4 := hide (fun w => refSub_any x v odd w hx hv)
      have A5 := hide (fun w => mulWide_any x v w hx hv)
      have A6 := hide (fun w => refMul_any x v w hx hv)
      have A7 := hide g5
      have A8 := hide p5
      have A9 := hide s5
      have R1 := hide (fun w => rotate_any x n w hx)
      have R2 := hide (fun w => refRot_any x n w hx)
      have O1 := hide (fun w => ones_any x w hx)
      have O2 := hide (fun w => refOnes_any x w hx)
      have L1 := hide (fun w => lead_any x w hx)
      have L2 := hide (fun w => refLead_any x w hx)
      generalize (x + v + odd.toNat) % 4294967296 = sa at *
      generalize decide (4294967296 ≤ x + v + odd.toNat) = ca at *
      generalize (x + 8589934592 - v - odd.toNat) % 4294967296 = sb at *
      generalize decide (x < v + odd.toNat) = cb at *
      generalize x * v / 4294967296 = mh at *
      generalize x * v % 4294967296 = ml at *
      generalize rot x (n % 32).toNat = ro at *
      generalize pop 32 x = po at *
      generalize 32 - FerryCrc.lenOf x = le at *
      have HWn : num % 4294967296 = (wn : Int) := hwn.symm
      clear g5 p5 s5 hx hv HO hwn
      go_wp2_with fail
      go_quiet (fail)
      have d4 : (wr.drewN nq).cell? ⟨b, off + k * 5 + 4, none⟩ = some (.int .i64 num) := c4
      have B1 := hide (below_drewN (Below.refl wr.heap.size wr) nq)
      have X1 := hide (X0.out.below B1.out)
      have E1 := hide (E0.out.below B1.out)
      have D1 := hide (chain D0.out B1.out)
      clear c0 c1 c2 c3 c4 X0 E0 D0 B1
      generalize wr.drewN nq = W1 at *
      go_wp2_with fail
      rw [HWn]
      clear d4 HWn
      refine Calls.mono (A1.out _) ?_
      rintro e w' ⟨rfl, rfl⟩
      go_wp2_with fail
      refine Calls.mono (A2.out _) ?_
      rintro e W2 ⟨rfl, b⟩
      have X2 := hide (X1.out.below b)
      have E2 := hide (E1.out.below b)
      have D2 := hide (chain D1.out b)
      clear b X1 E1 D1
      go_wp2_with fail
      refine Calls.mono (A3.out _) ?_
      rintro e w' ⟨rfl, rfl⟩
      go_wp2_with fail
      refine Calls.mono (A4.out _) ?_
      rintro e W3 ⟨rfl, b⟩
      have X3 := hide (X2.out.below b)
      have E3 := hide (E2.out.below b)
      have D3 := hide (chain D2.out b)
      clear b X2 E2 D2
      go_wp2_with fail
      refine Calls.mono (A5.out _) ?_
      rintro e w' ⟨rfl, rfl⟩
      go_wp2_with fail
      refine Calls.mono (A6.out _) ?_
      rintro e W4 ⟨rfl, b⟩
      have X4 := hide (X3.out.below b)
      have E4 := hide (E3.out.below b)
      have D4 := hide (chain D3.out b)
      clear b X3 E3 D3
      go_wp2_with fail
      refine Calls.mono (A9.out _ E4.out) ?_
      rintro e W5 ⟨rfl, b⟩
      have X5 := hide (X4.out.below b)
      have E5 := hide (E4.out.below b)
      have D5 := hide (chain D4.out b)
      clear b X4 E4 D4
      go_wp2_with fail
      refine Calls.mono (A8.out _ E5.out) ?_
      rintro e W6 ⟨rfl, b⟩
      have X6 := hide (X5.out.below b)
      have E6 := hide (E5.out.below b)
      have D6 := hide (chain D5.out b)
      clear b X5 E5 D5
      go_wp2_with fail
      refine Calls.mono (lcode_any E6.out v5 i5 A7.out) ?_
      rintro e W7 ⟨rfl, b⟩
      have X7 := hide (X6.out.below b)
      have E7 := hide (E6.out.below b)
      have D7 := hide (chain D6.out b)
      clear b X6 E6 D6
      go_wp2_with fail
      obtain ⟨b', off', eab, ok', z0, z1, z2, z3, z4⟩ := X7.out.cell k hlt
      simp only [Option.some.injEq, Addr.mk.injEq, and_true] at eab
      obtain ⟨rfl, rfl⟩ := eab
      rw [G1.out] at z2
      clear ok' z0 z1 z3 z4
      have f0 : W7.drew.cell? ⟨b, off + k * 5 + 2, none⟩ = some (.int .i64 n) := z2
      go_region_held3 (fun wz => wz.cell? ⟨b, off + k * 5 + 2, none⟩ = some (.int .i64 n)) (first | exact f0 | exact z2 | exact k8 | exact k9 | exact k10 | exact k11) (first | (go_at_call 29; refine (R1.out _).mono ?_; rintro e w' ⟨rfl, rfl⟩) | (go_at_call 30; refine (R2.out _).mono ?_; rintro e W8 ⟨rfl, b8⟩; have k8 := cell_below f0 b8) | (go_at_call 31; refine (O1.out _).mono ?_; rintro e W9 ⟨rfl, b9⟩; have k9 := cell_below k8 b9) | (go_at_call 32; refine (O2.out _).mono ?_; rintro e W10 ⟨rfl, b10⟩; have k10 := cell_below k9 b10) | (go_at_call 33; refine (L1.out _).mono ?_; rintro e w' ⟨rfl, rfl⟩) | (go_at_call 34; refine (L2.out _).mono ?_; rintro e W11 ⟨rfl, b11⟩; have k11 := cell_below k10 b11))
      have D11 := hide (chain (chain (chain (chain D7.out (undrew b8)) b9) b10) b11)
      clear b8 b9 b10 b11 k8 k9 k10 k11 f0 z2
      go_wp2_with fail
      go_roundw
      case rel => exact ⟨k + 1, by omega, by go_num, D11.out⟩
      case measure => simp [intOf]; omega
    · obtain rfl : k = len := by omega
      go_wp2
      go_ret
      exact ⟨rfl, D0.out⟩
end Go.Proofs.YthmibakcjhappaaDoor.aluWides
