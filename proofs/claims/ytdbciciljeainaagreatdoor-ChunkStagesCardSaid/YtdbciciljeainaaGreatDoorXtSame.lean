/-
  The document's Same of stages that are alike, and of one that came in with none.
-/
import Derived.Test.YtdbciciljeainaaGreatDoorXrAck
import Derived.Test.YtdbciciljeainaaGreatDoorXfAdd
namespace Go.Proofs.YtdbciciljeainaaGreatDoor
open Go.RowKit FerryCrc
set_option linter.unusedVariables false
set_option linter.unusedSimpArgs false

set_option maxRecDepth 100000 in
set_option maxHeartbeats 4000000 in
theorem rsameS_any (s : Sg) (a a2 : Option Addr) (n c c2 : Nat) (P : List ByteArray) {w : World} (hA : Txs w a n c P) (hB : Txs w a2 n c2 P) (hn32 : n ≤ 4611686018427387904) : Calls Tryz.prog 11 #[.agg (s.cells (.slice a n c)).toArray, .agg (s.cells (.slice a2 n c2)).toArray] w fun e w' => e = .returned (.bool true) ∧ Below w.heap.size w w' := by
  obtain ⟨pt, st, tt, b, r, m⟩ := s
  unfold Sg.cells
  simp only
  obtain ⟨W, hW, B0, B1, D0⟩ := box2 w [.int .i64 pt, .int .i64 st, .int .i64 tt, .int .i64 b, .int .i64 r, .int .i64 m, .slice a n c] 26 [.int .i64 pt, .int .i64 st, .int .i64 tt, .int .i64 b, .int .i64 r, .int .i64 m, .slice a2 n c2] 26
  obtain ⟨q, hq⟩ : ∃ q, w.heap.size + 1 = q := ⟨_, rfl⟩
  rw [hq] at B1
  have HB0 := hide B0
  have HB1 := hide B1
  have HWD := hide hW
  have HQQ := hide hq
  have HD := hide D0
  have HA := hide (hA.below D0)
  have HB := hide (hB.below D0)
  have hFs := hA.size
  clear B0 B1 D0 hW hq hA hB
  go_enter Tryz.func11, Tryz.ntmps11
  go_upto_region 1 with fail
  have hW := HWD.out
  have hq := HQQ.out
  clear HWD HQQ
  simp only [hW, hq]
  clear hW hq
  have g0 := HB0.out.cell 0 rfl
  have g1 := HB0.out.cell 1 rfl
  have g2 := HB0.out.cell 2 rfl
  have g3 := HB0.out.cell 3 rfl
  have g4 := HB0.out.cell 4 rfl
  have g5 := HB0.out.cell 5 rfl
  have g6 := HB0.out.cell 6 rfl
  have c0 := HB1.out.cell 0 rfl
  have c1 := HB1.out.cell 1 rfl
  have c2 := HB1.out.cell 2 rfl
  have c3 := HB1.out.cell 3 rfl
  have c4 := HB1.out.cell 4 rfl
  have c5 := HB1.out.cell 5 rfl
  have c6 := HB1.out.cell 6 rfl
  have HQ := xid_neqb (b := b) (r := r) (m := m) (b2 := b) (r2 := r) (m2 := m) (y := true) (by simp)
  have hgt : Tryz.prog.eqGuardType Tryz.prog.depth 23 = false := by kernel_rfl
  go_wp2_with fail
  clear g0 g1 g2 g3 g4 g5 g6 c0 c1 c2 c3 c4 c5 c6 HQ hgt
  go_loopw [5] (fun i wr => ∃ k : Nat, k ≤ n ∧ i = .int .i64 (k : Int) ∧ Hid (Below W.heap.size W wr)) (fun i _ => n - (intOf i).toNat)
  case atStart => exact ⟨0, Nat.zero_le _, rfl, Below.refl _ _⟩
  case round =>
    obtain ⟨k, hk, rfl, HBW⟩ := hrel
    have g6 := (HB0.out.below HBW.out).cell 6 rfl
    have c6 := (HB1.out.below HBW.out).cell 6 rfl
    by_cases hlt : k < n
    · obtain ⟨y, hy⟩ : ∃ y, P[k]? = some y := ⟨_, List.getElem?_eq_getElem (by omega)⟩
      obtain ⟨b1, o1, rfl, hc1⟩ := (HA.out.below HBW.out).at tv1 (by decide) hy
      obtain ⟨b2, o2, rfl, hc2⟩ := (HB.out.below HBW.out).at tv1 (by decide) hy
      have y1 := hc1 0 _ rfl
      have y2 := hc2 0 _ rfl
      rw [Nat.mul_one, Nat.add_zero] at y1 y2
      have hk1 : (k : Int) < (n : Int) := by omega
      clear hc1 hc2 hy
      go_wp2_with fail
      go_quiet (fail)
      go_wp2
      exact ⟨⟨k + 1, by omega, by simp, ⟨HBW.out.os, HBW.out.tape, HBW.out.output, HBW.out.size, HBW.out.block⟩⟩, by simp [intOf]; omega⟩
    · obtain rfl : k = n := by omega
      have hnk : ¬ (k : Int) < (k : Int) := by omega
      go_wp2
      go_ret
      exact ⟨rfl, chain HD.out HBW.out⟩
end Go.Proofs.YtdbciciljeainaaGreatDoor
