/-
  The machine's address, load, store, holds.
-/
import Derived.Test.YteopkgjkbhcicaaDoorCmBase
namespace Go.Proofs.YteopkgjkbhcicaaDoor
open Go.RowKit FerryCrc FerryAlu
set_option linter.unusedVariables false
set_option linter.unusedSimpArgs false

def iCells (op : Int) (a b c : Nat) (imm : Int) : Array Value := #[.int .i64 op, .int .i64 (a : Int), .int .i64 (b : Int), .int .i64 (c : Int), .int .i64 imm]
/-- The instruction with these fields. -/
abbrev mkI (op : Int) (a b c : Nat) (imm : Int) : Ins := ⟨op, (a : Int), (b : Int), (c : Int), imm⟩

set_option maxRecDepth 100000 in
set_option maxHeartbeats 4000000 in
theorem address_any {w : World} {mb base : Nat} {v : Value} {m : Mc} (h : MAt w mb base v m) (op : Int) (a b c : Nat) (imm : Int) (hb : b < 16) (h1 : -9223372036854775808 ≤ imm) (h2 : imm ≤ 9223372036854775807) :
    Calls Tryd.prog 33 #[.pointer (some ⟨mb, 0, none⟩), .agg #[.int .i64 op, .int .i64 (a : Int), .int .i64 (b : Int), .int .i64 (c : Int), .int .i64 imm]] w fun e w' => e = .returned (.int .u32 ((m.adr (mkI op a b c imm) : Nat) : Int)) ∧ Below w.heap.size w w' := by
  have HW := hide (fun w => word_any imm w h1 h2)
  have D0 : Hid (Below w.heap.size w (w.alloc (.cells #[.int .i64 op, .int .i64 (a : Int), .int .i64 (b : Int), .int .i64 (c : Int), .int .i64 imm] 71))) := (Below.refl _ _).alloc (Nat.le_refl _) _
  have hbl := bl_alloc w #[.int .i64 op, .int .i64 (a : Int), .int .i64 (b : Int), .int .i64 (c : Int), .int .i64 imm] 71
  obtain ⟨c0, c1, c2, c3, c4⟩ := bl_get hbl
  have r0 := (h.below D0.out).reg hb
  have b1 : (b : Int) < 16 := by omega
  have x1 := reg_lt h.ok b
  have x2 := un_lt imm
  have HR : Hid (m.adr (mkI op a b c imm) = (m.reg b + un imm) % 4294967296) := by unfold Hid Mc.adr; simp
  clear hbl h
  generalize m.reg b = x at *
  generalize un imm = y at *
  go_enter Tryd.func33, Tryd.ntmps33
  go_wp2_with fail
  generalize w.alloc (.cells #[.int .i64 op, .int .i64 (a : Int), .int .i64 (b : Int), .int .i64 (c : Int), .int .i64 imm] 71) = W0 at *
  go_quiet (first | (go_at_call 32; exact Calls.quiet_of_same ((HW.out _).mono fun _ _ h => ⟨h.1, h.2.symm⟩)))
  go_wp2
  go_ret
  refine ⟨?_, drewN_below D0.out _⟩
  rw [HR.out, show (((x + y) % 4294967296 : Nat) : Int) = ((x : Int) + (y : Int)) % 4294967296 by omega]
  rfl
theorem undrewC {B : Nat} {a w : World} (h : Below B a.drew w) : Below B a w := ⟨h.os, h.tape, h.output, h.size, h.block⟩
theorem MAt.pgs {w : World} {mb base : Nat} {pa : Option Addr} {n pc : Nat} {m : Mc} (h : MAt w mb base (.slice pa n pc) m) : Pgs w pa m.pages.length pc m.pages ∧ n = m.pages.length := by
  obtain ⟨a, c, e, hp, _⟩ := h.own.pgs h.ok.ok h.ok.most
  injection e with e1 e2 e3
  subst e1 e3
  exact ⟨hp, e2⟩
/-- What a walk through a drawn region may read: the instruction's cells, and where the pages lie. -/
theorem heldI {W wz : World} {mb base g : Nat} {v x0 x1 x2 x3 x4 : Value} {m : Mc} (hz : Bl W g [x0, x1, x2, x3, x4]) (hg : g < W.heap.size) (hm : MAt W mb base v m) (hb : Below W.heap.size W wz) :
    wz.cell? ⟨g, 0, none⟩ = some x0 ∧ wz.cell? ⟨g, 1, none⟩ = some x1 ∧ wz.cell? ⟨g, 2, none⟩ = some x2 ∧ wz.cell? ⟨g, 3, none⟩ = some x3 ∧ wz.cell? ⟨g, 4, none⟩ = some x4 ∧ wz.cell? ⟨mb, 0, none⟩ = some v := by
  obtain ⟨a0, a1, a2, a3, a4⟩ := bl_get (hz.below hg hb)
  exact ⟨a0, a1, a2, a3, a4, (hm.below hb).pages⟩

set_option maxRecDepth 100000 in
set_option maxHeartbeats 4000000 in
theorem mload_any {w : World} {mb base : Nat} {v : Value} {m : Mc} (h : MAt w mb base v m) (op : Int) (a b c : Nat) (imm : Int) (hb : b < 16) (h1 : -9223372036854775808 ≤ imm) (h2 : imm ≤ 9223372036854775807) :
    Calls Tryd.prog 28 #[.pointer (some ⟨mb, 0, none⟩), .agg #[.int .i64 op, .int .i64 (a : Int), .int .i64 (b : Int), .int .i64 (c : Int), .int .i64 imm]] w fun e w' => e = .returned (.tuple #[.int .u32 ((ldv m.pages (m.adr (mkI op a b c imm)) (szI op) 0 : Nat) : Int), .int .i64 ((nfault m.pages (m.adr (mkI op a b c imm)) (szI op) 0 : Nat) : Int)]) ∧ Below w.heap.size w w' := by
  obtain ⟨pa, pc, rfl, _, _⟩ := h.own.pgs h.ok.ok h.ok.most
  have D0 : Hid (Below w.heap.size w (w.alloc (.cells #[.int .i64 op, .int .i64 (a : Int), .int .i64 (b : Int), .int .i64 (c : Int), .int .i64 imm] 71))) := (Below.refl _ _).alloc (Nat.le_refl _) _
  have hbl := bl_alloc w #[.int .i64 op, .int .i64 (a : Int), .int .i64 (b : Int), .int .i64 (c : Int), .int .i64 imm] 71
  have hz0 : Hid (w.heap.size < (w.alloc (.cells #[.int .i64 op, .int .i64 (a : Int), .int .i64 (b : Int), .int .i64 (c : Int), .int .i64 imm] 71)).heap.size) := by unfold Hid; simp
  have HM := hide (h.below D0.out)
  have HZ := hide hbl
  have HAL : Hid (m.adr (mkI op a b c imm) < 4294967296) := by unfold Hid Mc.adr; omega
  clear hbl h
  generalize hN : m.adr (mkI op a b c imm) = N at *
  have HN := hide hN
  clear hN
  go_enter Tryd.func28, Tryd.ntmps28
  go_wp2_with fail
  generalize w.alloc (.cells #[.int .i64 op, .int .i64 (a : Int), .int .i64 (b : Int), .int .i64 (c : Int), .int .i64 imm] 71) = W0 at *
  have HW := hide (Below.refl W0.heap.size W0)
  go_region_held3 (fun wz => wz.cell? ⟨w.heap.size, 0, none⟩ = some (.int .i64 op) ∧ wz.cell? ⟨w.heap.size, 1, none⟩ = some (.int .i64 (a : Int)) ∧ wz.cell? ⟨w.heap.size, 2, none⟩ = some (.int .i64 (b : Int)) ∧ wz.cell? ⟨w.heap.size, 3, none⟩ = some (.int .i64 (c : Int)) ∧ wz.cell? ⟨w.heap.size, 4, none⟩ = some (.int .i64 imm) ∧ wz.cell? ⟨mb, 0, none⟩ = some (.slice pa m.pages.length pc))
    (first | exact heldI HZ.out hz0.out HM.out HW.out | exact heldI HZ.out hz0.out HM.out HW.out.drew)
    (first
      | (go_at_call 33; refine (address_any (HM.out.below (by first | exact HW.out | exact HW.out.drew)) op a b c imm hb h1 h2).mono ?_; rw [HN.out]; rintro e wx ⟨rfl, bx⟩; have HW := hide (chain HW.out (by first | exact bx | exact undrewC bx)); clear bx)
      | (go_at_call 41; refine (size_any op _).mono ?_; rintro e wy ⟨rfl, bx⟩; have HW := hide (by first | (rw [← bx]; exact HW.out) | (rw [← bx]; exact HW.out.drew) : Below W0.heap.size W0 wy); clear bx)
      | (go_at_call 40; refine (load_any pa m.pages.length pc m.pages N (szI op) _ (HM.out.below (by first | exact HW.out | exact HW.out.drew)).pgs.1 HAL.out (szI_sized op)).mono ?_; rintro e wy ⟨rfl, bx⟩; have HW := hide (by first | (rw [← bx]; exact HW.out) | (rw [← bx]; exact HW.out.drew) : Below W0.heap.size W0 wy); clear bx)
      | fail)
  all_goals
    have D1 := hide (D0.out.trans (HW.out.mono D0.out.size))
    go_wp2
    go_ret2
    exact ⟨rfl, D1.out⟩
end Go.Proofs.YteopkgjkbhcicaaDoor
