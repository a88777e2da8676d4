/-
  The machine's store and holds.
-/
import Derived.Test.YteopkgjkbhcicaaDoorCmAddr
namespace Go.Proofs.YteopkgjkbhcicaaDoor
open Go.RowKit FerryCrc FerryAlu
set_option linter.unusedVariables false
set_option linter.unusedSimpArgs false

theorem Bl.mfr {mb : Nat} {v : Value} {w w' : World} {g : Nat} {cs : List Value} (h : Bl w g cs) (hg : g < w.heap.size) (hf : Mfr mb v w w') (h1 : g ≠ mb) (h2 : v.ownBlock ≠ some g) : Bl w' g cs :=
  ⟨fun j u hv => by rw [hf.cell (p := ⟨g, j, none⟩) hg h1 h2]; exact h.cell j u hv, fun j => by rw [hf.frozen (p := ⟨g, j, none⟩) hg h1 h2]; exact h.free j⟩
theorem Bl.oth {o : Option Nat} {w w' : World} {g : Nat} {cs : List Value} (h : Bl w g cs) (hg : g < w.heap.size) (hf : Oth o w w') (hn : o ≠ some g) : Bl w' g cs :=
  ⟨fun j v hv => by rw [hf.cell (p := ⟨g, j, none⟩) hg hn]; exact h.cell j v hv, fun j => by rw [hf.frozen (p := ⟨g, j, none⟩) hg hn]; exact h.free j⟩
theorem pkv_ok {l : List Pg} (h : Oks l) (n s v : Nat) : Oks (pkv l n s v) := by
  unfold pkv
  split
  · exact stored_ok h n s v
  · exact h
theorem MAt.poke {w w' : World} {mb base n s r : Nat} {v : Value} {m : Mc} (h : MAt w mb base v m) (ho : POwn w' base v (pkv m.pages n s r)) (hf : Oth v.ownBlock w w') : MAt w' mb base v { m with pages := pkv m.pages n s r } :=
  ⟨h.bl.oth h.lt hf h.ne, ho, h.ne, ⟨pkv_ok h.ok.ok n s r, by show (pkv m.pages n s r).length ≤ _; rw [pkv_len]; exact h.ok.most, h.ok.size, h.ok.small, h.ok.pc⟩, h.le, Nat.lt_of_lt_of_le h.lt hf.size, Nat.le_trans h.size hf.size⟩
theorem poke_frame {w W0 wx wz : World} {mb base : Nat} {v : Value} {m : Mc} (hm : MAt wx mb base v m) (d0 : Below w.heap.size w W0) (hw : Below W0.heap.size W0 wx) (hf : Oth v.ownBlock wx wz) (hs : base ≤ w.heap.size) : Mfr mb v w wz :=
  ((Mfr.ofBelow d0).trans (Mfr.ofBelow hw)).trans (Mfr.ofOwn hf)
theorem heldS {W wz : World} {mb base g k : Nat} {v x0 x1 x2 x3 x4 : Value} {m : Mc} (hz : Bl W g [x0, x1, x2, x3, x4]) (hg : g < W.heap.size) (hm : MAt W mb base v m) (hk : k < 16) (hb : Below W.heap.size W wz) :
    wz.cell? ⟨g, 0, none⟩ = some x0 ∧ wz.cell? ⟨g, 1, none⟩ = some x1 ∧ wz.cell? ⟨g, 2, none⟩ = some x2 ∧ wz.cell? ⟨g, 3, none⟩ = some x3 ∧ wz.cell? ⟨g, 4, none⟩ = some x4 ∧ wz.cell? ⟨mb, 0, none⟩ = some v ∧ wz.cell? ⟨mb, 1 + k, none⟩ = some (.int .u32 (m.reg k : Int)) := by
  obtain ⟨a0, a1, a2, a3, a4⟩ := bl_get (hz.below hg hb)
  exact ⟨a0, a1, a2, a3, a4, (hm.below hb).pages, (hm.below hb).reg hk⟩

theorem heldP {W wx wz : World} {mb base g k : Nat} {v x0 x1 x2 x3 x4 : Value} {m : Mc} (hz : Bl W g [x0, x1, x2, x3, x4]) (hg : g < W.heap.size) (hm : MAt W mb base v m) (hk : k < 16) (hb : Below W.heap.size W wx) (hf : Oth v.ownBlock wx wz) (hne : v.ownBlock ≠ some g) :
    wz.cell? ⟨g, 0, none⟩ = some x0 ∧ wz.cell? ⟨g, 1, none⟩ = some x1 ∧ wz.cell? ⟨g, 2, none⟩ = some x2 ∧ wz.cell? ⟨g, 3, none⟩ = some x3 ∧ wz.cell? ⟨g, 4, none⟩ = some x4 ∧ wz.cell? ⟨mb, 0, none⟩ = some v ∧ wz.cell? ⟨mb, 1 + k, none⟩ = some (.int .u32 (m.reg k : Int)) := by
  have h1 := (hz.below hg hb).oth (Nat.lt_of_lt_of_le hg hb.size) hf hne
  obtain ⟨a0, a1, a2, a3, a4⟩ := bl_get h1
  have h2 := hm.below hb
  refine ⟨a0, a1, a2, a3, a4, ?_, ?_⟩
  · rw [hf.cell (p := ⟨mb, 0, none⟩) h2.lt h2.ne]
    exact h2.pages
  · rw [hf.cell (p := ⟨mb, 1 + k, none⟩) h2.lt h2.ne]
    exact h2.reg hk

set_option maxRecDepth 100000 in
set_option maxHeartbeats 4000000 in
theorem mstore_any {w : World} {mb base : Nat} {v : Value} {m : Mc} (h : MAt w mb base v m) (op : Int) (a b c : Nat) (imm : Int) (ha : a < 16) (hb : b < 16) (h1 : -9223372036854775808 ≤ imm) (h2 : imm ≤ 9223372036854775807) :
    Calls Tryd.prog 30 #[.pointer (some ⟨mb, 0, none⟩), .agg #[.int .i64 op, .int .i64 (a : Int), .int .i64 (b : Int), .int .i64 (c : Int), .int .i64 imm]] w fun e w' => e = .returned (.int .i64 ((nfault m.pages (m.adr (mkI op a b c imm)) (szI op) 1 : Nat) : Int)) ∧ MAt w' mb base v { m with pages := pkv m.pages (m.adr (mkI op a b c imm)) (szI op) (m.reg a) } ∧ Mfr mb v w w' := by
  obtain ⟨pa, pc, rfl, _, _⟩ := h.own.pgs h.ok.ok h.ok.most
  have D0 : Hid (Below w.heap.size w (w.alloc (.cells #[.int .i64 op, .int .i64 (a : Int), .int .i64 (b : Int), .int .i64 (c : Int), .int .i64 imm] 71))) := (Below.refl _ _).alloc (Nat.le_refl _) _
  have hbl := bl_alloc w #[.int .i64 op, .int .i64 (a : Int), .int .i64 (b : Int), .int .i64 (c : Int), .int .i64 imm] 71
  have hz0 : Hid (w.heap.size < (w.alloc (.cells #[.int .i64 op, .int .i64 (a : Int), .int .i64 (b : Int), .int .i64 (c : Int), .int .i64 imm] 71)).heap.size) := by unfold Hid; simp
  have HM := hide (h.below D0.out)
  have HBS : Hid (base ≤ w.heap.size) := h.size
  have HOB : Hid ((Value.slice pa m.pages.length pc).ownBlock ≠ some w.heap.size) := fun e => Nat.lt_irrefl _ (World.ownsRow.lt h.own _ e).2
  have HZ := hide hbl
  have HAL : Hid (m.adr (mkI op a b c imm) < 4294967296) := by unfold Hid Mc.adr; omega
  have HRL := hide (reg_lt h.ok a)
  have a16 : (a : Int) < 16 := by omega
  clear hbl h
  generalize hN : m.adr (mkI op a b c imm) = N at *
  have HN := hide hN
  clear hN
  go_enter Tryd.func30, Tryd.ntmps30
  go_wp2_with fail
  generalize w.alloc (.cells #[.int .i64 op, .int .i64 (a : Int), .int .i64 (b : Int), .int .i64 (c : Int), .int .i64 imm] 71) = W0 at *
  have HW := hide (Below.refl W0.heap.size W0)
  go_region_held3 (fun wz => wz.cell? ⟨w.heap.size, 0, none⟩ = some (.int .i64 op) ∧ wz.cell? ⟨w.heap.size, 1, none⟩ = some (.int .i64 (a : Int)) ∧ wz.cell? ⟨w.heap.size, 2, none⟩ = some (.int .i64 (b : Int)) ∧ wz.cell? ⟨w.heap.size, 3, none⟩ = some (.int .i64 (c : Int)) ∧ wz.cell? ⟨w.heap.size, 4, none⟩ = some (.int .i64 imm) ∧ wz.cell? ⟨mb, 0, none⟩ = some (.slice pa m.pages.length pc) ∧ wz.cell? ⟨mb, 1 + a, none⟩ = some (.int .u32 (m.reg a : Int)))
    (first | exact heldS HZ.out hz0.out HM.out ha HW.out | exact heldS HZ.out hz0.out HM.out ha HW.out.drew | exact HH.out)
    (first
      | (go_at_call 33; refine (address_any (HM.out.below (by first | exact HW.out | exact HW.out.drew)) op a b c imm hb h1 h2).mono ?_; rw [HN.out]; rintro e wx ⟨rfl, bx⟩; have HW := hide (chain HW.out (by first | exact bx | exact undrewC bx)); clear bx)
      | (go_at_call 41; refine (size_any op _).mono ?_; rintro e wy ⟨rfl, bx⟩; have HW := hide (by first | (rw [← bx]; exact HW.out) | (rw [← bx]; exact HW.out.drew) : Below W0.heap.size W0 wy); clear bx)
      | (go_at_call 42; refine (poke_own N (szI op) (m.reg a) _ (HM.out.below (by first | exact HW.out | exact HW.out.drew)).own HM.out.ok.ok HM.out.ok.most HAL.out (szI_sized op) HRL.out).mono ?_; rintro e wy ⟨rfl, ho9, hf9⟩; have HP := hide ((HM.out.below (by first | exact HW.out | exact HW.out.drew)).poke ho9 hf9); have HQ := hide (poke_frame (HM.out.below (by first | exact HW.out | exact HW.out.drew)) D0.out (by first | exact HW.out | exact HW.out.drew) hf9 HBS.out); have HH := hide (heldP HZ.out hz0.out HM.out ha (by first | exact HW.out | exact HW.out.drew) hf9 HOB.out); clear ho9 hf9 HW)
      | fail)
  all_goals
    go_wp2
    go_ret
    exact ⟨rfl, HP.out, HQ.out⟩

theorem tst_any (op : Int) (b c : Nat) (w : World) (h1 : 48 ≤ op) (h2 : op ≤ 53) (hb : b < 4294967296) (hc : c < 4294967296) : Calls Tryd.prog 43 #[.int .i64 op, .int .u32 (b : Int), .int .u32 (c : Int)] w fun e w' => e = .returned (.tuple #[.bool (tstV op b c), .nilIface]) ∧ w = w' := by
  rcases (by omega : op = 48 ∨ op = 49 ∨ op = 50 ∨ op = 51 ∨ op = 52 ∨ op = 53) with rfl | rfl | rfl | rfl | rfl | rfl
  · exact test_eq b c w hb hc
  · exact test_ne b c w hb hc
  · exact test_ltu b c w hb hc
  · exact test_lts b c w hb hc
  · exact test_geu b c w hb hc
  · exact test_ges b c w hb hc
set_option maxRecDepth 100000 in
set_option maxHeartbeats 4000000 in
theorem holds_any {w : World} {mb base : Nat} {v : Value} {m : Mc} (h : MAt w mb base v m) (op : Int) (a b c : Nat) (imm : Int) (ha : a < 16) (hb : b < 16) (h1 : 48 ≤ op) (h2 : op ≤ 53) :
    Calls Tryd.prog 31 #[.pointer (some ⟨mb, 0, none⟩), .agg #[.int .i64 op, .int .i64 (a : Int), .int .i64 (b : Int), .int .i64 (c : Int), .int .i64 imm]] w fun e w' => e = .returned (.bool (tstV op (m.reg a) (m.reg b))) ∧ Below w.heap.size w w' := by
  have D0 : Hid (Below w.heap.size w (w.alloc (.cells #[.int .i64 op, .int .i64 (a : Int), .int .i64 (b : Int), .int .i64 (c : Int), .int .i64 imm] 71))) := (Below.refl _ _).alloc (Nat.le_refl _) _
  have hbl := bl_alloc w #[.int .i64 op, .int .i64 (a : Int), .int .i64 (b : Int), .int .i64 (c : Int), .int .i64 imm] 71
  obtain ⟨c0, c1, c2, c3, c4⟩ := bl_get hbl
  have r0 := (h.below D0.out).reg ha
  have r1 := (h.below D0.out).reg hb
  have a1 : (a : Int) < 16 := by omega
  have b1 : (b : Int) < 16 := by omega
  have HT := hide (fun w => tst_any op (m.reg a) (m.reg b) w h1 h2 (reg_lt h.ok a) (reg_lt h.ok b))
  clear hbl h
  generalize m.reg a = x at *
  generalize m.reg b = y at *
  go_enter Tryd.func31, Tryd.ntmps31
  go_wp2_with fail
  generalize w.alloc (.cells #[.int .i64 op, .int .i64 (a : Int), .int .i64 (b : Int), .int .i64 (c : Int), .int .i64 imm] 71) = W0 at *
  go_quiet (first | (go_at_call 43; exact Calls.quiet_of_same ((HT.out _).mono fun _ _ h => ⟨h.1, h.2.symm⟩)))
  go_wp2
  go_ret
  exact ⟨rfl, drewN_below D0.out _⟩
end Go.Proofs.YteopkgjkbhcicaaDoor
