/-
  The machine's beginning.
-/
import Derived.Test.YteopkgjkbhcicaaDoorCmRow
namespace Go.Proofs.YteopkgjkbhcicaaDoor
open Go.RowKit FerryCrc FerryAlu
set_option linter.unusedVariables false
set_option linter.unusedSimpArgs false

theorem from0_ok {m : Mc} (h : m.Ok) : m.from0.Ok := ⟨h.ok, h.most, by simp [Mc.from0, h.size], fun r hr => by
  rcases List.mem_or_eq_of_mem_set hr with hr | rfl
  · exact h.small r hr
  · decide, h.pc⟩
theorem from0_proc {m : Mc} (h : m.Ok) : m.from0.proc = m.proc.set 0 (.int .u32 0) := proc_set h (k := 0) (v := 0) (by decide)

set_option maxRecDepth 100000 in
set_option maxHeartbeats 8000000 in
theorem begin_any (a : Option Addr) (len cap : Nat) (m : Mc) (w : World) (hs : Pgs w a len cap m.pages) (ok : m.Ok) :
    Calls Tryd.prog 20 #[.slice a len cap, .agg m.proc.toArray] w fun e w' => ∃ mb v, e = .returned (.pointer (some ⟨mb, 0, none⟩)) ∧ MAt w' mb w.heap.size v m.from0 ∧ Below w.heap.size w w' := by
  have OK0 := hide (from0_ok ok)
  have HS := hide hs
  have HLEN : Hid (m.pages.length = len) := hs.size
  have hbl := bl_alloc w (m.proc.toArray.setIfInBounds 0 (.int .u32 0)) 26
  have hb1 : Bl (w.alloc (.cells (m.proc.toArray.setIfInBounds 0 (.int .u32 0)) 26)) w.heap.size m.from0.proc := by
    rw [from0_proc ok]
    simpa using hbl
  have c0 : (w.alloc (.cells m.proc.toArray 26)).cell? ⟨w.heap.size, 0, none⟩ = some (m.proc[0]'(by rw [proc_len ok]; decide)) := (bl_alloc w m.proc.toArray 26).cell 0 _ (List.getElem?_eq_getElem _)
  have f0 := (bl_alloc w m.proc.toArray 26).free 0
  have hB1 : Below w.heap.size w (w.alloc (.cells (m.proc.toArray.setIfInBounds 0 (.int .u32 0)) 26)) := (Below.refl _ _).alloc (Nat.le_refl _) _
  have hsz : w.heap.size < (w.alloc (.cells (m.proc.toArray.setIfInBounds 0 (.int .u32 0)) 26)).heap.size := by simp
  have HZ := hide hb1
  have HB := hide hB1
  have HSZ := hide hsz
  have HPL : Hid (m.from0.proc.length = 21) := proc_len OK0.out
  have HF : Hid (m.from0.pages = m.pages) := rfl
  clear hbl hb1 hB1 hsz hs
  generalize m.proc.toArray = P at *
  generalize m.proc[0]'(by rw [proc_len ok]; decide) = u0 at *
  generalize m.from0 = M at *
  go_enter Tryd.func20, Tryd.ntmps20
  go_upto_region 2 with fail
  generalize w.alloc (.cells (P.setIfInBounds 0 (.int .u32 0)) 26) = W1 at *
  have HRG : Hid (∀ wz, Below W1.heap.size W1 wz → wz.rangeAt w.heap.size 0 M.proc) := fun wz hb => bl_range (HZ.out.below HSZ.out hb)
  have hu26 := Tryd.underlying26
  have hi26 : (Tryd.prog.info? 26).map (·.size) = some M.proc.length := by rw [HPL.out]; exact infoProc
  have HW : Hid (Below W1.heap.size W1 W1.drew) := (Below.refl W1.heap.size W1).drew
  refine wp_region_held_drew (S := fun wz => wz.rangeAt w.heap.size 0 M.proc) (by kernel_rfl) (HRG.out _ HW.out) (fun hHeld => ?_)
  refine wpAnyH_take (i := 0) (oi := { dst := some 7, op := Go.Op.move (Go.Operand.tmp 0), type := 22, pos := "core.go:21", after := #[], guard := none }) (v := ?_) rfl (by kernel_rfl) (by kernel_rfl) (by kernel_rfl) (fun _ _ _ h => h) (Or.inl ⟨by rfl, ?_⟩) (by assumption) ?_
  rotate_left
  · intro w hSw
    try dsimp only at hSw
    go_simp
    try with_reducible rfl
  simp only [Act.put, List.setIfInBounds_toArray, List.set_cons_zero, List.set_cons_succ]
  refine wpAnyH_take (i := 2) (oi := { dst := some 9, op := Go.Op.load 26 (Go.Operand.tmp 3), type := 26, pos := "core.go:21", after := #[], guard := none }) rfl (by kernel_rfl) (by kernel_rfl) (by kernel_rfl) (fun _ _ _ h => h) (yieldsIf_load_mid (by rfl) _ _ rfl _ _ rfl _ _ (fun _ h => h) hu26 rfl hi26) (by assumption) ?_
  simp only [Act.put, List.setIfInBounds_toArray, List.set_cons_zero, List.set_cons_succ]
  refine wpAnyH_ready (rs := [1]) (by kernel_rfl) (by simp) ?_
  refine AllReadyH.cons (o := { dst := some 8, op := Go.Op.call { callee := Go.Callee.value (Go.Operand.func 23), args := #[Go.Operand.tmp 7], argTypes := #[22] }, type := 22, pos := "core.go:21", after := #[{ on := 0, ground := Go.Ground.data }], guard := none }) rfl (fun K hK => ?_) AllReadyH.nil
  go_simp
  go_at_call 23
  refine (copy_any a len cap m.pages _ (HS.out.below (chain HB.out HW.out))).mono ?_
  rintro e wx ⟨g, rfl, hg, ho, bx⟩
  have HG := hide hg
  have HO := hide ho
  have HW2 := hide (chain HW.out bx)
  clear hg ho bx
  try go_wp2_with fail
  refine hK.out _ _ (HRG.out _ HW2.out) (fun hHeld2 => ?_)
  clear hK K hHeld
  try simp only [Act.put, List.setIfInBounds_toArray, List.set_cons_zero, List.set_cons_succ]
  refine wpAnyH_take (i := 3) (oi := { dst := some 10, op := Go.Op.build 64 #[(0, Go.Operand.tmp 8), (1, Go.Operand.tmp 9)], type := 64, pos := "core.go:21", after := #[{ on := 1, ground := Go.Ground.data }, { on := 2, ground := Go.Ground.data }], guard := none }) (v := .agg (.slice (some ⟨g, 0, none⟩) len len :: M.proc).toArray) rfl (by kernel_rfl) (by kernel_rfl) (by kernel_rfl) (fun _ _ _ h => h) (Or.inl ⟨by rfl, ?_⟩) (by assumption) ?_
  · intro wq hSw
    exact build54 (some ⟨g, 0, none⟩) len len M.proc HPL.out _ (.tmp 8) (.tmp 9) rfl rfl _ rfl wq
  simp only [Act.put, List.setIfInBounds_toArray, List.set_cons_zero, List.set_cons_succ]
  refine wpAnyH_ready (rs := [4]) (by kernel_rfl) (by simp) ?_
  refine AllReadyH.cons (o := { dst := some 11, op := Go.Op.box 64 (Go.Operand.tmp 10), type := 59, pos := "core.go:21", after := #[{ on := 3, ground := Go.Ground.data }], guard := none }) rfl (fun K hK => ?_) AllReadyH.nil
  go_simp
  have HA3 : Hid (Below wx.heap.size wx (wx.alloc (.cells (.slice (some ⟨g, 0, none⟩) len len :: M.proc).toArray 64))) := (Below.refl _ _).alloc (Nat.le_refl _) _
  have HW3 := hide (chain HW2.out HA3.out)
  have HBL : Hid (Bl (wx.alloc (.cells (.slice (some ⟨g, 0, none⟩) len len :: M.proc).toArray 64)) wx.heap.size (.slice (some ⟨g, 0, none⟩) len len :: M.proc)) := (show Bl _ _ _ from bl_alloc wx (Value.slice (some ⟨g, 0, none⟩) len len :: M.proc).toArray 64)
  have HL3 : Hid (wx.heap.size < (wx.alloc (.cells (.slice (some ⟨g, 0, none⟩) len len :: M.proc).toArray 64)).heap.size) := by unfold Hid; simp
  refine hK.out _ _ (HRG.out _ HW3.out) (fun hHeld3 => ?_)
  clear hK K hHeld2
  try simp only [Act.put, List.setIfInBounds_toArray, List.set_cons_zero, List.set_cons_succ]
  refine wpAnyH_take (i := 5) (oi := { dst := some 4, op := Go.Op.assign (Go.Operand.tmp 11), type := 59, pos := "core.go:21", after := #[{ on := 4, ground := Go.Ground.data }, { on := 1, ground := Go.Ground.chain }, { on := 0, ground := Go.Ground.phase }, { on := 1, ground := Go.Ground.phase }, { on := 2, ground := Go.Ground.phase }, { on := 3, ground := Go.Ground.phase }, { on := 4, ground := Go.Ground.phase }], guard := none }) (v := ?_) rfl (by kernel_rfl) (by kernel_rfl) (by kernel_rfl) (fun _ _ _ h => h) (Or.inl ⟨by rfl, ?_⟩) (by assumption) ?_
  rotate_left
  · intro w hSw
    try dsimp only at hSw
    go_simp
    try with_reducible rfl
  simp only [Act.put, List.setIfInBounds_toArray, List.set_cons_zero, List.set_cons_succ]
  refine wpAnyH_done (by kernel_rfl) ?_ _
  have HWS : Hid (w.heap.size ≤ wx.heap.size) := (chain HB.out HW2.out).size
  have HOL := hide (World.ownsRow.lt HO.out)
  have HO3 := hide (HO.out.below HA3.out)
  have HE3 := hide (chain HB.out HW3.out)
  generalize wx.alloc (.cells (.slice (some ⟨g, 0, none⟩) len len :: M.proc).toArray 64) = W9 at *
  go_wp2
  go_ret
  refine ⟨wx.heap.size, .slice (some ⟨g, 0, none⟩) len len, rfl, ⟨HBL.out, ?_, fun e => ?_, OK0.out, HWS.out, HL3.out, Nat.le_trans HWS.out (Nat.le_of_lt HL3.out)⟩, HE3.out⟩
  · rw [HF.out]
    exact HO3.out.weaken HB.out.size
  · have := (HOL.out _ e).2
    omega
end Go.Proofs.YteopkgjkbhcicaaDoor
