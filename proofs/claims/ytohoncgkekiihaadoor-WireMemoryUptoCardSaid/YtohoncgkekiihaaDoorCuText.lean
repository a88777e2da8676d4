/-
  The cursor of package wire: Text.
-/
import Derived.Test.YtohoncgkekiihaaDoorCuRaw
namespace Go.Proofs.YtohoncgkekiihaaDoor
open Go.RowKit FerryCrc
set_option linter.unusedVariables false
set_option linter.unusedSimpArgs false

set_option maxRecDepth 100000 in
set_option maxHeartbeats 400000 in
theorem text_short (c g len p bd : Nat) (L : List Nat) (most : Int) (a1 : Addr) (w : World) (h : Cur w c g len p bd L) (v1 : w.cell? ⟨1, 0, none⟩ = some (sent a1)) (hs : bd - p < 2) :
    Calls Tryd.prog 60 #[.pointer (some ⟨c, 0, none⟩), .int .i64 most] w fun e w' => ∃ ev, e = .returned (.tuple #[.string (str []), ev]) ∧ AtErr w' w.heap.size ev a1 (p : Int) ∧ Below w.heap.size w w' := by
  have HC := hide (left_any c g len p bd L w h)
  have H := hide h
  have V := hide v1
  have hlt : ((bd - p : Nat) : Int) < 2 := by omega
  generalize bd - p = q at *
  clear h v1
  go_enter Tryd.func60, Tryd.ntmps60
  go_wp2_with fail
  refine Calls.mono HC.out ?_
  rintro e w1 ⟨rfl, hb⟩
  have c1 := (H.out.below hb).c1
  have v1 := cell_below V.out hb
  have HB := hide hb
  clear hb
  go_wp2
  go_region_held3 (fun wz => wz.cell? ⟨1, 0, none⟩ = some (sent a1) ∧ wz.cell? ⟨c, 1, none⟩ = some (.int .i64 (p : Int))) (first | exact ⟨v1, c1⟩ | exact hold2) (first | (go_at_call 54; refine (placed_any a1 _ _).mono ?_; rintro e w2 ⟨ev, rfl, ha, hb2⟩; have hold2 : w2.cell? ⟨1, 0, none⟩ = some (sent a1) ∧ w2.cell? ⟨c, 1, none⟩ = some (.int .i64 (p : Int)) := ⟨cell_below (w := w1.drew) v1 hb2, cell_below (w := w1.drew) c1 hb2⟩; have HA := hide ha; have HB2 := hide hb2; clear ha hb2))
  go_wp2
  go_ret2
  exact ⟨ev, rfl, HA.out.wk HB.out.size, HB.out.trans ((Below.refl _ _).drew.trans (HB2.out.mono HB.out.size))⟩

set_option maxRecDepth 100000 in
set_option maxHeartbeats 400000 in
theorem text_long (c g len p bd : Nat) (L : List Nat) (most : Int) (a5 : Addr) (w : World) (h : Cur w c g len p bd L) (v5 : w.cell? ⟨5, 0, none⟩ = some (sent a5)) (hs : 2 ≤ bd - p) (hm : most < (nbe (cut L p 2) : Int)) :
    Calls Tryd.prog 60 #[.pointer (some ⟨c, 0, none⟩), .int .i64 most] w fun e w' => ∃ ev, e = .returned (.tuple #[.string (str []), ev]) ∧ AtErr w' w.heap.size ev a5 (p : Int) ∧ Below w.heap.size w w' := by
  have HC := hide (left_any c g len p bd L w h)
  have HP := hide (fun w2 (h2 : Cur w2 c g len p bd L) => peek_any c g len p bd L p 2 w2 h2 (by decide) (by decide) (by have := h.most; omega))
  have H := hide h
  have V := hide v5
  have hlt : ¬ ((bd - p : Nat) : Int) < 2 := by omega
  have hlt2 : ¬ (bd - p : Nat) < 2 := by omega
  generalize bd - p = q at *
  generalize nbe (cut L p 2) = m at *
  clear h v5 hs
  go_enter Tryd.func60, Tryd.ntmps60
  go_wp2_with fail
  refine Calls.mono HC.out ?_
  rintro e w1 ⟨rfl, hb⟩
  have H1 := hide (H.out.below hb)
  have c1 := H1.out.c1
  have v1 := cell_below V.out hb
  have HB := hide hb
  clear hb
  go_wp2_with fail
  refine Calls.mono (HP.out w1 H1.out) ?_
  rintro e w2 ⟨rfl, rfl⟩
  go_wp2
  go_region_held3 (fun wz => wz.cell? ⟨5, 0, none⟩ = some (sent a5) ∧ wz.cell? ⟨c, 1, none⟩ = some (.int .i64 (p : Int))) (first | exact ⟨v1, c1⟩ | exact hold2) (first | (go_at_call 54; refine (placed_any a5 _ _).mono ?_; rintro e w2 ⟨ev, rfl, ha, hb2⟩; have hold2 : w2.cell? ⟨5, 0, none⟩ = some (sent a5) ∧ w2.cell? ⟨c, 1, none⟩ = some (.int .i64 (p : Int)) := ⟨cell_below (w := w1.drew) v1 hb2, cell_below (w := w1.drew) c1 hb2⟩; have HA := hide ha; have HB2 := hide hb2; clear ha hb2))
  go_wp2
  go_ret2
  exact ⟨ev, rfl, HA.out.wk HB.out.size, HB.out.trans ((Below.refl _ _).drew.trans (HB2.out.mono HB.out.size))⟩

set_option maxRecDepth 100000 in
set_option maxHeartbeats 400000 in
theorem text_cut (c g len p bd : Nat) (L : List Nat) (most : Int) (a1 : Addr) (w : World) (h : Cur w c g len p bd L) (v1 : w.cell? ⟨1, 0, none⟩ = some (sent a1)) (hs : 2 ≤ bd - p) (hm : (nbe (cut L p 2) : Int) ≤ most) (hn : bd - (p + 2) < nbe (cut L p 2)) :
    Calls Tryd.prog 60 #[.pointer (some ⟨c, 0, none⟩), .int .i64 most] w fun e w' => ∃ ev, e = .returned (.tuple #[.string (str []), ev]) ∧ AtErr w' w.heap.size ev a1 ((p + 2 : Nat) : Int) ∧ Below w.heap.size w w' := by
  have HC := hide (left_any c g len p bd L w h)
  have HP := hide (fun w2 (h2 : Cur w2 c g len p bd L) => peek_any c g len p bd L p 2 w2 h2 (by decide) (by decide) (by have := h.most; omega))
  have hq := cut_lt h.bts.small p 2
  have hq2 := h.most
  have hq3 := h.bts.most
  have H := hide h
  have V := hide v1
  have hlt : ¬ ((bd - p : Nat) : Int) < 2 := by omega
  have hlt2 : ¬ (bd - p : Nat) < 2 := by omega
  generalize nbe (cut L p 2) = m at *
  have e2 : (bd : Int) - ((p : Int) + 2) < (m : Int) := by omega
  have hwp : IntKind.i64.wrap ((p : Int) + 2) = (p : Int) + 2 := by rw [IntKind.wrap_i64]; omega
  have hws : IntKind.i64.wrap ((bd : Int) - ((p : Int) + 2)) = (bd : Int) - ((p : Int) + 2) := by rw [IntKind.wrap_i64]; omega
  have hmm : ¬ most < (m : Int) := by omega
  generalize bd - p = q at *
  clear h v1 hs hm hn
  go_enter Tryd.func60, Tryd.ntmps60
  go_wp2_with fail
  refine Calls.mono HC.out ?_
  rintro e w1 ⟨rfl, hb⟩
  have H1 := hide (H.out.below hb)
  have c1 := H1.out.c1
  have c2 := H1.out.c2
  have v1 := cell_below V.out hb
  have HB := hide hb
  clear hb
  go_wp2_with fail
  refine Calls.mono (HP.out w1 H1.out) ?_
  rintro e w2 ⟨rfl, rfl⟩
  go_wp2_with fail
  refine Calls.mono (placed_any a1 _ _) ?_
  rintro e w2 ⟨ev, rfl, ha, hb2⟩
  have HA := hide ha
  have HB2 := hide hb2
  clear ha hb2
  go_wp2
  go_ret2
  exact ⟨ev, rfl, HA.out.wk HB.out.size, chain HB.out HB2.out⟩

set_option maxRecDepth 100000 in
set_option maxHeartbeats 400000 in
theorem text_ok (c g len p bd : Nat) (L : List Nat) (most : Int) (w : World) (h : Cur w c g len p bd L) (hs : 2 ≤ bd - p) (hm : (nbe (cut L p 2) : Int) ≤ most) (hn : nbe (cut L p 2) ≤ bd - (p + 2)) :
    Calls Tryd.prog 60 #[.pointer (some ⟨c, 0, none⟩), .int .i64 most] w fun e w' => e = .returned (.tuple #[.string (str (cut L (p + 2) (nbe (cut L p 2)))), .nilIface]) ∧ Cur w' c g len (p + 2 + nbe (cut L p 2)) bd L ∧ Frm (fun k => k = c) w w' := by
  have HC := hide (left_any c g len p bd L w h)
  have HP := hide (fun w2 (h2 : Cur w2 c g len p bd L) => peek_any c g len p bd L p 2 w2 h2 (by decide) (by decide) (by have := h.most; omega))
  have hq := cut_lt h.bts.small p 2
  have hq2 := h.most
  have hq3 := h.bts.most
  have H := hide h
  have hlt : ¬ ((bd - p : Nat) : Int) < 2 := by omega
  have hlt2 : ¬ (bd - p : Nat) < 2 := by omega
  generalize nbe (cut L p 2) = m at *
  obtain ⟨b0, hb0⟩ : ∃ b0, p + 2 = b0 := ⟨_, rfl⟩
  obtain ⟨hi, hhi⟩ : ∃ hi, b0 + m = hi := ⟨_, rfl⟩
  rw [hb0, hhi]
  have e1 : (p : Int) + 2 = (b0 : Int) := by omega
  have e3 : (b0 : Int) + (m : Int) = (hi : Int) := by omega
  have e2 : ¬ (bd : Int) - (b0 : Int) < (m : Int) := by omega
  have hwb : IntKind.i64.wrap (b0 : Int) = (b0 : Int) := by rw [IntKind.wrap_i64]; omega
  have hwh : IntKind.i64.wrap (hi : Int) = (hi : Int) := by rw [IntKind.wrap_i64]; omega
  have hws : IntKind.i64.wrap ((bd : Int) - (b0 : Int)) = (bd : Int) - (b0 : Int) := by rw [IntKind.wrap_i64]; omega
  have hmm : ¬ most < (m : Int) := by omega
  have i1 : (0 : Int) ≤ (b0 : Int) := by omega
  have i2 : (b0 : Int) ≤ (hi : Int) := by omega
  have i3 : (hi : Int) ≤ (len : Int) := by omega
  have n2 : b0 ≤ hi := by omega
  have n3 : hi ≤ len := by omega
  have n4 : hi - b0 = m := by omega
  have HPB : Hid (hi ≤ bd ∧ b0 + m = hi) := ⟨by omega, hhi⟩
  generalize bd - p = q at *
  clear h hs hm hn hb0 hhi
  go_enter Tryd.func60, Tryd.ntmps60
  go_wp2_with fail
  refine Calls.mono HC.out ?_
  rintro e w1 ⟨rfl, hb⟩
  have H1 := hide (H.out.below hb)
  have c1 := H1.out.c1
  have c2 := H1.out.c2
  have f1 := H1.out.f1
  have HB := hide hb
  clear hb
  go_wp2_with fail
  refine Calls.mono (HP.out w1 H1.out) ?_
  rintro e w2 ⟨rfl, rfl⟩
  go_wp2
  have HM := hide (H1.out.move (q := hi) HPB.out.1)
  have HF := hide (frm_setCell w1 ⟨c, 1, none⟩ (.int .i64 (hi : Int)))
  clear c1 c2 f1
  generalize w1.setCell ⟨c, 1, none⟩ (.int .i64 (hi : Int)) = W at *
  have c0 := HM.out.c0
  have c1 := HM.out.c1
  have hdr : ∀ n, Below W.heap.size W (W.drewN n) := fun n => ⟨rfl, rfl, rfl, Nat.le_refl _, fun _ _ => rfl⟩
  by_cases hp : b0 < len
  · have hcap : ¬ len = b0 := by omega
    have hcap2 : ¬ b0 = len := by omega
    have HD : Hid (Bts W (some ⟨g, b0, none⟩) m (len - b0) (cut L b0 m)) := by
      have := (HM.out.bts.drop b0 (by omega)).take m (by have := HPB.out; omega)
      rw [Nat.zero_add] at this
      exact this
    have s1 := fun n => bts_string (HD.out.below (hdr n))
    obtain ⟨S, hS⟩ : ∃ S, str (cut L b0 m) = S := ⟨_, rfl⟩
    rw [hS] at s1
    have HSS := hide hS
    have HDR := hide hdr
    clear hdr hS
    refine wp_region_quiet_lit (by kernel_rfl) (by kernel_rfl) ?_
    repeat (go_big_quiet_step (fail))
    refine wpQuiet_nil ?_
    intro _ hw'
    obtain ⟨nq, rfl⟩ := hw'
    go_wp2
    go_ret2
    refine ⟨by rw [HSS.out]; rfl, HM.out.below (HDR.out nq), (Frm.ofBelow HB.out).trans (HF.out.trans (Frm.ofBelow (HDR.out nq)) (fun j _ t => t)) (fun j _ t => t)⟩
  · obtain rfl : b0 = len := by omega
    obtain rfl : m = 0 := by omega
    obtain rfl : b0 = hi := by omega
    have s1 := fun (a : Option Addr) (n : Nat) => bts_string (nil_bts (W.drewN n) a L b0)
    obtain ⟨S, hS⟩ : ∃ S, str (cut L b0 0) = S := ⟨_, rfl⟩
    rw [hS] at s1
    have HSS := hide hS
    have HDR := hide hdr
    clear hdr hS
    refine wp_region_quiet_lit (by kernel_rfl) (by kernel_rfl) ?_
    repeat (go_big_quiet_step (fail))
    refine wpQuiet_nil ?_
    intro _ hw'
    obtain ⟨nq, rfl⟩ := hw'
    go_wp2
    go_ret2
    refine ⟨by rw [HSS.out]; rfl, HM.out.below (HDR.out nq), (Frm.ofBelow HB.out).trans (HF.out.trans (Frm.ofBelow (HDR.out nq)) (fun j _ t => t)) (fun j _ t => t)⟩
end Go.Proofs.YtohoncgkekiihaaDoor
