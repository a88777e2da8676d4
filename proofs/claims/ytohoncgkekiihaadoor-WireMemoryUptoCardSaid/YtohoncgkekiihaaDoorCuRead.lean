/-
  The cursor of package wire: numbers and bytes are read; the end.
-/
import Derived.Test.YtohoncgkekiihaaDoorCuStep
import Derived.Test.YtohoncgkekiihaaDoorCuRest
namespace Go.Proofs.YtohoncgkekiihaaDoor
open Go.RowKit FerryCrc
set_option linter.unusedVariables false
set_option linter.unusedSimpArgs false

/-- What a call of a cursor that was refused leaves: an error of number i at q. -/
def Told (w w' : World) (E : Nat → Addr) (ev : Value) (i q : Nat) : Prop := AtErr w' w.heap.size ev (E i) (q : Int) ∧ Below w.heap.size w w'

set_option maxRecDepth 100000 in
theorem ranged_arg (c : Nat) (wd lo hi : Int) (a12 : Addr) (w : World) (v12 : w.cell? ⟨11, 0, none⟩ = some (sent a12)) (h1 : wd ≠ 1) (h2 : wd ≠ 2) (h4 : wd ≠ 4) :
    Calls Tryd.prog 73 #[.pointer (some ⟨c, 0, none⟩), .int .i64 wd, .int .i64 lo, .int .i64 hi] w fun e w' => e = .returned (.tuple #[.int .i64 0, sent a12]) ∧ Below w.heap.size w w' := by
  have d1 : (wd != 1) = true := by simp [h1]
  have d2 : (wd != 2) = true := by simp [h2]
  have d4 : (wd != 4) = true := by simp [h4]
  clear h1 h2 h4
  go_enter Tryd.func73, Tryd.ntmps73
  go_wp2
  go_quiet (fail)
  go_wp2
  go_ret2
  exact ⟨rfl, ⟨rfl, rfl, rfl, Nat.le_refl _, fun _ _ => rfl⟩⟩

set_option maxRecDepth 100000 in
set_option maxHeartbeats 400000 in
theorem ranged_short (c g len p bd : Nat) (L : List Nat) (n : Nat) (lo hi : Int) (a1 : Addr) (w : World) (h : Cur w c g len p bd L) (v1 : w.cell? ⟨1, 0, none⟩ = some (sent a1)) (hn : n = 1 ∨ n = 2 ∨ n = 4) (hs : bd - p < n) :
    Calls Tryd.prog 73 #[.pointer (some ⟨c, 0, none⟩), .int .i64 (n : Int), .int .i64 lo, .int .i64 hi] w fun e w' => ∃ ev, e = .returned (.tuple #[.int .i64 0, ev]) ∧ AtErr w' w.heap.size ev a1 (p : Int) ∧ Below w.heap.size w w' := by
  have HC := hide (left_any c g len p bd L w h)
  have H := hide h
  have V := hide v1
  have hlt : ((bd - p : Nat) : Int) < (n : Int) := by omega
  have hlt2 : (bd - p : Nat) < n := hs
  generalize bd - p = q at *
  have dw : (((n : Int) != 1 && (n : Int) != 2) && (n : Int) != 4) = false := by rcases hn with rfl | rfl | rfl <;> rfl
  clear h v1 hs
  rcases hn with rfl | rfl | rfl
  all_goals
    go_enter Tryd.func73, Tryd.ntmps73
    go_wp2_with fail
    refine Calls.mono HC.out ?_
    rintro e w1 ⟨rfl, hb⟩
    have c1 := (H.out.below hb).c1
    have v1 := cell_below V.out hb
    have HB := hide hb
    clear hb
    go_wp2
    go_region_held3 (fun wz => wz.cell? ⟨1, 0, none⟩ = some (sent a1) ∧ wz.cell? ⟨c, 1, none⟩ = some (.int .i64 (p : Int))) (first | exact ⟨v1, c1⟩ | exact hold2) (first | (go_at_call 54; refine (placed_any a1 _ _).mono ?_; rintro e w2 ⟨ev, rfl, ha, hb2⟩; have hold2 : w2.cell? ⟨1, 0, none⟩ = some (sent a1) ∧ w2.cell? ⟨c, 1, none⟩ = some (.int .i64 (p : Int)) := ⟨cell_below (w := w1.drew) v1 hb2, cell_below (w := w1.drew) c1 hb2⟩; have HA := hide ha; have HB2 := hide hb2; clear ha hb2))
    go_wp2
    go_ret2
    exact ⟨ev, rfl, HA.out.wk HB.out.size, HB.out.trans ((Below.refl _ _).drew.trans (HB2.out.mono HB.out.size))⟩

set_option maxRecDepth 100000 in
set_option maxHeartbeats 400000 in
theorem ranged_out (c g len p bd : Nat) (L : List Nat) (n : Nat) (lo hi : Int) (a4 : Addr) (w : World) (h : Cur w c g len p bd L) (v4 : w.cell? ⟨4, 0, none⟩ = some (sent a4)) (hn : n = 1 ∨ n = 2 ∨ n = 4) (hs : n ≤ bd - p) (ho : (nbe (cut L p n) : Int) < lo ∨ hi < (nbe (cut L p n) : Int)) :
    Calls Tryd.prog 73 #[.pointer (some ⟨c, 0, none⟩), .int .i64 (n : Int), .int .i64 lo, .int .i64 hi] w fun e w' => ∃ ev, e = .returned (.tuple #[.int .i64 0, ev]) ∧ AtErr w' w.heap.size ev a4 (p : Int) ∧ Below w.heap.size w w' := by
  have HC := hide (left_any c g len p bd L w h)
  have HP := hide (fun w2 (h2 : Cur w2 c g len p bd L) => peek_any c g len p bd L p n w2 h2 (by omega) (by omega) (by have := h.most; omega))
  have H := hide h
  have V := hide v4
  have hlt : ¬ ((bd - p : Nat) : Int) < (n : Int) := by omega
  have hlt2 : ¬ (bd - p : Nat) < n := by omega
  generalize bd - p = q at *
  have HO : Hid ((nbe (cut L p n) : Int) < lo ∨ ¬ (nbe (cut L p n) : Int) < lo ∧ hi < (nbe (cut L p n) : Int)) := by
    unfold Hid
    rcases ho with ho | ho
    · exact .inl ho
    · by_cases hx : (nbe (cut L p n) : Int) < lo
      · exact .inl hx
      · exact .inr ⟨hx, ho⟩
  generalize nbe (cut L p n) = m at *
  clear h v4 hs ho
  have key : ((m : Int) < lo ∨ ¬ (m : Int) < lo ∧ hi < (m : Int)) := HO.out
  rcases key with key | ⟨key0, key⟩
  all_goals
    rcases hn with rfl | rfl | rfl
    all_goals
      go_enter Tryd.func73, Tryd.ntmps73
      go_wp2_with fail
      refine Calls.mono HC.out ?_
      rintro e w1 ⟨rfl, hb⟩
      have H1 := hide (H.out.below hb)
      have c1 := H1.out.c1
      have v1 := cell_below V.out hb
      have HB := hide hb
      clear hb
      go_wp2_with fail
      refine Calls.mono (HP.out w1 H1.out) ?_
      rintro e w2 ⟨rfl, rfl⟩
      go_wp2
      go_region_held3 (fun wz => wz.cell? ⟨4, 0, none⟩ = some (sent a4) ∧ wz.cell? ⟨c, 1, none⟩ = some (.int .i64 (p : Int))) (first | exact ⟨v1, c1⟩ | exact hold2) (first | (go_at_call 54; refine (placed_any a4 _ _).mono ?_; rintro e w2 ⟨ev, rfl, ha, hb2⟩; have hold2 : w2.cell? ⟨4, 0, none⟩ = some (sent a4) ∧ w2.cell? ⟨c, 1, none⟩ = some (.int .i64 (p : Int)) := ⟨cell_below (w := w1.drew) v1 hb2, cell_below (w := w1.drew) c1 hb2⟩; have HA := hide ha; have HB2 := hide hb2; clear ha hb2))
      go_wp2
      go_ret2
      exact ⟨ev, rfl, HA.out.wk HB.out.size, HB.out.trans ((Below.refl _ _).drew.trans (HB2.out.mono HB.out.size))⟩

set_option maxRecDepth 100000 in
set_option maxHeartbeats 400000 in
theorem ranged_ok (c g len p bd : Nat) (L : List Nat) (n : Nat) (lo hi : Int) (w : World) (h : Cur w c g len p bd L) (hn : n = 1 ∨ n = 2 ∨ n = 4) (hs : n ≤ bd - p) (h1 : lo ≤ (nbe (cut L p n) : Int)) (h2 : (nbe (cut L p n) : Int) ≤ hi) :
    Calls Tryd.prog 73 #[.pointer (some ⟨c, 0, none⟩), .int .i64 (n : Int), .int .i64 lo, .int .i64 hi] w fun e w' => e = .returned (.tuple #[.int .i64 ((nbe (cut L p n) : Nat) : Int), .nilIface]) ∧ Cur w' c g len (p + n) bd L ∧ Frm (fun k => k = c) w w' := by
  have HC := hide (left_any c g len p bd L w h)
  have HP := hide (fun w2 (h2 : Cur w2 c g len p bd L) => peek_any c g len p bd L p n w2 h2 (by omega) (by omega) (by have := h.most; omega))
  have H := hide h
  have hq := h.le
  have hq2 := h.most
  have hq3 := h.bts.most
  have hpn : p + n ≤ bd := by omega
  have hlt : ¬ ((bd - p : Nat) : Int) < (n : Int) := by omega
  have hlt2 : ¬ (bd - p : Nat) < n := by omega
  generalize bd - p = q at *
  generalize nbe (cut L p n) = m at *
  have d1 : ¬ (m : Int) < lo := by omega
  have d2 : ¬ hi < (m : Int) := by omega
  have E3 : Hid (((p + n : Nat) : Int) = (p : Int) + (n : Int)) := by unfold Hid; omega
  clear h hs h1 h2
  rcases hn with rfl | rfl | rfl
  all_goals
    go_enter Tryd.func73, Tryd.ntmps73
    go_wp2_with fail
    refine Calls.mono HC.out ?_
    rintro e w1 ⟨rfl, hb⟩
    have H1 := hide (H.out.below hb)
    have c1 := H1.out.c1
    have f1 := H1.out.f1
    have HB := hide hb
    clear hb
    go_wp2_with fail
    refine Calls.mono (HP.out w1 H1.out) ?_
    rintro e w2 ⟨rfl, rfl⟩
    go_wp2
    go_ret2
    refine ⟨rfl, ?_, (Frm.ofBelow HB.out).trans (frm_setCell w1 ⟨c, 1, none⟩ _) (fun j _ t => t)⟩
    have hmv := H1.out.move hpn
    rw [E3.out] at hmv
    exact hmv

set_option maxRecDepth 100000 in
theorem end_ok (c g len p bd : Nat) (L : List Nat) (w : World) (h : Cur w c g len p bd L) (hs : bd - p = 0) :
    Calls Tryd.prog 28 #[.pointer (some ⟨c, 0, none⟩)] w fun e w' => e = .returned .nilIface ∧ Below w.heap.size w w' := by
  have HC := hide (left_any c g len p bd L w h)
  rw [hs] at HC
  clear h hs
  go_enter Tryd.func28, Tryd.ntmps28
  go_wp2_with fail
  refine Calls.mono HC.out ?_
  rintro e w1 ⟨rfl, hb⟩
  have HB := hide hb
  clear hb
  go_wp2
  go_ret
  exact ⟨rfl, HB.out⟩

set_option maxRecDepth 100000 in
set_option maxHeartbeats 400000 in
theorem end_bad (c g len p bd : Nat) (L : List Nat) (a2 : Addr) (w : World) (h : Cur w c g len p bd L) (v2 : w.cell? ⟨2, 0, none⟩ = some (sent a2)) (hs : 0 < bd - p) :
    Calls Tryd.prog 28 #[.pointer (some ⟨c, 0, none⟩)] w fun e w' => ∃ ev, e = .returned ev ∧ AtErr w' w.heap.size ev a2 (p : Int) ∧ Below w.heap.size w w' := by
  have HC := hide (left_any c g len p bd L w h)
  have H := hide h
  have V := hide v2
  have hlt : (0 : Int) < ((bd - p : Nat) : Int) := by omega
  generalize bd - p = q at *
  clear h v2
  go_enter Tryd.func28, Tryd.ntmps28
  go_wp2_with fail
  refine Calls.mono HC.out ?_
  rintro e w1 ⟨rfl, hb⟩
  have c1 := (H.out.below hb).c1
  have v1 := cell_below V.out hb
  have HB := hide hb
  clear hb
  go_wp2
  go_region_held3 (fun wz => wz.cell? ⟨2, 0, none⟩ = some (sent a2) ∧ wz.cell? ⟨c, 1, none⟩ = some (.int .i64 (p : Int))) (first | exact ⟨v1, c1⟩ | exact hold2) (first | (go_at_call 54; refine (placed_any a2 _ _).mono ?_; rintro e w2 ⟨ev, rfl, ha, hb2⟩; have hold2 : w2.cell? ⟨2, 0, none⟩ = some (sent a2) ∧ w2.cell? ⟨c, 1, none⟩ = some (.int .i64 (p : Int)) := ⟨cell_below (w := w1.drew) v1 hb2, cell_below (w := w1.drew) c1 hb2⟩; have HA := hide ha; have HB2 := hide hb2; clear ha hb2))
  go_wp2
  go_ret
  exact ⟨ev, rfl, HA.out.wk HB.out.size, HB.out.trans ((Below.refl _ _).drew.trans (HB2.out.mono HB.out.size))⟩

set_option maxRecDepth 100000 in
theorem at_any (c g len p bd : Nat) (L : List Nat) (w : World) (h : Cur w c g len p bd L) :
    Calls Tryd.prog 25 #[.pointer (some ⟨c, 0, none⟩)] w fun e w' => e = .returned (.int .i64 (p : Int)) ∧ w = w' := by
  have c1 := h.c1
  clear h
  go_enter Tryd.func25, Tryd.ntmps25
  go_wp2
  go_ret
  exact ⟨rfl, rfl⟩
end Go.Proofs.YtohoncgkekiihaaDoor
