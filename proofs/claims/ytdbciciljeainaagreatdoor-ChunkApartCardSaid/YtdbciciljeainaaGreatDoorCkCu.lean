/-
  The cursor of package wire: a number and bytes are read, where all are there.
-/
import Derived.Test.YtdbciciljeainaaGreatDoorCuBase
import Derived.Test.YtdbciciljeainaaGreatDoorLow
import Derived.Test.YtdbciciljeainaaGreatDoorErrCode
import Derived.BigRegion
import Derived.Deep.RegionWith
import Derived.Deep.RegionHeld3
namespace Go.Proofs.YtdbciciljeainaaGreatDoor
open Go.RowKit FerryCrc
set_option linter.unusedVariables false
set_option linter.unusedSimpArgs false

theorem cut_lt {L : List Nat} (hs : ∀ c ∈ L, c < 256) (p n : Nat) : nbe (cut L p n) < 256 ^ n := by
  have h := nbe_lt (cut L p n) (fun c hc => hs c (List.mem_of_mem_drop (List.mem_of_mem_take hc)))
  exact Nat.lt_of_lt_of_le h (Nat.pow_le_pow_right (by decide) (by unfold cut; rw [List.length_take]; exact Nat.min_le_left _ _))
set_option maxRecDepth 100000 in
set_option maxHeartbeats 400000 in
theorem ranged_ok (c g len p bd : Nat) (L : List Nat) (n : Nat) (lo hi : Int) (w : World) (h : Cur w c g len p bd L) (hn : n = 1 ∨ n = 2 ∨ n = 4) (hs : n ≤ bd - p) (h1 : lo ≤ (nbe (cut L p n) : Int)) (h2 : (nbe (cut L p n) : Int) ≤ hi) :
    Calls Tryz.prog 72 #[.pointer (some ⟨c, 0, none⟩), .int .i64 (n : Int), .int .i64 lo, .int .i64 hi] w fun e w' => e = .returned (.tuple #[.int .i64 ((nbe (cut L p n) : Nat) : Int), .nilIface]) ∧ Cur w' c g len (p + n) bd L ∧ Frm (fun k => k = c) w w' := by
  have HC := hide (left_any c g len p bd L w h)
  have HP := hide (fun w2 (h2 : Cur w2 c g len p bd L) => peek_any c g len p bd L p n w2 h2 (by omega) (by omega) (by have := h.most; omega))
  have H := hide h
  have hq := h.le
  have hq2 := h.most
  have hq3 := h.bts.most
  have hpn : p + n ≤ bd := by omega
  have hlt : ¬ ((bd - p : Nat) : Int) < (n : Int) := by omega
  have hlt2 : ¬ (bd - p : Nat) < n := by omega
  generalize bd - p = q at *
  generalize nbe (cut L p n) = m at *
  have d1 : ¬ (m : Int) < lo := by omega
  have d2 : ¬ hi < (m : Int) := by omega
  have E3 : Hid (((p + n : Nat) : Int) = (p : Int) + (n : Int)) := by unfold Hid; omega
  clear h hs h1 h2
  rcases hn with rfl | rfl | rfl
  all_goals
    go_enter Tryz.func72, Tryz.ntmps72
    go_wp2_with fail
    refine Calls.mono HC.out ?_
    rintro e w1 ⟨rfl, hb⟩
    have H1 := hide (H.out.below hb)
    have c1 := H1.out.c1
    have f1 := H1.out.f1
    have HB := hide hb
    clear hb
    go_wp2_with fail
    refine Calls.mono (HP.out w1 H1.out) ?_
    rintro e w2 ⟨rfl, rfl⟩
    go_wp2
    go_ret2
    refine ⟨rfl, ?_, (Frm.ofBelow HB.out).trans (frm_setCell w1 ⟨c, 1, none⟩ _) (fun j _ t => t)⟩
    have hmv := H1.out.move hpn
    rw [E3.out] at hmv
    exact hmv

theorem Cur.part {w : World} {c g len p bd : Nat} {L : List Nat} (h : Cur w c g len p bd L) (n : Nat) (hn : p + n ≤ bd) (hp : p < len) : Bts w (some ⟨g, p, none⟩) n (len - p) (cut L p n) := by
  have := (h.bts.drop p (by have := h.most; omega)).take n (by have := h.most; omega)
  rw [Nat.zero_add] at this
  exact this

theorem nil_bts (w : World) (a : Option Addr) (L : List Nat) (p : Nat) : Bts w a 0 0 (cut L p 0) :=
  ⟨by simp [cut], by decide, by decide, fun c hc => by simp [cut] at hc, fun _ => ⟨rfl, rfl⟩, fun k hk => by omega⟩

set_option maxRecDepth 100000 in
set_option maxHeartbeats 400000 in
theorem raw_ok (c g len p bd : Nat) (L : List Nat) (n : Nat) (w : World) (h : Cur w c g len p bd L) (hs : n ≤ bd - p) :
    Calls Tryz.prog 73 #[.pointer (some ⟨c, 0, none⟩), .int .i64 (n : Int)] w fun e w' => ∃ b, w.heap.size ≤ b ∧ e = .returned (.tuple #[.slice (some ⟨b, 0, none⟩) n n, .nilIface]) ∧ Own w' w.heap.size (.slice (some ⟨b, 0, none⟩) n n) (cut L p n) ∧ Cur w' c g len (p + n) bd L ∧ Frm (fun k => k = c) w w' := by
  have HC := hide (left_any c g len p bd L w h)
  have H := hide h
  have hq := h.le
  have hq2 := h.most
  have hq3 := h.bts.most
  have hpn : p + n ≤ bd := by omega
  have hlt : ¬ ((bd - p : Nat) : Int) < (n : Int) := by omega
  have hlt2 : ¬ (bd - p : Nat) < n := by omega
  have hn0 : ¬ (n : Int) < 0 := by omega
  generalize bd - p = q at *
  have E3 : Hid (((p + n : Nat) : Int) = (p : Int) + (n : Int)) := by unfold Hid; omega
  obtain ⟨hi, hhi⟩ : ∃ hi, p + n = hi := ⟨_, rfl⟩
  have e3 : (p : Int) + (n : Int) = (hi : Int) := by omega
  have hwh : IntKind.i64.wrap (hi : Int) = (hi : Int) := by rw [IntKind.wrap_i64]; omega
  have i1 : (0 : Int) ≤ (p : Int) := by omega
  have i2 : (p : Int) ≤ (hi : Int) := by omega
  have i3 : (hi : Int) ≤ (len : Int) := by omega
  have i4 : (0 : Int) ≤ (hi : Int) := by omega
  have HPB : Hid (hi ≤ bd) := by unfold Hid; omega
  have h5 : p ≤ hi := by omega
  have h6 : hi ≤ len := by omega
  have h7 : hi - p = n := by omega
  have HI := hide hhi
  clear h hs hhi hpn
  by_cases hp : p < len
  · have hcap : ¬ len = p := by omega
    have hcap2 : ¬ p = len := by omega
    go_enter Tryz.func73, Tryz.ntmps73
    go_wp2_with fail
    refine Calls.mono HC.out ?_
    rintro e w1 ⟨rfl, hb⟩
    have H1 := hide (H.out.below hb)
    have HD := hide (H1.out.part n (by have := HI.out; have := HPB.out; omega) hp)
    have c0 := H1.out.c0
    have c1 := H1.out.c1
    have HB := hide hb
    clear hb
    go_wp2
    go_region_held3 (fun wz => wz.cell? ⟨c, 0, none⟩ = some (.slice (some ⟨g, 0, none⟩) len len) ∧ wz.cell? ⟨c, 1, none⟩ = some (.int .i64 (p : Int))) (first | exact ⟨c0, c1⟩ | exact hold2) (first | (go_at_call 65; refine (wfresh_any _ _ _ _ _ (HD.out.below (Below.refl _ _).drew)).mono ?_; rintro e w2 ⟨rfl, ho, hb2⟩; have hold2 : w2.cell? ⟨c, 0, none⟩ = some (.slice (some ⟨g, 0, none⟩) len len) ∧ w2.cell? ⟨c, 1, none⟩ = some (.int .i64 (p : Int)) := ⟨cell_below (w := w1.drew) c0 hb2, cell_below (w := w1.drew) c1 hb2⟩; have HO := hide ho; have HB2 := hide hb2; clear ho hb2))
    have H2 := hide (H1.out.below ((Below.refl _ _).drew.trans HB2.out))
    have r1 := H2.out.c1
    have f1 := H2.out.f1
    go_wp2
    go_ret2
    have hmv := H2.out.move (q := hi) HPB.out
    have HF := (Frm.ofBelow (S := fun k => k = c) (chain HB.out ((Below.refl _ _).drew.trans HB2.out))).trans (frm_setCell w2 ⟨c, 1, none⟩ (.int .i64 (hi : Int))) (fun j _ t => t)
    refine ⟨w1.heap.size, HB.out.size, rfl, ?_, by rw [HI.out]; exact hmv, HF⟩
    exact (HO.out.wk HB.out.size).frm (frm_setCell w2 ⟨c, 1, none⟩ (.int .i64 (hi : Int))) (fun k hk e => by
      simp only [Value.ownBlock, Option.some.injEq] at hk
      have := H.out.lt
      have := HB.out.size
      simp only at e
      have hx : (w1.drew.heap.size) = w1.heap.size := rfl
      omega)
  · obtain rfl : p = len := by omega
    obtain rfl : n = 0 := by have := HI.out; omega
    obtain rfl : p = hi := by have := HI.out; omega
    go_enter Tryz.func73, Tryz.ntmps73
    go_wp2_with fail
    refine Calls.mono HC.out ?_
    rintro e w1 ⟨rfl, hb⟩
    have H1 := hide (H.out.below hb)
    have HD := hide (fun (a : Option Addr) (wx : World) => nil_bts wx a L p)
    have c0 := H1.out.c0
    have c1 := H1.out.c1
    have HB := hide hb
    clear hb
    go_wp2
    go_region_held3 (fun wz => wz.cell? ⟨c, 0, none⟩ = some (.slice (some ⟨g, 0, none⟩) p p) ∧ wz.cell? ⟨c, 1, none⟩ = some (.int .i64 (p : Int))) (first | exact ⟨c0, c1⟩ | exact hold2) (first | (go_at_call 65; refine (wfresh_any _ _ _ _ _ (HD.out _ _)).mono ?_; rintro e w2 ⟨rfl, ho, hb2⟩; have hold2 : w2.cell? ⟨c, 0, none⟩ = some (.slice (some ⟨g, 0, none⟩) p p) ∧ w2.cell? ⟨c, 1, none⟩ = some (.int .i64 (p : Int)) := ⟨cell_below (w := w1.drew) c0 hb2, cell_below (w := w1.drew) c1 hb2⟩; have HO := hide ho; have HB2 := hide hb2; clear ho hb2))
    have H2 := hide (H1.out.below ((Below.refl _ _).drew.trans HB2.out))
    have r1 := H2.out.c1
    have f1 := H2.out.f1
    go_wp2
    go_ret2
    have hmv := H2.out.move (q := p) HPB.out
    have HF := (Frm.ofBelow (S := fun k => k = c) (chain HB.out ((Below.refl _ _).drew.trans HB2.out))).trans (frm_setCell w2 ⟨c, 1, none⟩ (.int .i64 (p : Int))) (fun j _ t => t)
    refine ⟨w1.heap.size, HB.out.size, rfl, ?_, hmv, HF⟩
    exact (HO.out.wk HB.out.size).frm (frm_setCell w2 ⟨c, 1, none⟩ (.int .i64 (p : Int))) (fun k hk e => by
      simp only [Value.ownBlock, Option.some.injEq] at hk
      have := H.out.lt
      have := HB.out.size
      simp only at e
      have hx : (w1.drew.heap.size) = w1.heap.size := rfl
      omega)

set_option maxRecDepth 100000 in
theorem cnum_ok (c g len p bd : Nat) (L : List Nat) (w : World) (h : Cur w c g len p bd L) (hs : 2 ≤ bd - p) (hb : nbe (cut L p 2) < 65536) :
    Calls Tryz.prog 70 #[.pointer (some ⟨c, 0, none⟩), .int .i64 2] w fun e w' => e = .returned (.tuple #[.int .i64 ((nbe (cut L p 2) : Nat) : Int), .nilIface]) ∧ Cur w' c g len (p + 2) bd L ∧ Frm (fun k => k = c) w w' := by
  have HC := hide (ranged_ok c g len p bd L 2 0 65535 w h (.inr (.inl rfl)) hs (by omega) (by omega))
  clear h hs hb
  go_enter Tryz.func70, Tryz.ntmps70
  go_wp2_with fail
  refine Calls.mono HC.out ?_
  rintro e w1 ⟨rfl, h1, h2⟩
  have H1 := hide h1
  have H2 := hide h2
  clear h1 h2
  go_wp2
  go_ret2
  exact ⟨rfl, H1.out, H2.out⟩
set_option maxRecDepth 100000 in
theorem cu16_ok (c g len p bd : Nat) (L : List Nat) (w : World) (h : Cur w c g len p bd L) (hs : 2 ≤ bd - p) (hb : nbe (cut L p 2) < 65536) :
    Calls Tryz.prog 49 #[.pointer (some ⟨c, 0, none⟩)] w fun e w' => e = .returned (.tuple #[.int .i64 ((nbe (cut L p 2) : Nat) : Int), .nilIface]) ∧ Cur w' c g len (p + 2) bd L ∧ Frm (fun k => k = c) w w' := by
  have HC := hide (cnum_ok c g len p bd L w h hs hb)
  clear h hs hb
  go_enter Tryz.func49, Tryz.ntmps49
  go_wp2_with fail
  refine Calls.mono HC.out ?_
  rintro e w1 ⟨rfl, h1, h2⟩
  have H1 := hide h1
  have H2 := hide h2
  clear h1 h2
  go_wp2
  go_ret2
  exact ⟨rfl, H1.out, H2.out⟩
end Go.Proofs.YtdbciciljeainaaGreatDoor
