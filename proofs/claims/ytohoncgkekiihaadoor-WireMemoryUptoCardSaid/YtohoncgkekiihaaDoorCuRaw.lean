/-
  The cursor of package wire: Raw, Text.
-/
import Derived.Test.YtohoncgkekiihaaDoorCuMore
namespace Go.Proofs.YtohoncgkekiihaaDoor
open Go.RowKit FerryCrc
set_option linter.unusedVariables false
set_option linter.unusedSimpArgs false

set_option maxRecDepth 100000 in
theorem raw_neg (c : Nat) (n : Int) (a12 : Addr) (w : World) (v12 : w.cell? ⟨11, 0, none⟩ = some (sent a12)) (hn : n < 0) :
    Calls Tryd.prog 58 #[.pointer (some ⟨c, 0, none⟩), .int .i64 n] w fun e w' => e = .returned (.tuple #[.slice none 0 0, sent a12]) ∧ Below w.heap.size w w' := by
  go_enter Tryd.func58, Tryd.ntmps58
  go_wp2
  go_quiet (fail)
  go_wp2
  go_ret2
  exact ⟨rfl, ⟨rfl, rfl, rfl, Nat.le_refl _, fun _ _ => rfl⟩⟩

set_option maxRecDepth 100000 in
set_option maxHeartbeats 400000 in
theorem raw_short (c g len p bd : Nat) (L : List Nat) (n : Nat) (a1 : Addr) (w : World) (h : Cur w c g len p bd L) (v1 : w.cell? ⟨1, 0, none⟩ = some (sent a1)) (hs : bd - p < n) :
    Calls Tryd.prog 58 #[.pointer (some ⟨c, 0, none⟩), .int .i64 (n : Int)] w fun e w' => ∃ ev, e = .returned (.tuple #[.slice none 0 0, ev]) ∧ AtErr w' w.heap.size ev a1 (p : Int) ∧ Below w.heap.size w w' := by
  have HC := hide (left_any c g len p bd L w h)
  have H := hide h
  have V := hide v1
  have hlt : ((bd - p : Nat) : Int) < (n : Int) := by omega
  have hlt2 : (bd - p : Nat) < n := hs
  have hn0 : ¬ (n : Int) < 0 := by omega
  generalize bd - p = q at *
  clear h v1 hs
  go_enter Tryd.func58, Tryd.ntmps58
  go_wp2_with fail
  refine Calls.mono HC.out ?_
  rintro e w1 ⟨rfl, hb⟩
  have c1 := (H.out.below hb).c1
  have v1 := cell_below V.out hb
  have HB := hide hb
  clear hb
  go_wp2
  go_region_held3 (fun wz => wz.cell? ⟨1, 0, none⟩ = some (sent a1) ∧ wz.cell? ⟨c, 1, none⟩ = some (.int .i64 (p : Int))) (first | exact ⟨v1, c1⟩ | exact hold2) (first | (go_at_call 54; refine (placed_any a1 _ _).mono ?_; rintro e w2 ⟨ev, rfl, ha, hb2⟩; have hold2 : w2.cell? ⟨1, 0, none⟩ = some (sent a1) ∧ w2.cell? ⟨c, 1, none⟩ = some (.int .i64 (p : Int)) := ⟨cell_below (w := w1.drew) v1 hb2, cell_below (w := w1.drew) c1 hb2⟩; have HA := hide ha; have HB2 := hide hb2; clear ha hb2))
  go_wp2
  go_ret2
  exact ⟨ev, rfl, HA.out.wk HB.out.size, HB.out.trans ((Below.refl _ _).drew.trans (HB2.out.mono HB.out.size))⟩

/-- The bytes that a slice of a cursor's bytes shows, at their end too. -/
theorem Cur.part {w : World} {c g len p bd : Nat} {L : List Nat} (h : Cur w c g len p bd L) (n : Nat) (hn : p + n ≤ bd) (hp : p < len) : Bts w (some ⟨g, p, none⟩) n (len - p) (cut L p n) := by
  have := (h.bts.drop p (by have := h.most; omega)).take n (by have := h.most; omega)
  rw [Nat.zero_add] at this
  exact this
theorem nil_bts (w : World) (a : Option Addr) (L : List Nat) (p : Nat) : Bts w a 0 0 (cut L p 0) :=
  ⟨by simp [cut], by decide, by decide, fun c hc => by simp [cut] at hc, fun _ => ⟨rfl, rfl⟩, fun k hk => by omega⟩

set_option maxRecDepth 100000 in
set_option maxHeartbeats 400000 in
theorem raw_ok (c g len p bd : Nat) (L : List Nat) (n : Nat) (w : World) (h : Cur w c g len p bd L) (hs : n ≤ bd - p) :
    Calls Tryd.prog 58 #[.pointer (some ⟨c, 0, none⟩), .int .i64 (n : Int)] w fun e w' => ∃ b, w.heap.size ≤ b ∧ e = .returned (.tuple #[.slice (some ⟨b, 0, none⟩) n n, .nilIface]) ∧ Own w' w.heap.size (.slice (some ⟨b, 0, none⟩) n n) (cut L p n) ∧ Cur w' c g len (p + n) bd L ∧ Frm (fun k => k = c) w w' := by
  have HC := hide (left_any c g len p bd L w h)
  have H := hide h
  have hq := h.le
  have hq2 := h.most
  have hq3 := h.bts.most
  have hpn : p + n ≤ bd := by omega
  have hlt : ¬ ((bd - p : Nat) : Int) < (n : Int) := by omega
  have hlt2 : ¬ (bd - p : Nat) < n := by omega
  have hn0 : ¬ (n : Int) < 0 := by omega
  generalize bd - p = q at *
  have E3 : Hid (((p + n : Nat) : Int) = (p : Int) + (n : Int)) := by unfold Hid; omega
  obtain ⟨hi, hhi⟩ : ∃ hi, p + n = hi := ⟨_, rfl⟩
  have e3 : (p : Int) + (n : Int) = (hi : Int) := by omega
  have hwh : IntKind.i64.wrap (hi : Int) = (hi : Int) := by rw [IntKind.wrap_i64]; omega
  have i1 : (0 : Int) ≤ (p : Int) := by omega
  have i2 : (p : Int) ≤ (hi : Int) := by omega
  have i3 : (hi : Int) ≤ (len : Int) := by omega
  have i4 : (0 : Int) ≤ (hi : Int) := by omega
  have HPB : Hid (hi ≤ bd) := by unfold Hid; omega
  have h5 : p ≤ hi := by omega
  have h6 : hi ≤ len := by omega
  have h7 : hi - p = n := by omega
  have HI := hide hhi
  clear h hs hhi hpn
  by_cases hp : p < len
  · have hcap : ¬ len = p := by omega
    have hcap2 : ¬ p = len := by omega
    go_enter Tryd.func58, Tryd.ntmps58
    go_wp2_with fail
    refine Calls.mono HC.out ?_
    rintro e w1 ⟨rfl, hb⟩
    have H1 := hide (H.out.below hb)
    have HD := hide (H1.out.part n (by have := HI.out; have := HPB.out; omega) hp)
    have c0 := H1.out.c0
    have c1 := H1.out.c1
    have HB := hide hb
    clear hb
    go_wp2
    go_region_held3 (fun wz => wz.cell? ⟨c, 0, none⟩ = some (.slice (some ⟨g, 0, none⟩) len len) ∧ wz.cell? ⟨c, 1, none⟩ = some (.int .i64 (p : Int))) (first | exact ⟨c0, c1⟩ | exact hold2) (first | (go_at_call 77; refine (wfresh_any _ _ _ _ _ (HD.out.below (Below.refl _ _).drew)).mono ?_; rintro e w2 ⟨rfl, ho, hb2⟩; have hold2 : w2.cell? ⟨c, 0, none⟩ = some (.slice (some ⟨g, 0, none⟩) len len) ∧ w2.cell? ⟨c, 1, none⟩ = some (.int .i64 (p : Int)) := ⟨cell_below (w := w1.drew) c0 hb2, cell_below (w := w1.drew) c1 hb2⟩; have HO := hide ho; have HB2 := hide hb2; clear ho hb2))
    have H2 := hide (H1.out.below ((Below.refl _ _).drew.trans HB2.out))
    have r1 := H2.out.c1
    have f1 := H2.out.f1
    go_wp2
    go_ret2
    have hmv := H2.out.move (q := hi) HPB.out
    have HF := (Frm.ofBelow (S := fun k => k = c) (chain HB.out ((Below.refl _ _).drew.trans HB2.out))).trans (frm_setCell w2 ⟨c, 1, none⟩ (.int .i64 (hi : Int))) (fun j _ t => t)
    refine ⟨w1.heap.size, HB.out.size, rfl, ?_, by rw [HI.out]; exact hmv, HF⟩
    exact (HO.out.wk HB.out.size).frm (frm_setCell w2 ⟨c, 1, none⟩ (.int .i64 (hi : Int))) (fun k hk e => by
      simp only [Value.ownBlock, Option.some.injEq] at hk
      have := H.out.lt
      have := HB.out.size
      simp only at e
      have hx : (w1.drew.heap.size) = w1.heap.size := rfl
      omega)
  · obtain rfl : p = len := by omega
    obtain rfl : n = 0 := by have := HI.out; omega
    obtain rfl : p = hi := by have := HI.out; omega
    go_enter Tryd.func58, Tryd.ntmps58
    go_wp2_with fail
    refine Calls.mono HC.out ?_
    rintro e w1 ⟨rfl, hb⟩
    have H1 := hide (H.out.below hb)
    have HD := hide (fun (a : Option Addr) (wx : World) => nil_bts wx a L p)
    have c0 := H1.out.c0
    have c1 := H1.out.c1
    have HB := hide hb
    clear hb
    go_wp2
    go_region_held3 (fun wz => wz.cell? ⟨c, 0, none⟩ = some (.slice (some ⟨g, 0, none⟩) p p) ∧ wz.cell? ⟨c, 1, none⟩ = some (.int .i64 (p : Int))) (first | exact ⟨c0, c1⟩ | exact hold2) (first | (go_at_call 77; refine (wfresh_any _ _ _ _ _ (HD.out _ _)).mono ?_; rintro e w2 ⟨rfl, ho, hb2⟩; have hold2 : w2.cell? ⟨c, 0, none⟩ = some (.slice (some ⟨g, 0, none⟩) p p) ∧ w2.cell? ⟨c, 1, none⟩ = some (.int .i64 (p : Int)) := ⟨cell_below (w := w1.drew) c0 hb2, cell_below (w := w1.drew) c1 hb2⟩; have HO := hide ho; have HB2 := hide hb2; clear ho hb2))
    have H2 := hide (H1.out.below ((Below.refl _ _).drew.trans HB2.out))
    have r1 := H2.out.c1
    have f1 := H2.out.f1
    go_wp2
    go_ret2
    have hmv := H2.out.move (q := p) HPB.out
    have HF := (Frm.ofBelow (S := fun k => k = c) (chain HB.out ((Below.refl _ _).drew.trans HB2.out))).trans (frm_setCell w2 ⟨c, 1, none⟩ (.int .i64 (p : Int))) (fun j _ t => t)
    refine ⟨w1.heap.size, HB.out.size, rfl, ?_, hmv, HF⟩
    exact (HO.out.wk HB.out.size).frm (frm_setCell w2 ⟨c, 1, none⟩ (.int .i64 (p : Int))) (fun k hk e => by
      simp only [Value.ownBlock, Option.some.injEq] at hk
      have := H.out.lt
      have := HB.out.size
      simp only at e
      have hx : (w1.drew.heap.size) = w1.heap.size := rfl
      omega)
end Go.Proofs.YtohoncgkekiihaaDoor
