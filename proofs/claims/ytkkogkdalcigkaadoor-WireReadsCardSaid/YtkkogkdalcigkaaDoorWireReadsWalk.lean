/-
  The law's reads: a call on its cursors, on both sides.
  The law's reads: texts, the end, the place, raw bytes.
  The law's reads: raw bytes, which are written over and grown behind the call.
  Walk of the law WireReads.
-/
import Derived.Test.YtkkogkdalcigkaaDoorRdApp
import Derived.Test.YtkkogkdalcigkaaDoorWireStaysWalk
namespace Go.Proofs.YtkkogkdalcigkaaDoor
open Go.RowKit FerryCrc
set_option linter.unusedVariables false
set_option linter.unusedSimpArgs false

theorem number_any {E : Nat → Addr} (w0 : World) (c g len p bd : Nat) (L : List Nat) (d h cap : Nat) (kind : Int) (sec : Bool) (cur n lo hi : Int) (S : ByteArray) (w : World) (hk : Cur w c g len p bd L) (hd : Doc w d h len cap p bd L) (he : Errs w0 E) (hb0 : Below w0.heap.size w0 w) (hc0 : w0.heap.size ≤ c) (hd0 : w0.heap.size ≤ d) (hcd : c ≠ d) (hgd : g ≠ d) (hhc : h ≠ c) :
    Calls Tryd.prog 80 #[.pointer (some ⟨c, 0, none⟩), .pointer (some ⟨d, 0, none⟩), .agg #[.int .i64 kind, .bool sec, .int .i64 cur, .int .i64 n, .int .i64 lo, .int .i64 hi, .string S]] w fun e w' => Moved w c g len bd L d h cap e w' := by
  by_cases h12 : kind = 12
  · subst h12; exact number_u8 w0 c g len p bd L d h cap sec cur n lo hi S w hk hd he hb0 hc0 hd0 hcd hgd hhc
  by_cases h13 : kind = 13
  · subst h13; exact number_u16 w0 c g len p bd L d h cap sec cur n lo hi S w hk hd he hb0 hc0 hd0 hcd hgd hhc
  by_cases h14 : kind = 14
  · subst h14; exact number_u32 w0 c g len p bd L d h cap sec cur n lo hi S w hk hd he hb0 hc0 hd0 hcd hgd hhc
  by_cases h15 : kind = 15
  · subst h15; exact number_flag w0 c g len p bd L d h cap sec cur n lo hi S w hk hd he hb0 hc0 hd0 hcd hgd hhc
  by_cases h16 : kind = 16
  · subst h16; exact number_ranged w0 c g len p bd L d h cap sec cur n lo hi S w hk hd he hb0 hc0 hd0 hcd hgd hhc
  exact number_other w0 c g len p bd L d h cap kind sec cur n lo hi S w hk hd he hb0 hc0 hd0 hcd hgd hhc h12 h13 h14 h15 h16
theorem went_step {w0 w w' : World} {B : Nat} {v1 v2 : Value} {xs : List RI} {i : Nat} {x : RI} {q : Nat} (h : Rd w B v1 v2 xs) (hx : xs[i]? = some x) (hf : Frm (fun k => k = x.c ∨ k = x.d) w w') (hk : Cur w' x.c x.g x.len q x.bd x.L) (hd : Doc w' x.d x.h x.len x.cap q x.bd x.L) (hb0 : Below w0.heap.size w0 w) (hB0 : w0.heap.size ≤ B) : Went w0 B xs.length (.returned (.bool true)) w' :=
  ⟨rfl, v1, v2, _, h.step (q := q) hx hf ⟨hk, hd, (h.is i x hx).sm⟩, by rw [List.length_set]; omega, hb0.trans (hf.below hb0.size (fun k e => by
    have a := (h.far i x x.c hx (.inl rfl)).1
    have b := (h.far i x x.d hx (.inr (.inl rfl))).1
    rcases e with e | e <;> omega))⟩
theorem went_same {w0 w w' : World} {B : Nat} {v1 v2 : Value} {xs : List RI} (h : Rd w B v1 v2 xs) (hb : Below w.heap.size w w') (hb0 : Below w0.heap.size w0 w) : Went w0 B xs.length (.returned (.bool true)) w' :=
  ⟨rfl, v1, v2, xs, h.below hb, by omega, chain hb0 hb⟩

set_option maxRecDepth 100000 in
set_option maxHeartbeats 1600000 in
theorem reads_open {E : Nat → Addr} (w0 : World) (B : Nat) (v1 v2 : Value) (xs : List RI) (sec : Bool) (cur n lo hi : Int) (S : ByteArray) (w : World) (hr : Rd w B v1 v2 xs) (he : Errs w0 E) (hb0 : Below w0.heap.size w0 w) (hB0 : w0.heap.size ≤ B) (hl : xs.length ≤ 5864062014805) (hS : S.size ≤ 140737488351232) :
    Calls Tryd.prog 37 #[.pointer (some ⟨B, 0, none⟩), .agg #[.int .i64 11, .bool sec, .int .i64 cur, .int .i64 n, .int .i64 lo, .int .i64 hi, .string S]] w fun e w' => Went w0 B xs.length e w' := by
  have HA : Hid (Below w.heap.size w (w.alloc (.cells #[.int .i64 11, .bool sec, .int .i64 cur, .int .i64 n, .int .i64 lo, .int .i64 hi, .string S] 30))) := (Below.refl _ _).alloc (Nat.le_refl _) _
  have HC := hide (open_rd w0 B v1 v2 xs S (w.alloc (.cells #[.int .i64 11, .bool sec, .int .i64 cur, .int .i64 n, .int .i64 lo, .int .i64 hi, .string S] 30)) (hr.below HA.out) (chain hb0 HA.out) hB0 (by omega) hS)
  clear hr he hb0 hB0 hl hS
  go_enter Tryd.func37, Tryd.ntmps37
  go_wp2_with fail
  refine Calls.mono HC.out ?_
  rintro e w1 ⟨rfl, hw⟩
  have HW := hide hw
  clear hw
  go_wp2
  go_ret
  exact ⟨rfl, HW.out⟩

set_option maxRecDepth 100000 in
set_option maxHeartbeats 1600000 in
theorem reads_none {E : Nat → Addr} (w0 : World) (B : Nat) (v1 v2 : Value) (xs : List RI) (kind : Int) (sec : Bool) (cur n lo hi : Int) (S : ByteArray) (w : World) (hr : Rd w B v1 v2 xs) (he : Errs w0 E) (hb0 : Below w0.heap.size w0 w) (hB0 : w0.heap.size ≤ B) (hl : xs.length ≤ 5864062014805) (hS : S.size ≤ 140737488351232) (hk11 : kind ≠ 11) (hm : xs.length = 0) :
    Calls Tryd.prog 37 #[.pointer (some ⟨B, 0, none⟩), .agg #[.int .i64 kind, .bool sec, .int .i64 cur, .int .i64 n, .int .i64 lo, .int .i64 hi, .string S]] w fun e w' => Went w0 B xs.length e w' := by
  have HA : Hid (Below w.heap.size w (w.alloc (.cells #[.int .i64 kind, .bool sec, .int .i64 cur, .int .i64 n, .int .i64 lo, .int .i64 hi, .string S] 30))) := (Below.refl _ _).alloc (Nat.le_refl _) _
  have HR := hide hr
  have HB0 := hide hb0
  obtain ⟨a1, c1, e1, hc1, hrow⟩ := row_form hr.csr.r1
  have g0 := cell_below hr.csr.two.c0 HA.out
  rw [e1, List.length_map, hm] at g0
  have d11 : (kind == 11) = false := by simp; exact hk11
  have hBl : B < w.heap.size := block_lt_of_cell hr.csr.two.c0
  clear hr he hb0 hB0 hl hS hrow e1 hk11 hm
  go_enter Tryd.func37, Tryd.ntmps37
  go_wp2
  go_ret
  exact went_same HR.out HA.out HB0.out

set_option maxRecDepth 100000 in
set_option maxHeartbeats 1600000 in
theorem reads_next {E : Nat → Addr} (w0 : World) (B : Nat) (v1 v2 : Value) (xs : List RI) (sec : Bool) (cur n lo hi : Int) (S : ByteArray) (w : World) (hr : Rd w B v1 v2 xs) (he : Errs w0 E) (hb0 : Below w0.heap.size w0 w) (hB0 : w0.heap.size ≤ B) (hl : xs.length ≤ 5864062014805) (hS : S.size ≤ 140737488351232) (hm : xs.length ≠ 0) :
    Calls Tryd.prog 37 #[.pointer (some ⟨B, 0, none⟩), .agg #[.int .i64 19, .bool sec, .int .i64 cur, .int .i64 n, .int .i64 lo, .int .i64 hi, .string S]] w fun e w' => Went w0 B xs.length e w' := by
  obtain ⟨m, hxl⟩ : ∃ m, xs.length = m := ⟨_, rfl⟩
  have hm0 : 0 < m := by omega
  obtain ⟨u, hu⟩ : ∃ u : Nat, (u : Int) = cur % 18446744073709551616 := ⟨(cur % 18446744073709551616).toNat, by omega⟩
  obtain ⟨r, hrr⟩ : ∃ r : Nat, u % m = r := ⟨_, rfl⟩
  have hrm : r < m := by rw [← hrr]; exact Nat.mod_lt _ hm0
  obtain ⟨x, hx⟩ : ∃ x, xs[r]? = some x := ⟨_, List.getElem?_eq_getElem (by omega)⟩
  have HA : Hid (Below w.heap.size w (w.alloc (.cells #[.int .i64 19, .bool sec, .int .i64 cur, .int .i64 n, .int .i64 lo, .int .i64 hi, .string S] 30))) := (Below.refl _ _).alloc (Nat.le_refl _) _
  have HR := hide (hr.below HA.out)
  have HB0 := hide (chain hb0 HA.out)
  have HX := hide hx
  have HE := hide he
  have HBB := hide hB0
  obtain ⟨a1, c1, e1, hc1, hrow1⟩ := row_form hr.csr.r1
  obtain ⟨a2, c2, e2, hc2, hrow2⟩ := row_form hr.csr.r2
  rw [List.length_map, hxl] at e1 e2 hc1 hc2
  obtain ⟨ga, rfl, hga⟩ := hrow1 (by rw [List.length_map]; omega)
  obtain ⟨gb, rfl, hgb⟩ := hrow2 (by rw [List.length_map]; omega)
  have g0 := cell_below hr.csr.two.c0 HA.out
  have g1 := cell_below hr.csr.two.c1 HA.out
  rw [e1] at g0
  rw [e2] at g1
  have gr1' := hga r (by rw [List.length_map]; omega)
  rw [List.getElem?_map, List.getElem?_map, hx] at gr1'
  have gr1 := cell_below (show w.cell? ⟨ga, r, none⟩ = some (.pointer (some ⟨x.c, 0, none⟩)) from gr1') HA.out
  have gr2' := hgb r (by rw [List.length_map]; omega)
  rw [List.getElem?_map, List.getElem?_map, hx] at gr2'
  have gr2 := cell_below (show w.cell? ⟨gb, r, none⟩ = some (.pointer (some ⟨x.d, 0, none⟩)) from gr2') HA.out
  have hBl : B < w.heap.size := block_lt_of_cell hr.csr.two.c0
  have hcu : IntKind.u64.wrap cur = (u : Int) := by rw [IntKind.wrap_u64]; exact hu.symm
  have hcu2 : cur % 18446744073709551616 = (u : Int) := hu.symm
  have hcm : IntKind.u64.wrap (m : Int) = (m : Int) := by rw [IntKind.wrap_u64]; omega
  have hcm2 : (m : Int) % 18446744073709551616 = (m : Int) := by omega
  have htm : (u : Int).tmod (m : Int) = (r : Int) := by rw [← hrr]; exact Int.ofNat_tmod u m |>.symm
  have hrw : IntKind.i64.wrap (r : Int) = (r : Int) := by rw [IntKind.wrap_i64]; omega
  have i1 : (0 : Int) ≤ (r : Int) := by omega
  have i2 : (r : Int) < (m : Int) := by omega
  have hmne : ¬ (m : Int) = 0 := by omega
  have dm : ((m : Int) == 0) = false := by simp; omega
  have HLX : Hid (xs.length + 1 ≤ 17592186044416) := by unfold Hid; omega
  have HZ : Hid (w.heap.size < (w.alloc (.cells #[.int .i64 19, .bool sec, .int .i64 cur, .int .i64 n, .int .i64 lo, .int .i64 hi, .string S] 30)).heap.size) := by unfold Hid; simp
  have z0 : (w.alloc (.cells #[.int .i64 19, .bool sec, .int .i64 cur, .int .i64 n, .int .i64 lo, .int .i64 hi, .string S] 30)).cell? ⟨w.heap.size, 0, none⟩ = some (.int .i64 19) := (World.cell?_alloc_at _ _ _ _ rfl).trans rfl
  have z1 : (w.alloc (.cells #[.int .i64 19, .bool sec, .int .i64 cur, .int .i64 n, .int .i64 lo, .int .i64 hi, .string S] 30)).cell? ⟨w.heap.size, 1, none⟩ = some (.bool sec) := (World.cell?_alloc_at _ _ _ _ rfl).trans rfl
  have z2 : (w.alloc (.cells #[.int .i64 19, .bool sec, .int .i64 cur, .int .i64 n, .int .i64 lo, .int .i64 hi, .string S] 30)).cell? ⟨w.heap.size, 2, none⟩ = some (.int .i64 cur) := (World.cell?_alloc_at _ _ _ _ rfl).trans rfl
  have z3 : (w.alloc (.cells #[.int .i64 19, .bool sec, .int .i64 cur, .int .i64 n, .int .i64 lo, .int .i64 hi, .string S] 30)).cell? ⟨w.heap.size, 3, none⟩ = some (.int .i64 n) := (World.cell?_alloc_at _ _ _ _ rfl).trans rfl
  have z4 : (w.alloc (.cells #[.int .i64 19, .bool sec, .int .i64 cur, .int .i64 n, .int .i64 lo, .int .i64 hi, .string S] 30)).cell? ⟨w.heap.size, 4, none⟩ = some (.int .i64 lo) := (World.cell?_alloc_at _ _ _ _ rfl).trans rfl
  have z5 : (w.alloc (.cells #[.int .i64 19, .bool sec, .int .i64 cur, .int .i64 n, .int .i64 lo, .int .i64 hi, .string S] 30)).cell? ⟨w.heap.size, 5, none⟩ = some (.int .i64 hi) := (World.cell?_alloc_at _ _ _ _ rfl).trans rfl
  have z6 : (w.alloc (.cells #[.int .i64 19, .bool sec, .int .i64 cur, .int .i64 n, .int .i64 lo, .int .i64 hi, .string S] 30)).cell? ⟨w.heap.size, 6, none⟩ = some (.string S) := (World.cell?_alloc_at _ _ _ _ rfl).trans rfl
  clear hr he hb0 hB0 hl hS hu hrr hx hga hgb gr1' gr2' e1 e2 hm
  go_enter Tryd.func37, Tryd.ntmps37
  go_wp2_with fail
  generalize (w.alloc (.cells #[.int .i64 19, .bool sec, .int .i64 cur, .int .i64 n, .int .i64 lo, .int .i64 hi, .string S] 30)) = W0 at *
  go_quiet (fail)
  have HQ1 : Hid (Below W0.heap.size W0 (W0.drewN nq)) := ⟨rfl, rfl, rfl, Nat.le_refl _, fun _ _ => rfl⟩
  have a0 := cell_below g0 HQ1.out
  have a1 := cell_below g1 HQ1.out
  have ar1 := cell_below gr1 HQ1.out
  have ar2 := cell_below gr2 HQ1.out
  have b0 := cell_below z0 HQ1.out
  have b1 := cell_below z1 HQ1.out
  have b2 := cell_below z2 HQ1.out
  have b3 := cell_below z3 HQ1.out
  have b4 := cell_below z4 HQ1.out
  have b5 := cell_below z5 HQ1.out
  have b6 := cell_below z6 HQ1.out
  have HR1 := hide (HR.out.below HQ1.out)
  have HB1 := hide (chain HB0.out HQ1.out)
  have HA1 := hide (chain HA.out HQ1.out)
  have HZ1 : Hid (w.heap.size < (W0.drewN nq).heap.size) := HZ.out
  clear g0 g1 gr1 gr2 z0 z1 z2 z3 z4 z5 z6 HR HB0 HA HQ1
  generalize W0.drewN nq = W1 at *
  go_wp2_with fail
  go_quiet (fail)
  rename Nat => nq2
  have HQ2 : Hid (Below W1.heap.size W1 (W1.drewN nq2)) := ⟨rfl, rfl, rfl, Nat.le_refl _, fun _ _ => rfl⟩
  have z0 := cell_below b0 HQ2.out
  have z1 := cell_below b1 HQ2.out
  have z2 := cell_below b2 HQ2.out
  have z3 := cell_below b3 HQ2.out
  have z4 := cell_below b4 HQ2.out
  have z5 := cell_below b5 HQ2.out
  have z6 := cell_below b6 HQ2.out
  have HR2 := hide (HR1.out.below HQ2.out)
  have HB2 := hide (chain HB1.out HQ2.out)
  have HZ2 : Hid (w.heap.size < (W1.drewN nq2).heap.size) := HZ1.out
  clear a0 a1 ar1 ar2 b0 b1 b2 b3 b4 b5 b6 HR1 HB1 HA1 HQ2 hcu hcu2 hcm hcm2 htm hrw i1 i2
  generalize W1.drewN nq2 = W2 at *
  go_wp2_with fail
  refine Calls.mono (record_next w0 B v1 v2 xs r x sec cur n lo hi S W2 HR2.out HX.out HE.out HB2.out HBB.out HLX.out) ?_
  rintro e w3 ⟨rfl, hw⟩
  have HW := hide hw
  clear hw z0 z1 z2 z3 z4 z5 z6
  go_wp2
  go_ret
  exact ⟨rfl, HW.out⟩

set_option maxRecDepth 100000 in
set_option maxHeartbeats 1600000 in
theorem reads_record {E : Nat → Addr} (w0 : World) (B : Nat) (v1 v2 : Value) (xs : List RI) (sec : Bool) (cur n lo hi : Int) (S : ByteArray) (w : World) (hr : Rd w B v1 v2 xs) (he : Errs w0 E) (hb0 : Below w0.heap.size w0 w) (hB0 : w0.heap.size ≤ B) (hl : xs.length ≤ 5864062014805) (hS : S.size ≤ 140737488351232) (hm : xs.length ≠ 0) :
    Calls Tryd.prog 37 #[.pointer (some ⟨B, 0, none⟩), .agg #[.int .i64 20, .bool sec, .int .i64 cur, .int .i64 n, .int .i64 lo, .int .i64 hi, .string S]] w fun e w' => Went w0 B xs.length e w' := by
  obtain ⟨m, hxl⟩ : ∃ m, xs.length = m := ⟨_, rfl⟩
  have hm0 : 0 < m := by omega
  obtain ⟨u, hu⟩ : ∃ u : Nat, (u : Int) = cur % 18446744073709551616 := ⟨(cur % 18446744073709551616).toNat, by omega⟩
  obtain ⟨r, hrr⟩ : ∃ r : Nat, u % m = r := ⟨_, rfl⟩
  have hrm : r < m := by rw [← hrr]; exact Nat.mod_lt _ hm0
  obtain ⟨x, hx⟩ : ∃ x, xs[r]? = some x := ⟨_, List.getElem?_eq_getElem (by omega)⟩
  have HA : Hid (Below w.heap.size w (w.alloc (.cells #[.int .i64 20, .bool sec, .int .i64 cur, .int .i64 n, .int .i64 lo, .int .i64 hi, .string S] 30))) := (Below.refl _ _).alloc (Nat.le_refl _) _
  have HR := hide (hr.below HA.out)
  have HB0 := hide (chain hb0 HA.out)
  have HX := hide hx
  have HE := hide he
  have HBB := hide hB0
  obtain ⟨a1, c1, e1, hc1, hrow1⟩ := row_form hr.csr.r1
  obtain ⟨a2, c2, e2, hc2, hrow2⟩ := row_form hr.csr.r2
  rw [List.length_map, hxl] at e1 e2 hc1 hc2
  obtain ⟨ga, rfl, hga⟩ := hrow1 (by rw [List.length_map]; omega)
  obtain ⟨gb, rfl, hgb⟩ := hrow2 (by rw [List.length_map]; omega)
  have g0 := cell_below hr.csr.two.c0 HA.out
  have g1 := cell_below hr.csr.two.c1 HA.out
  rw [e1] at g0
  rw [e2] at g1
  have gr1' := hga r (by rw [List.length_map]; omega)
  rw [List.getElem?_map, List.getElem?_map, hx] at gr1'
  have gr1 := cell_below (show w.cell? ⟨ga, r, none⟩ = some (.pointer (some ⟨x.c, 0, none⟩)) from gr1') HA.out
  have gr2' := hgb r (by rw [List.length_map]; omega)
  rw [List.getElem?_map, List.getElem?_map, hx] at gr2'
  have gr2 := cell_below (show w.cell? ⟨gb, r, none⟩ = some (.pointer (some ⟨x.d, 0, none⟩)) from gr2') HA.out
  have hBl : B < w.heap.size := block_lt_of_cell hr.csr.two.c0
  have hcu : IntKind.u64.wrap cur = (u : Int) := by rw [IntKind.wrap_u64]; exact hu.symm
  have hcu2 : cur % 18446744073709551616 = (u : Int) := hu.symm
  have hcm : IntKind.u64.wrap (m : Int) = (m : Int) := by rw [IntKind.wrap_u64]; omega
  have hcm2 : (m : Int) % 18446744073709551616 = (m : Int) := by omega
  have htm : (u : Int).tmod (m : Int) = (r : Int) := by rw [← hrr]; exact Int.ofNat_tmod u m |>.symm
  have hrw : IntKind.i64.wrap (r : Int) = (r : Int) := by rw [IntKind.wrap_i64]; omega
  have i1 : (0 : Int) ≤ (r : Int) := by omega
  have i2 : (r : Int) < (m : Int) := by omega
  have hmne : ¬ (m : Int) = 0 := by omega
  have dm : ((m : Int) == 0) = false := by simp; omega
  have HLX : Hid (xs.length + 1 ≤ 17592186044416) := by unfold Hid; omega
  have HZ : Hid (w.heap.size < (w.alloc (.cells #[.int .i64 20, .bool sec, .int .i64 cur, .int .i64 n, .int .i64 lo, .int .i64 hi, .string S] 30)).heap.size) := by unfold Hid; simp
  have z0 : (w.alloc (.cells #[.int .i64 20, .bool sec, .int .i64 cur, .int .i64 n, .int .i64 lo, .int .i64 hi, .string S] 30)).cell? ⟨w.heap.size, 0, none⟩ = some (.int .i64 20) := (World.cell?_alloc_at _ _ _ _ rfl).trans rfl
  have z1 : (w.alloc (.cells #[.int .i64 20, .bool sec, .int .i64 cur, .int .i64 n, .int .i64 lo, .int .i64 hi, .string S] 30)).cell? ⟨w.heap.size, 1, none⟩ = some (.bool sec) := (World.cell?_alloc_at _ _ _ _ rfl).trans rfl
  have z2 : (w.alloc (.cells #[.int .i64 20, .bool sec, .int .i64 cur, .int .i64 n, .int .i64 lo, .int .i64 hi, .string S] 30)).cell? ⟨w.heap.size, 2, none⟩ = some (.int .i64 cur) := (World.cell?_alloc_at _ _ _ _ rfl).trans rfl
  have z3 : (w.alloc (.cells #[.int .i64 20, .bool sec, .int .i64 cur, .int .i64 n, .int .i64 lo, .int .i64 hi, .string S] 30)).cell? ⟨w.heap.size, 3, none⟩ = some (.int .i64 n) := (World.cell?_alloc_at _ _ _ _ rfl).trans rfl
  have z4 : (w.alloc (.cells #[.int .i64 20, .bool sec, .int .i64 cur, .int .i64 n, .int .i64 lo, .int .i64 hi, .string S] 30)).cell? ⟨w.heap.size, 4, none⟩ = some (.int .i64 lo) := (World.cell?_alloc_at _ _ _ _ rfl).trans rfl
  have z5 : (w.alloc (.cells #[.int .i64 20, .bool sec, .int .i64 cur, .int .i64 n, .int .i64 lo, .int .i64 hi, .string S] 30)).cell? ⟨w.heap.size, 5, none⟩ = some (.int .i64 hi) := (World.cell?_alloc_at _ _ _ _ rfl).trans rfl
  have z6 : (w.alloc (.cells #[.int .i64 20, .bool sec, .int .i64 cur, .int .i64 n, .int .i64 lo, .int .i64 hi, .string S] 30)).cell? ⟨w.heap.size, 6, none⟩ = some (.string S) := (World.cell?_alloc_at _ _ _ _ rfl).trans rfl
  clear hr he hb0 hB0 hl hS hu hrr hx hga hgb gr1' gr2' e1 e2 hm
  go_enter Tryd.func37, Tryd.ntmps37
  go_wp2_with fail
  generalize (w.alloc (.cells #[.int .i64 20, .bool sec, .int .i64 cur, .int .i64 n, .int .i64 lo, .int .i64 hi, .string S] 30)) = W0 at *
  go_quiet (fail)
  have HQ1 : Hid (Below W0.heap.size W0 (W0.drewN nq)) := ⟨rfl, rfl, rfl, Nat.le_refl _, fun _ _ => rfl⟩
  have a0 := cell_below g0 HQ1.out
  have a1 := cell_below g1 HQ1.out
  have ar1 := cell_below gr1 HQ1.out
  have ar2 := cell_below gr2 HQ1.out
  have b0 := cell_below z0 HQ1.out
  have b1 := cell_below z1 HQ1.out
  have b2 := cell_below z2 HQ1.out
  have b3 := cell_below z3 HQ1.out
  have b4 := cell_below z4 HQ1.out
  have b5 := cell_below z5 HQ1.out
  have b6 := cell_below z6 HQ1.out
  have HR1 := hide (HR.out.below HQ1.out)
  have HB1 := hide (chain HB0.out HQ1.out)
  have HA1 := hide (chain HA.out HQ1.out)
  have HZ1 : Hid (w.heap.size < (W0.drewN nq).heap.size) := HZ.out
  clear g0 g1 gr1 gr2 z0 z1 z2 z3 z4 z5 z6 HR HB0 HA HQ1
  generalize W0.drewN nq = W1 at *
  go_wp2_with fail
  go_quiet (fail)
  rename Nat => nq2
  have HQ2 : Hid (Below W1.heap.size W1 (W1.drewN nq2)) := ⟨rfl, rfl, rfl, Nat.le_refl _, fun _ _ => rfl⟩
  have z0 := cell_below b0 HQ2.out
  have z1 := cell_below b1 HQ2.out
  have z2 := cell_below b2 HQ2.out
  have z3 := cell_below b3 HQ2.out
  have z4 := cell_below b4 HQ2.out
  have z5 := cell_below b5 HQ2.out
  have z6 := cell_below b6 HQ2.out
  have HR2 := hide (HR1.out.below HQ2.out)
  have HB2 := hide (chain HB1.out HQ2.out)
  have HZ2 : Hid (w.heap.size < (W1.drewN nq2).heap.size) := HZ1.out
  clear a0 a1 ar1 ar2 b0 b1 b2 b3 b4 b5 b6 HR1 HB1 HA1 HQ2 hcu hcu2 hcm hcm2 htm hrw i1 i2
  generalize W1.drewN nq2 = W2 at *
  go_wp2_with fail
  refine Calls.mono (record_tag w0 B v1 v2 xs r x sec cur n lo hi S W2 HR2.out HX.out HE.out HB2.out HBB.out HLX.out) ?_
  rintro e w3 ⟨rfl, hw⟩
  have HW := hide hw
  clear hw z0 z1 z2 z3 z4 z5 z6
  go_wp2
  go_ret
  exact ⟨rfl, HW.out⟩

set_option maxRecDepth 100000 in
set_option maxHeartbeats 1600000 in
theorem reads_number {E : Nat → Addr} (w0 : World) (B : Nat) (v1 v2 : Value) (xs : List RI) (kind : Int) (sec : Bool) (cur n lo hi : Int) (S : ByteArray) (w : World) (hr : Rd w B v1 v2 xs) (he : Errs w0 E) (hb0 : Below w0.heap.size w0 w) (hB0 : w0.heap.size ≤ B) (hl : xs.length ≤ 5864062014805) (hS : S.size ≤ 140737488351232) (hk11 : kind ≠ 11) (hk17 : kind ≠ 17) (hk18 : kind ≠ 18) (hk19 : kind ≠ 19) (hk20 : kind ≠ 20) (hk21 : kind ≠ 21) (hk22 : kind ≠ 22) (hm : xs.length ≠ 0) :
    Calls Tryd.prog 37 #[.pointer (some ⟨B, 0, none⟩), .agg #[.int .i64 kind, .bool sec, .int .i64 cur, .int .i64 n, .int .i64 lo, .int .i64 hi, .string S]] w fun e w' => Went w0 B xs.length e w' := by
  have dk11 : (kind == 11) = false := by simp; exact hk11
  have dk17 : (kind == 17) = false := by simp; exact hk17
  have dk18 : (kind == 18) = false := by simp; exact hk18
  have dk19 : (kind == 19) = false := by simp; exact hk19
  have dk20 : (kind == 20) = false := by simp; exact hk20
  have dk21 : (kind == 21) = false := by simp; exact hk21
  have dk22 : (kind == 22) = false := by simp; exact hk22
  obtain ⟨m, hxl⟩ : ∃ m, xs.length = m := ⟨_, rfl⟩
  have hm0 : 0 < m := by omega
  obtain ⟨u, hu⟩ : ∃ u : Nat, (u : Int) = cur % 18446744073709551616 := ⟨(cur % 18446744073709551616).toNat, by omega⟩
  obtain ⟨r, hrr⟩ : ∃ r : Nat, u % m = r := ⟨_, rfl⟩
  have hrm : r < m := by rw [← hrr]; exact Nat.mod_lt _ hm0
  obtain ⟨x, hx⟩ : ∃ x, xs[r]? = some x := ⟨_, List.getElem?_eq_getElem (by omega)⟩
  have HA : Hid (Below w.heap.size w (w.alloc (.cells #[.int .i64 kind, .bool sec, .int .i64 cur, .int .i64 n, .int .i64 lo, .int .i64 hi, .string S] 30))) := (Below.refl _ _).alloc (Nat.le_refl _) _
  have HR := hide (hr.below HA.out)
  have HB0 := hide (chain hb0 HA.out)
  have HX := hide hx
  have HE := hide he
  have HBB := hide hB0
  obtain ⟨a1, c1, e1, hc1, hrow1⟩ := row_form hr.csr.r1
  obtain ⟨a2, c2, e2, hc2, hrow2⟩ := row_form hr.csr.r2
  rw [List.length_map, hxl] at e1 e2 hc1 hc2
  obtain ⟨ga, rfl, hga⟩ := hrow1 (by rw [List.length_map]; omega)
  obtain ⟨gb, rfl, hgb⟩ := hrow2 (by rw [List.length_map]; omega)
  have g0 := cell_below hr.csr.two.c0 HA.out
  have g1 := cell_below hr.csr.two.c1 HA.out
  rw [e1] at g0
  rw [e2] at g1
  have gr1' := hga r (by rw [List.length_map]; omega)
  rw [List.getElem?_map, List.getElem?_map, hx] at gr1'
  have gr1 := cell_below (show w.cell? ⟨ga, r, none⟩ = some (.pointer (some ⟨x.c, 0, none⟩)) from gr1') HA.out
  have gr2' := hgb r (by rw [List.length_map]; omega)
  rw [List.getElem?_map, List.getElem?_map, hx] at gr2'
  have gr2 := cell_below (show w.cell? ⟨gb, r, none⟩ = some (.pointer (some ⟨x.d, 0, none⟩)) from gr2') HA.out
  have hBl : B < w.heap.size := block_lt_of_cell hr.csr.two.c0
  have hcu : IntKind.u64.wrap cur = (u : Int) := by rw [IntKind.wrap_u64]; exact hu.symm
  have hcu2 : cur % 18446744073709551616 = (u : Int) := hu.symm
  have hcm : IntKind.u64.wrap (m : Int) = (m : Int) := by rw [IntKind.wrap_u64]; omega
  have hcm2 : (m : Int) % 18446744073709551616 = (m : Int) := by omega
  have htm : (u : Int).tmod (m : Int) = (r : Int) := by rw [← hrr]; exact Int.ofNat_tmod u m |>.symm
  have hrw : IntKind.i64.wrap (r : Int) = (r : Int) := by rw [IntKind.wrap_i64]; omega
  have i1 : (0 : Int) ≤ (r : Int) := by omega
  have i2 : (r : Int) < (m : Int) := by omega
  have hmne : ¬ (m : Int) = 0 := by omega
  have dm : ((m : Int) == 0) = false := by simp; omega
  have HLX : Hid (xs.length + 1 ≤ 17592186044416) := by unfold Hid; omega
  have HZ : Hid (w.heap.size < (w.alloc (.cells #[.int .i64 kind, .bool sec, .int .i64 cur, .int .i64 n, .int .i64 lo, .int .i64 hi, .string S] 30)).heap.size) := by unfold Hid; simp
  have z0 : (w.alloc (.cells #[.int .i64 kind, .bool sec, .int .i64 cur, .int .i64 n, .int .i64 lo, .int .i64 hi, .string S] 30)).cell? ⟨w.heap.size, 0, none⟩ = some (.int .i64 kind) := (World.cell?_alloc_at _ _ _ _ rfl).trans rfl
  have z1 : (w.alloc (.cells #[.int .i64 kind, .bool sec, .int .i64 cur, .int .i64 n, .int .i64 lo, .int .i64 hi, .string S] 30)).cell? ⟨w.heap.size, 1, none⟩ = some (.bool sec) := (World.cell?_alloc_at _ _ _ _ rfl).trans rfl
  have z2 : (w.alloc (.cells #[.int .i64 kind, .bool sec, .int .i64 cur, .int .i64 n, .int .i64 lo, .int .i64 hi, .string S] 30)).cell? ⟨w.heap.size, 2, none⟩ = some (.int .i64 cur) := (World.cell?_alloc_at _ _ _ _ rfl).trans rfl
  have z3 : (w.alloc (.cells #[.int .i64 kind, .bool sec, .int .i64 cur, .int .i64 n, .int .i64 lo, .int .i64 hi, .string S] 30)).cell? ⟨w.heap.size, 3, none⟩ = some (.int .i64 n) := (World.cell?_alloc_at _ _ _ _ rfl).trans rfl
  have z4 : (w.alloc (.cells #[.int .i64 kind, .bool sec, .int .i64 cur, .int .i64 n, .int .i64 lo, .int .i64 hi, .string S] 30)).cell? ⟨w.heap.size, 4, none⟩ = some (.int .i64 lo) := (World.cell?_alloc_at _ _ _ _ rfl).trans rfl
  have z5 : (w.alloc (.cells #[.int .i64 kind, .bool sec, .int .i64 cur, .int .i64 n, .int .i64 lo, .int .i64 hi, .string S] 30)).cell? ⟨w.heap.size, 5, none⟩ = some (.int .i64 hi) := (World.cell?_alloc_at _ _ _ _ rfl).trans rfl
  have z6 : (w.alloc (.cells #[.int .i64 kind, .bool sec, .int .i64 cur, .int .i64 n, .int .i64 lo, .int .i64 hi, .string S] 30)).cell? ⟨w.heap.size, 6, none⟩ = some (.string S) := (World.cell?_alloc_at _ _ _ _ rfl).trans rfl
  clear hr he hb0 hB0 hl hS hu hrr hx hga hgb gr1' gr2' e1 e2 hm hk11 hk17 hk18 hk19 hk20 hk21 hk22
  go_enter Tryd.func37, Tryd.ntmps37
  go_wp2_with fail
  generalize (w.alloc (.cells #[.int .i64 kind, .bool sec, .int .i64 cur, .int .i64 n, .int .i64 lo, .int .i64 hi, .string S] 30)) = W0 at *
  go_quiet (fail)
  have HQ1 : Hid (Below W0.heap.size W0 (W0.drewN nq)) := ⟨rfl, rfl, rfl, Nat.le_refl _, fun _ _ => rfl⟩
  have a0 := cell_below g0 HQ1.out
  have a1 := cell_below g1 HQ1.out
  have ar1 := cell_below gr1 HQ1.out
  have ar2 := cell_below gr2 HQ1.out
  have b0 := cell_below z0 HQ1.out
  have b1 := cell_below z1 HQ1.out
  have b2 := cell_below z2 HQ1.out
  have b3 := cell_below z3 HQ1.out
  have b4 := cell_below z4 HQ1.out
  have b5 := cell_below z5 HQ1.out
  have b6 := cell_below z6 HQ1.out
  have HR1 := hide (HR.out.below HQ1.out)
  have HB1 := hide (chain HB0.out HQ1.out)
  have HA1 := hide (chain HA.out HQ1.out)
  have HZ1 : Hid (w.heap.size < (W0.drewN nq).heap.size) := HZ.out
  clear g0 g1 gr1 gr2 z0 z1 z2 z3 z4 z5 z6 HR HB0 HA HQ1
  generalize W0.drewN nq = W1 at *
  go_wp2_with fail
  go_quiet (fail)
  rename Nat => nq2
  have HQ2 : Hid (Below W1.heap.size W1 (W1.drewN nq2)) := ⟨rfl, rfl, rfl, Nat.le_refl _, fun _ _ => rfl⟩
  have z0 := cell_below b0 HQ2.out
  have z1 := cell_below b1 HQ2.out
  have z2 := cell_below b2 HQ2.out
  have z3 := cell_below b3 HQ2.out
  have z4 := cell_below b4 HQ2.out
  have z5 := cell_below b5 HQ2.out
  have z6 := cell_below b6 HQ2.out
  have HR2 := hide (HR1.out.below HQ2.out)
  have HB2 := hide (chain HB1.out HQ2.out)
  have HZ2 : Hid (w.heap.size < (W1.drewN nq2).heap.size) := HZ1.out
  clear a0 a1 ar1 ar2 b0 b1 b2 b3 b4 b5 b6 HR1 HB1 HA1 HQ2 hcu hcu2 hcm hcm2 htm hrw i1 i2
  generalize W1.drewN nq2 = W2 at *
  have HI := hide (HR2.out.is r x HX.out)
  have fc := HR2.out.far r x x.c HX.out (.inl rfl)
  have fd := HR2.out.far r x x.d HX.out (.inr (.inl rfl))
  have hcd := HR2.out.own r x HX.out
  obtain ⟨hgc, hgd, hhc, hhd⟩ := HR2.out.still r r x x HX.out HX.out
  go_wp2_with fail
  refine Calls.mono (number_any w0 x.c x.g x.len x.p x.bd x.L x.d x.h x.cap kind sec cur n lo hi S W2 HI.out.cur HI.out.doc HE.out HB2.out (by have := HBB.out; omega) (by have := HBB.out; omega) hcd hgd hhc) ?_
  rintro e w3 ⟨rfl, q, h1, h2, h3⟩
  have H1 := hide h1
  have H2 := hide h2
  have H3 := hide h3
  clear h1 h2 h3 z0 z1 z2 z3 z4 z5 z6
  go_wp2
  go_ret
  exact went_step HR2.out HX.out H3.out H1.out H2.out HB2.out HBB.out
end Go.Proofs.YtkkogkdalcigkaaDoor
namespace Go.Proofs.YtkkogkdalcigkaaDoor
open Go.RowKit FerryCrc
set_option linter.unusedVariables false
set_option linter.unusedSimpArgs false

set_option maxRecDepth 100000 in
set_option maxHeartbeats 1600000 in
theorem reads_text {E : Nat → Addr} (w0 : World) (B : Nat) (v1 v2 : Value) (xs : List RI) (sec : Bool) (cur n lo hi : Int) (S : ByteArray) (w : World) (hr : Rd w B v1 v2 xs) (he : Errs w0 E) (hb0 : Below w0.heap.size w0 w) (hB0 : w0.heap.size ≤ B) (hl : xs.length ≤ 5864062014805) (hS : S.size ≤ 140737488351232) (hm : xs.length ≠ 0) :
    Calls Tryd.prog 37 #[.pointer (some ⟨B, 0, none⟩), .agg #[.int .i64 18, .bool sec, .int .i64 cur, .int .i64 n, .int .i64 lo, .int .i64 hi, .string S]] w fun e w' => Went w0 B xs.length e w' := by
  obtain ⟨m, hxl⟩ : ∃ m, xs.length = m := ⟨_, rfl⟩
  have hm0 : 0 < m := by omega
  obtain ⟨u, hu⟩ : ∃ u : Nat, (u : Int) = cur % 18446744073709551616 := ⟨(cur % 18446744073709551616).toNat, by omega⟩
  obtain ⟨r, hrr⟩ : ∃ r : Nat, u % m = r := ⟨_, rfl⟩
  have hrm : r < m := by rw [← hrr]; exact Nat.mod_lt _ hm0
  obtain ⟨x, hx⟩ : ∃ x, xs[r]? = some x := ⟨_, List.getElem?_eq_getElem (by omega)⟩
  have HA : Hid (Below w.heap.size w (w.alloc (.cells #[.int .i64 18, .bool sec, .int .i64 cur, .int .i64 n, .int .i64 lo, .int .i64 hi, .string S] 30))) := (Below.refl _ _).alloc (Nat.le_refl _) _
  have HR := hide (hr.below HA.out)
  have HB0 := hide (chain hb0 HA.out)
  have HX := hide hx
  have HE := hide he
  have HBB := hide hB0
  obtain ⟨a1, c1, e1, hc1, hrow1⟩ := row_form hr.csr.r1
  obtain ⟨a2, c2, e2, hc2, hrow2⟩ := row_form hr.csr.r2
  rw [List.length_map, hxl] at e1 e2 hc1 hc2
  obtain ⟨ga, rfl, hga⟩ := hrow1 (by rw [List.length_map]; omega)
  obtain ⟨gb, rfl, hgb⟩ := hrow2 (by rw [List.length_map]; omega)
  have g0 := cell_below hr.csr.two.c0 HA.out
  have g1 := cell_below hr.csr.two.c1 HA.out
  rw [e1] at g0
  rw [e2] at g1
  have gr1' := hga r (by rw [List.length_map]; omega)
  rw [List.getElem?_map, List.getElem?_map, hx] at gr1'
  have gr1 := cell_below (show w.cell? ⟨ga, r, none⟩ = some (.pointer (some ⟨x.c, 0, none⟩)) from gr1') HA.out
  have gr2' := hgb r (by rw [List.length_map]; omega)
  rw [List.getElem?_map, List.getElem?_map, hx] at gr2'
  have gr2 := cell_below (show w.cell? ⟨gb, r, none⟩ = some (.pointer (some ⟨x.d, 0, none⟩)) from gr2') HA.out
  have hBl : B < w.heap.size := block_lt_of_cell hr.csr.two.c0
  have hcu : IntKind.u64.wrap cur = (u : Int) := by rw [IntKind.wrap_u64]; exact hu.symm
  have hcu2 : cur % 18446744073709551616 = (u : Int) := hu.symm
  have hcm : IntKind.u64.wrap (m : Int) = (m : Int) := by rw [IntKind.wrap_u64]; omega
  have hcm2 : (m : Int) % 18446744073709551616 = (m : Int) := by omega
  have htm : (u : Int).tmod (m : Int) = (r : Int) := by rw [← hrr]; exact Int.ofNat_tmod u m |>.symm
  have hrw : IntKind.i64.wrap (r : Int) = (r : Int) := by rw [IntKind.wrap_i64]; omega
  have i1 : (0 : Int) ≤ (r : Int) := by omega
  have i2 : (r : Int) < (m : Int) := by omega
  have hmne : ¬ (m : Int) = 0 := by omega
  have dm : ((m : Int) == 0) = false := by simp; omega
  have HLX : Hid (xs.length + 1 ≤ 17592186044416) := by unfold Hid; omega
  have HZ : Hid (w.heap.size < (w.alloc (.cells #[.int .i64 18, .bool sec, .int .i64 cur, .int .i64 n, .int .i64 lo, .int .i64 hi, .string S] 30)).heap.size) := by unfold Hid; simp
  have HWD : Hid (x.d < w.heap.size ∧ x.c < w.heap.size) := ⟨(hr.far r x x.d hx (.inr (.inl rfl))).2.1, (hr.far r x x.c hx (.inl rfl)).2.1⟩
  have z0 : (w.alloc (.cells #[.int .i64 18, .bool sec, .int .i64 cur, .int .i64 n, .int .i64 lo, .int .i64 hi, .string S] 30)).cell? ⟨w.heap.size, 0, none⟩ = some (.int .i64 18) := (World.cell?_alloc_at _ _ _ _ rfl).trans rfl
  have z1 : (w.alloc (.cells #[.int .i64 18, .bool sec, .int .i64 cur, .int .i64 n, .int .i64 lo, .int .i64 hi, .string S] 30)).cell? ⟨w.heap.size, 1, none⟩ = some (.bool sec) := (World.cell?_alloc_at _ _ _ _ rfl).trans rfl
  have z2 : (w.alloc (.cells #[.int .i64 18, .bool sec, .int .i64 cur, .int .i64 n, .int .i64 lo, .int .i64 hi, .string S] 30)).cell? ⟨w.heap.size, 2, none⟩ = some (.int .i64 cur) := (World.cell?_alloc_at _ _ _ _ rfl).trans rfl
  have z3 : (w.alloc (.cells #[.int .i64 18, .bool sec, .int .i64 cur, .int .i64 n, .int .i64 lo, .int .i64 hi, .string S] 30)).cell? ⟨w.heap.size, 3, none⟩ = some (.int .i64 n) := (World.cell?_alloc_at _ _ _ _ rfl).trans rfl
  have z4 : (w.alloc (.cells #[.int .i64 18, .bool sec, .int .i64 cur, .int .i64 n, .int .i64 lo, .int .i64 hi, .string S] 30)).cell? ⟨w.heap.size, 4, none⟩ = some (.int .i64 lo) := (World.cell?_alloc_at _ _ _ _ rfl).trans rfl
  have z5 : (w.alloc (.cells #[.int .i64 18, .bool sec, .int .i64 cur, .int .i64 n, .int .i64 lo, .int .i64 hi, .string S] 30)).cell? ⟨w.heap.size, 5, none⟩ = some (.int .i64 hi) := (World.cell?_alloc_at _ _ _ _ rfl).trans rfl
  have z6 : (w.alloc (.cells #[.int .i64 18, .bool sec, .int .i64 cur, .int .i64 n, .int .i64 lo, .int .i64 hi, .string S] 30)).cell? ⟨w.heap.size, 6, none⟩ = some (.string S) := (World.cell?_alloc_at _ _ _ _ rfl).trans rfl
  clear hr he hb0 hB0 hl hS hu hrr hx hga hgb gr1' gr2' e1 e2 hm
  go_enter Tryd.func37, Tryd.ntmps37
  go_wp2_with fail
  generalize (w.alloc (.cells #[.int .i64 18, .bool sec, .int .i64 cur, .int .i64 n, .int .i64 lo, .int .i64 hi, .string S] 30)) = W0 at *
  go_quiet (fail)
  have HQ1 : Hid (Below W0.heap.size W0 (W0.drewN nq)) := ⟨rfl, rfl, rfl, Nat.le_refl _, fun _ _ => rfl⟩
  have a0 := cell_below g0 HQ1.out
  have a1 := cell_below g1 HQ1.out
  have ar1 := cell_below gr1 HQ1.out
  have ar2 := cell_below gr2 HQ1.out
  have b0 := cell_below z0 HQ1.out
  have b1 := cell_below z1 HQ1.out
  have b2 := cell_below z2 HQ1.out
  have b3 := cell_below z3 HQ1.out
  have b4 := cell_below z4 HQ1.out
  have b5 := cell_below z5 HQ1.out
  have b6 := cell_below z6 HQ1.out
  have HR1 := hide (HR.out.below HQ1.out)
  have HB1 := hide (chain HB0.out HQ1.out)
  have HA1 := hide (chain HA.out HQ1.out)
  have HZ1 : Hid (w.heap.size < (W0.drewN nq).heap.size) := HZ.out
  clear g0 g1 gr1 gr2 z0 z1 z2 z3 z4 z5 z6 HR HB0 HA HQ1
  generalize W0.drewN nq = W1 at *
  go_wp2_with fail
  go_quiet (fail)
  rename Nat => nq2
  have HQ2 : Hid (Below W1.heap.size W1 (W1.drewN nq2)) := ⟨rfl, rfl, rfl, Nat.le_refl _, fun _ _ => rfl⟩
  have z0 := cell_below b0 HQ2.out
  have z1 := cell_below b1 HQ2.out
  have z2 := cell_below b2 HQ2.out
  have z3 := cell_below b3 HQ2.out
  have z4 := cell_below b4 HQ2.out
  have z5 := cell_below b5 HQ2.out
  have z6 := cell_below b6 HQ2.out
  have HR2 := hide (HR1.out.below HQ2.out)
  have HB2 := hide (chain HB1.out HQ2.out)
  have HZ2 : Hid (w.heap.size < (W1.drewN nq2).heap.size) := HZ1.out
  clear a0 a1 ar1 ar2 b0 b1 b2 b3 b4 b5 b6 HR1 HB1 HA1 HQ2 hcu hcu2 hcm hcm2 htm hrw i1 i2
  generalize W1.drewN nq2 = W2 at *
  have HI := hide (HR2.out.is r x HX.out)
  have fc := HR2.out.far r x x.c HX.out (.inl rfl)
  have fd := HR2.out.far r x x.d HX.out (.inr (.inl rfl))
  have hcd := HR2.out.own r x HX.out
  obtain ⟨hgc, hgd, hhc, hhd⟩ := HR2.out.still r r x x HX.out HX.out
  have HEW : Hid (∀ W, Frm (fun k => k = x.c ∨ k = x.d) W2 W → Errs W E) := fun W hf => HE.out.below (HB2.out.trans (hf.below HB2.out.size (fun k e => by have := HBB.out; rcases e with e | e <;> omega)))
  obtain ⟨T, k, q, p', hq1, hq2, hpc, hdc⟩ := both_text E x.L x.len x.p x.bd n HI.out.cur.le
  have HPC := hide hpc
  have HDC := hide hdc
  clear hpc hdc
  go_wp2_with fail
  refine Calls.mono (HDC.out x.d x.h x.cap W2 HI.out.doc) ?_
  rintro e w3 ⟨rfl, h1, h2⟩
  have HF3 := hide h2
  have HD3 := hide h1
  have HT4 := hide (two_alloc w3 (.int .i64 (k : Int)) (.int .i64 q) 67)
  have HB4 : Hid (Below w3.heap.size w3 (w3.alloc (.cells #[.int .i64 (k : Int), .int .i64 q] 67))) := (Below.refl _ _).alloc (Nat.le_refl _) _
  have HF4 := hide (h2.trans (Frm.ofBelow (S := fun _ => False) HB4.out) (fun j _ t => t.elim))
  have HS3 := hide h2.size
  have y3 := cell_below (h2.cell z3 (by show ¬ w.heap.size = x.d; have := HWD.out.1; omega)) HB4.out
  clear h1 h2 z0 z1 z2 z3 z4 z5 z6
  unfold rerr
  go_wp2_with fail
  generalize w3.alloc (.cells #[.int .i64 (k : Int), .int .i64 q] 67) = W4 at *
  have HK4 := hide (HI.out.cur.frm HF4.out hcd hgd)
  have HF4' := hide (HF4.out.mono (T := fun j => j = x.c ∨ j = x.d) (fun j _ t => Or.inr t))
  have HD4 := hide (HD3.out.below HB4.out)
  refine Calls.mono (HPC.out x.c x.g W4 HK4.out (HEW.out W4 HF4'.out)) ?_
  rintro e w5 ⟨ev, rfl, h1, h2, h3⟩
  have HI5 := hide h1
  have HK5 := hide h2
  have HD5 := hide (HD4.out.frm h3 (fun e => hcd e.symm) hhc)
  have HF5 := hide (HF4'.out.trans h3 (fun j _ t => Or.inl t))
  have HT5 := hide (HT4.out.frm h3 (by show ¬ w3.heap.size = x.c; have := HS3.out; have := fc.2.1; omega))
  have H45 := hide h3
  have t0 := HT5.out.c0
  have t1 := HT5.out.c1
  clear h1 h2 h3 y3
  go_wp2_with fail
  refine Calls.mono (same_yes ev k q w5 (HEW.out w5 HF5.out) HI5.out) ?_
  rintro e w6 ⟨rfl, hb6⟩
  have HB6 := hide hb6
  clear hb6
  go_wp2
  go_ret
  exact went_step HR2.out HX.out (HF5.out.trans (Frm.ofBelow (S := fun _ => False) HB6.out) (fun j _ t => t.elim)) (HK5.out.below HB6.out) (HD5.out.below HB6.out) HB2.out HBB.out

set_option maxRecDepth 100000 in
set_option maxHeartbeats 1600000 in
theorem reads_end {E : Nat → Addr} (w0 : World) (B : Nat) (v1 v2 : Value) (xs : List RI) (sec : Bool) (cur n lo hi : Int) (S : ByteArray) (w : World) (hr : Rd w B v1 v2 xs) (he : Errs w0 E) (hb0 : Below w0.heap.size w0 w) (hB0 : w0.heap.size ≤ B) (hl : xs.length ≤ 5864062014805) (hS : S.size ≤ 140737488351232) (hm : xs.length ≠ 0) :
    Calls Tryd.prog 37 #[.pointer (some ⟨B, 0, none⟩), .agg #[.int .i64 21, .bool sec, .int .i64 cur, .int .i64 n, .int .i64 lo, .int .i64 hi, .string S]] w fun e w' => Went w0 B xs.length e w' := by
  obtain ⟨m, hxl⟩ : ∃ m, xs.length = m := ⟨_, rfl⟩
  have hm0 : 0 < m := by omega
  obtain ⟨u, hu⟩ : ∃ u : Nat, (u : Int) = cur % 18446744073709551616 := ⟨(cur % 18446744073709551616).toNat, by omega⟩
  obtain ⟨r, hrr⟩ : ∃ r : Nat, u % m = r := ⟨_, rfl⟩
  have hrm : r < m := by rw [← hrr]; exact Nat.mod_lt _ hm0
  obtain ⟨x, hx⟩ : ∃ x, xs[r]? = some x := ⟨_, List.getElem?_eq_getElem (by omega)⟩
  have HA : Hid (Below w.heap.size w (w.alloc (.cells #[.int .i64 21, .bool sec, .int .i64 cur, .int .i64 n, .int .i64 lo, .int .i64 hi, .string S] 30))) := (Below.refl _ _).alloc (Nat.le_refl _) _
  have HR := hide (hr.below HA.out)
  have HB0 := hide (chain hb0 HA.out)
  have HX := hide hx
  have HE := hide he
  have HBB := hide hB0
  obtain ⟨a1, c1, e1, hc1, hrow1⟩ := row_form hr.csr.r1
  obtain ⟨a2, c2, e2, hc2, hrow2⟩ := row_form hr.csr.r2
  rw [List.length_map, hxl] at e1 e2 hc1 hc2
  obtain ⟨ga, rfl, hga⟩ := hrow1 (by rw [List.length_map]; omega)
  obtain ⟨gb, rfl, hgb⟩ := hrow2 (by rw [List.length_map]; omega)
  have g0 := cell_below hr.csr.two.c0 HA.out
  have g1 := cell_below hr.csr.two.c1 HA.out
  rw [e1] at g0
  rw [e2] at g1
  have gr1' := hga r (by rw [List.length_map]; omega)
  rw [List.getElem?_map, List.getElem?_map, hx] at gr1'
  have gr1 := cell_below (show w.cell? ⟨ga, r, none⟩ = some (.pointer (some ⟨x.c, 0, none⟩)) from gr1') HA.out
  have gr2' := hgb r (by rw [List.length_map]; omega)
  rw [List.getElem?_map, List.getElem?_map, hx] at gr2'
  have gr2 := cell_below (show w.cell? ⟨gb, r, none⟩ = some (.pointer (some ⟨x.d, 0, none⟩)) from gr2') HA.out
  have hBl : B < w.heap.size := block_lt_of_cell hr.csr.two.c0
  have hcu : IntKind.u64.wrap cur = (u : Int) := by rw [IntKind.wrap_u64]; exact hu.symm
  have hcu2 : cur % 18446744073709551616 = (u : Int) := hu.symm
  have hcm : IntKind.u64.wrap (m : Int) = (m : Int) := by rw [IntKind.wrap_u64]; omega
  have hcm2 : (m : Int) % 18446744073709551616 = (m : Int) := by omega
  have htm : (u : Int).tmod (m : Int) = (r : Int) := by rw [← hrr]; exact Int.ofNat_tmod u m |>.symm
  have hrw : IntKind.i64.wrap (r : Int) = (r : Int) := by rw [IntKind.wrap_i64]; omega
  have i1 : (0 : Int) ≤ (r : Int) := by omega
  have i2 : (r : Int) < (m : Int) := by omega
  have hmne : ¬ (m : Int) = 0 := by omega
  have dm : ((m : Int) == 0) = false := by simp; omega
  have HLX : Hid (xs.length + 1 ≤ 17592186044416) := by unfold Hid; omega
  have HZ : Hid (w.heap.size < (w.alloc (.cells #[.int .i64 21, .bool sec, .int .i64 cur, .int .i64 n, .int .i64 lo, .int .i64 hi, .string S] 30)).heap.size) := by unfold Hid; simp
  have HWD : Hid (x.d < w.heap.size ∧ x.c < w.heap.size) := ⟨(hr.far r x x.d hx (.inr (.inl rfl))).2.1, (hr.far r x x.c hx (.inl rfl)).2.1⟩
  have z0 : (w.alloc (.cells #[.int .i64 21, .bool sec, .int .i64 cur, .int .i64 n, .int .i64 lo, .int .i64 hi, .string S] 30)).cell? ⟨w.heap.size, 0, none⟩ = some (.int .i64 21) := (World.cell?_alloc_at _ _ _ _ rfl).trans rfl
  have z1 : (w.alloc (.cells #[.int .i64 21, .bool sec, .int .i64 cur, .int .i64 n, .int .i64 lo, .int .i64 hi, .string S] 30)).cell? ⟨w.heap.size, 1, none⟩ = some (.bool sec) := (World.cell?_alloc_at _ _ _ _ rfl).trans rfl
  have z2 : (w.alloc (.cells #[.int .i64 21, .bool sec, .int .i64 cur, .int .i64 n, .int .i64 lo, .int .i64 hi, .string S] 30)).cell? ⟨w.heap.size, 2, none⟩ = some (.int .i64 cur) := (World.cell?_alloc_at _ _ _ _ rfl).trans rfl
  have z3 : (w.alloc (.cells #[.int .i64 21, .bool sec, .int .i64 cur, .int .i64 n, .int .i64 lo, .int .i64 hi, .string S] 30)).cell? ⟨w.heap.size, 3, none⟩ = some (.int .i64 n) := (World.cell?_alloc_at _ _ _ _ rfl).trans rfl
  have z4 : (w.alloc (.cells #[.int .i64 21, .bool sec, .int .i64 cur, .int .i64 n, .int .i64 lo, .int .i64 hi, .string S] 30)).cell? ⟨w.heap.size, 4, none⟩ = some (.int .i64 lo) := (World.cell?_alloc_at _ _ _ _ rfl).trans rfl
  have z5 : (w.alloc (.cells #[.int .i64 21, .bool sec, .int .i64 cur, .int .i64 n, .int .i64 lo, .int .i64 hi, .string S] 30)).cell? ⟨w.heap.size, 5, none⟩ = some (.int .i64 hi) := (World.cell?_alloc_at _ _ _ _ rfl).trans rfl
  have z6 : (w.alloc (.cells #[.int .i64 21, .bool sec, .int .i64 cur, .int .i64 n, .int .i64 lo, .int .i64 hi, .string S] 30)).cell? ⟨w.heap.size, 6, none⟩ = some (.string S) := (World.cell?_alloc_at _ _ _ _ rfl).trans rfl
  clear hr he hb0 hB0 hl hS hu hrr hx hga hgb gr1' gr2' e1 e2 hm
  go_enter Tryd.func37, Tryd.ntmps37
  go_wp2_with fail
  generalize (w.alloc (.cells #[.int .i64 21, .bool sec, .int .i64 cur, .int .i64 n, .int .i64 lo, .int .i64 hi, .string S] 30)) = W0 at *
  go_quiet (fail)
  have HQ1 : Hid (Below W0.heap.size W0 (W0.drewN nq)) := ⟨rfl, rfl, rfl, Nat.le_refl _, fun _ _ => rfl⟩
  have a0 := cell_below g0 HQ1.out
  have a1 := cell_below g1 HQ1.out
  have ar1 := cell_below gr1 HQ1.out
  have ar2 := cell_below gr2 HQ1.out
  have b0 := cell_below z0 HQ1.out
  have b1 := cell_below z1 HQ1.out
  have b2 := cell_below z2 HQ1.out
  have b3 := cell_below z3 HQ1.out
  have b4 := cell_below z4 HQ1.out
  have b5 := cell_below z5 HQ1.out
  have b6 := cell_below z6 HQ1.out
  have HR1 := hide (HR.out.below HQ1.out)
  have HB1 := hide (chain HB0.out HQ1.out)
  have HA1 := hide (chain HA.out HQ1.out)
  have HZ1 : Hid (w.heap.size < (W0.drewN nq).heap.size) := HZ.out
  clear g0 g1 gr1 gr2 z0 z1 z2 z3 z4 z5 z6 HR HB0 HA HQ1
  generalize W0.drewN nq = W1 at *
  go_wp2_with fail
  go_quiet (fail)
  rename Nat => nq2
  have HQ2 : Hid (Below W1.heap.size W1 (W1.drewN nq2)) := ⟨rfl, rfl, rfl, Nat.le_refl _, fun _ _ => rfl⟩
  have z0 := cell_below b0 HQ2.out
  have z1 := cell_below b1 HQ2.out
  have z2 := cell_below b2 HQ2.out
  have z3 := cell_below b3 HQ2.out
  have z4 := cell_below b4 HQ2.out
  have z5 := cell_below b5 HQ2.out
  have z6 := cell_below b6 HQ2.out
  have HR2 := hide (HR1.out.below HQ2.out)
  have HB2 := hide (chain HB1.out HQ2.out)
  have HZ2 : Hid (w.heap.size < (W1.drewN nq2).heap.size) := HZ1.out
  clear a0 a1 ar1 ar2 b0 b1 b2 b3 b4 b5 b6 HR1 HB1 HA1 HQ2 hcu hcu2 hcm hcm2 htm hrw i1 i2
  generalize W1.drewN nq2 = W2 at *
  have HI := hide (HR2.out.is r x HX.out)
  have fc := HR2.out.far r x x.c HX.out (.inl rfl)
  have fd := HR2.out.far r x x.d HX.out (.inr (.inl rfl))
  have hcd := HR2.out.own r x HX.out
  obtain ⟨hgc, hgd, hhc, hhd⟩ := HR2.out.still r r x x HX.out HX.out
  obtain ⟨k, q, hpc, hdc⟩ := both_end E x.L x.len x.p x.bd
  have HPC := hide hpc
  have HDC := hide hdc
  clear hpc hdc
  go_wp2_with fail
  refine Calls.mono (HPC.out x.c x.g W2 HI.out.cur (HE.out.below HB2.out)) ?_
  rintro e w3 ⟨ev, rfl, hi3, hb3⟩
  have HI3 := hide hi3
  have HB3 := hide hb3
  clear hi3 hb3 z0 z1 z2 z3 z4 z5 z6
  go_wp2_with fail
  refine Calls.mono (HDC.out x.d x.h x.cap w3 (HI.out.doc.below HB3.out)) ?_
  rintro e w4 ⟨rfl, hb4⟩
  have HB4 := hide hb4
  clear hb4
  go_wp2_with fail
  refine Calls.mono (same_yes ev k q w4 (HE.out.below (chain HB2.out (chain HB3.out HB4.out))) (HI3.out.below HB4.out)) ?_
  rintro e w5 ⟨rfl, hb5⟩
  have HB5 := hide hb5
  clear hb5
  go_wp2
  go_ret
  exact went_same HR2.out (chain (chain HB3.out HB4.out) HB5.out) HB2.out

set_option maxRecDepth 100000 in
set_option maxHeartbeats 1600000 in
theorem reads_where {E : Nat → Addr} (w0 : World) (B : Nat) (v1 v2 : Value) (xs : List RI) (sec : Bool) (cur n lo hi : Int) (S : ByteArray) (w : World) (hr : Rd w B v1 v2 xs) (he : Errs w0 E) (hb0 : Below w0.heap.size w0 w) (hB0 : w0.heap.size ≤ B) (hl : xs.length ≤ 5864062014805) (hS : S.size ≤ 140737488351232) (hm : xs.length ≠ 0) :
    Calls Tryd.prog 37 #[.pointer (some ⟨B, 0, none⟩), .agg #[.int .i64 22, .bool sec, .int .i64 cur, .int .i64 n, .int .i64 lo, .int .i64 hi, .string S]] w fun e w' => Went w0 B xs.length e w' := by
  obtain ⟨m, hxl⟩ : ∃ m, xs.length = m := ⟨_, rfl⟩
  have hm0 : 0 < m := by omega
  obtain ⟨u, hu⟩ : ∃ u : Nat, (u : Int) = cur % 18446744073709551616 := ⟨(cur % 18446744073709551616).toNat, by omega⟩
  obtain ⟨r, hrr⟩ : ∃ r : Nat, u % m = r := ⟨_, rfl⟩
  have hrm : r < m := by rw [← hrr]; exact Nat.mod_lt _ hm0
  obtain ⟨x, hx⟩ : ∃ x, xs[r]? = some x := ⟨_, List.getElem?_eq_getElem (by omega)⟩
  have HA : Hid (Below w.heap.size w (w.alloc (.cells #[.int .i64 22, .bool sec, .int .i64 cur, .int .i64 n, .int .i64 lo, .int .i64 hi, .string S] 30))) := (Below.refl _ _).alloc (Nat.le_refl _) _
  have HR := hide (hr.below HA.out)
  have HB0 := hide (chain hb0 HA.out)
  have HX := hide hx
  have HE := hide he
  have HBB := hide hB0
  obtain ⟨a1, c1, e1, hc1, hrow1⟩ := row_form hr.csr.r1
  obtain ⟨a2, c2, e2, hc2, hrow2⟩ := row_form hr.csr.r2
  rw [List.length_map, hxl] at e1 e2 hc1 hc2
  obtain ⟨ga, rfl, hga⟩ := hrow1 (by rw [List.length_map]; omega)
  obtain ⟨gb, rfl, hgb⟩ := hrow2 (by rw [List.length_map]; omega)
  have g0 := cell_below hr.csr.two.c0 HA.out
  have g1 := cell_below hr.csr.two.c1 HA.out
  rw [e1] at g0
  rw [e2] at g1
  have gr1' := hga r (by rw [List.length_map]; omega)
  rw [List.getElem?_map, List.getElem?_map, hx] at gr1'
  have gr1 := cell_below (show w.cell? ⟨ga, r, none⟩ = some (.pointer (some ⟨x.c, 0, none⟩)) from gr1') HA.out
  have gr2' := hgb r (by rw [List.length_map]; omega)
  rw [List.getElem?_map, List.getElem?_map, hx] at gr2'
  have gr2 := cell_below (show w.cell? ⟨gb, r, none⟩ = some (.pointer (some ⟨x.d, 0, none⟩)) from gr2') HA.out
  have hBl : B < w.heap.size := block_lt_of_cell hr.csr.two.c0
  have hcu : IntKind.u64.wrap cur = (u : Int) := by rw [IntKind.wrap_u64]; exact hu.symm
  have hcu2 : cur % 18446744073709551616 = (u : Int) := hu.symm
  have hcm : IntKind.u64.wrap (m : Int) = (m : Int) := by rw [IntKind.wrap_u64]; omega
  have hcm2 : (m : Int) % 18446744073709551616 = (m : Int) := by omega
  have htm : (u : Int).tmod (m : Int) = (r : Int) := by rw [← hrr]; exact Int.ofNat_tmod u m |>.symm
  have hrw : IntKind.i64.wrap (r : Int) = (r : Int) := by rw [IntKind.wrap_i64]; omega
  have i1 : (0 : Int) ≤ (r : Int) := by omega
  have i2 : (r : Int) < (m : Int) := by omega
  have hmne : ¬ (m : Int) = 0 := by omega
  have dm : ((m : Int) == 0) = false := by simp; omega
  have HLX : Hid (xs.length + 1 ≤ 17592186044416) := by unfold Hid; omega
  have HZ : Hid (w.heap.size < (w.alloc (.cells #[.int .i64 22, .bool sec, .int .i64 cur, .int .i64 n, .int .i64 lo, .int .i64 hi, .string S] 30)).heap.size) := by unfold Hid; simp
  have HWD : Hid (x.d < w.heap.size ∧ x.c < w.heap.size) := ⟨(hr.far r x x.d hx (.inr (.inl rfl))).2.1, (hr.far r x x.c hx (.inl rfl)).2.1⟩
  have z0 : (w.alloc (.cells #[.int .i64 22, .bool sec, .int .i64 cur, .int .i64 n, .int .i64 lo, .int .i64 hi, .string S] 30)).cell? ⟨w.heap.size, 0, none⟩ = some (.int .i64 22) := (World.cell?_alloc_at _ _ _ _ rfl).trans rfl
  have z1 : (w.alloc (.cells #[.int .i64 22, .bool sec, .int .i64 cur, .int .i64 n, .int .i64 lo, .int .i64 hi, .string S] 30)).cell? ⟨w.heap.size, 1, none⟩ = some (.bool sec) := (World.cell?_alloc_at _ _ _ _ rfl).trans rfl
  have z2 : (w.alloc (.cells #[.int .i64 22, .bool sec, .int .i64 cur, .int .i64 n, .int .i64 lo, .int .i64 hi, .string S] 30)).cell? ⟨w.heap.size, 2, none⟩ = some (.int .i64 cur) := (World.cell?_alloc_at _ _ _ _ rfl).trans rfl
  have z3 : (w.alloc (.cells #[.int .i64 22, .bool sec, .int .i64 cur, .int .i64 n, .int .i64 lo, .int .i64 hi, .string S] 30)).cell? ⟨w.heap.size, 3, none⟩ = some (.int .i64 n) := (World.cell?_alloc_at _ _ _ _ rfl).trans rfl
  have z4 : (w.alloc (.cells #[.int .i64 22, .bool sec, .int .i64 cur, .int .i64 n, .int .i64 lo, .int .i64 hi, .string S] 30)).cell? ⟨w.heap.size, 4, none⟩ = some (.int .i64 lo) := (World.cell?_alloc_at _ _ _ _ rfl).trans rfl
  have z5 : (w.alloc (.cells #[.int .i64 22, .bool sec, .int .i64 cur, .int .i64 n, .int .i64 lo, .int .i64 hi, .string S] 30)).cell? ⟨w.heap.size, 5, none⟩ = some (.int .i64 hi) := (World.cell?_alloc_at _ _ _ _ rfl).trans rfl
  have z6 : (w.alloc (.cells #[.int .i64 22, .bool sec, .int .i64 cur, .int .i64 n, .int .i64 lo, .int .i64 hi, .string S] 30)).cell? ⟨w.heap.size, 6, none⟩ = some (.string S) := (World.cell?_alloc_at _ _ _ _ rfl).trans rfl
  clear hr he hb0 hB0 hl hS hu hrr hx hga hgb gr1' gr2' e1 e2 hm
  go_enter Tryd.func37, Tryd.ntmps37
  go_wp2_with fail
  generalize (w.alloc (.cells #[.int .i64 22, .bool sec, .int .i64 cur, .int .i64 n, .int .i64 lo, .int .i64 hi, .string S] 30)) = W0 at *
  go_quiet (fail)
  have HQ1 : Hid (Below W0.heap.size W0 (W0.drewN nq)) := ⟨rfl, rfl, rfl, Nat.le_refl _, fun _ _ => rfl⟩
  have a0 := cell_below g0 HQ1.out
  have a1 := cell_below g1 HQ1.out
  have ar1 := cell_below gr1 HQ1.out
  have ar2 := cell_below gr2 HQ1.out
  have b0 := cell_below z0 HQ1.out
  have b1 := cell_below z1 HQ1.out
  have b2 := cell_below z2 HQ1.out
  have b3 := cell_below z3 HQ1.out
  have b4 := cell_below z4 HQ1.out
  have b5 := cell_below z5 HQ1.out
  have b6 := cell_below z6 HQ1.out
  have HR1 := hide (HR.out.below HQ1.out)
  have HB1 := hide (chain HB0.out HQ1.out)
  have HA1 := hide (chain HA.out HQ1.out)
  have HZ1 : Hid (w.heap.size < (W0.drewN nq).heap.size) := HZ.out
  clear g0 g1 gr1 gr2 z0 z1 z2 z3 z4 z5 z6 HR HB0 HA HQ1
  generalize W0.drewN nq = W1 at *
  go_wp2_with fail
  go_quiet (fail)
  rename Nat => nq2
  have HQ2 : Hid (Below W1.heap.size W1 (W1.drewN nq2)) := ⟨rfl, rfl, rfl, Nat.le_refl _, fun _ _ => rfl⟩
  have z0 := cell_below b0 HQ2.out
  have z1 := cell_below b1 HQ2.out
  have z2 := cell_below b2 HQ2.out
  have z3 := cell_below b3 HQ2.out
  have z4 := cell_below b4 HQ2.out
  have z5 := cell_below b5 HQ2.out
  have z6 := cell_below b6 HQ2.out
  have HR2 := hide (HR1.out.below HQ2.out)
  have HB2 := hide (chain HB1.out HQ2.out)
  have HZ2 : Hid (w.heap.size < (W1.drewN nq2).heap.size) := HZ1.out
  clear a0 a1 ar1 ar2 b0 b1 b2 b3 b4 b5 b6 HR1 HB1 HA1 HQ2 hcu hcu2 hcm hcm2 htm hrw i1 i2
  generalize W1.drewN nq2 = W2 at *
  have HI := hide (HR2.out.is r x HX.out)
  have fc := HR2.out.far r x x.c HX.out (.inl rfl)
  have fd := HR2.out.far r x x.d HX.out (.inr (.inl rfl))
  have hcd := HR2.out.own r x HX.out
  obtain ⟨hgc, hgd, hhc, hhd⟩ := HR2.out.still r r x x HX.out HX.out
  have HK2 := hide HI.out.cur
  have HD2 := hide HI.out.doc
  have d1 := HD2.out.c1
  obtain ⟨A, hA⟩ : ∃ A, x.bd - x.p = A := ⟨_, rfl⟩
  have HLP := hide (fun W (h : Cur W x.c x.g x.len x.p x.bd x.L) => left_any x.c x.g x.len x.p x.bd x.L W h)
  have HLD := hide (fun W (h : Doc W x.d x.h x.len x.cap x.p x.bd x.L) => rleft_any x.d x.h x.len x.cap x.p x.bd x.L W h)
  rw [hA] at HLP HLD
  clear hA
  have HDW : Hid (Below W2.heap.size W2 W2.drew) := (Below.refl _ _).drew
  go_wp2_with fail
  clear z0 z1 z2 z3 z4 z5 z6
  go_region_held3 (fun wz => wz.cell? ⟨x.d, 1, none⟩ = some (.int .i64 (x.p : Int))) (first | exact d1 | exact hold2 | exact hold1) (first
    | (go_at_call 11; refine (at_any x.c x.g x.len x.p x.bd x.L W2.drew (HK2.out.below HDW.out)).mono ?_; rintro e w3 ⟨rfl, rfl⟩)
    | (go_at_call 12; refine (HLP.out W2.drew (HK2.out.below HDW.out)).mono ?_; rintro e w3 ⟨rfl, hb3⟩; have hold1 : w3.cell? ⟨x.d, 1, none⟩ = some (.int .i64 (x.p : Int)) := cell_below (w := W2.drew) d1 hb3; have HB3 := hide (chain HDW.out hb3); clear hb3)
    | (go_at_call 38; refine (HLD.out w3 (HD2.out.below HB3.out)).mono ?_; rintro e w4 ⟨rfl, hb4⟩; have hold2 : w4.cell? ⟨x.d, 1, none⟩ = some (.int .i64 (x.p : Int)) := cell_below hold1 hb4; have HB4 := hide (chain HB3.out hb4); clear hb4))
  go_wp2
  go_ret
  exact went_same HR2.out HB4.out HB2.out
end Go.Proofs.YtkkogkdalcigkaaDoor
namespace Go.Proofs.YtkkogkdalcigkaaDoor
open Go.RowKit FerryCrc
set_option linter.unusedVariables false
set_option linter.unusedSimpArgs false

set_option maxRecDepth 100000 in
set_option maxHeartbeats 4000000 in
theorem reads_raw {E : Nat → Addr} (w0 : World) (B : Nat) (v1 v2 : Value) (xs : List RI) (sec : Bool) (cur n lo hi : Int) (S : ByteArray) (w : World) (hr : Rd w B v1 v2 xs) (he : Errs w0 E) (hb0 : Below w0.heap.size w0 w) (hB0 : w0.heap.size ≤ B) (hl : xs.length ≤ 5864062014805) (hS : S.size ≤ 140737488351232) (hm : xs.length ≠ 0) :
    Calls Tryd.prog 37 #[.pointer (some ⟨B, 0, none⟩), .agg #[.int .i64 17, .bool sec, .int .i64 cur, .int .i64 n, .int .i64 lo, .int .i64 hi, .string S]] w fun e w' => Went w0 B xs.length e w' := by
  obtain ⟨m, hxl⟩ : ∃ m, xs.length = m := ⟨_, rfl⟩
  have hm0 : 0 < m := by omega
  obtain ⟨u, hu⟩ : ∃ u : Nat, (u : Int) = cur % 18446744073709551616 := ⟨(cur % 18446744073709551616).toNat, by omega⟩
  obtain ⟨r, hrr⟩ : ∃ r : Nat, u % m = r := ⟨_, rfl⟩
  have hrm : r < m := by rw [← hrr]; exact Nat.mod_lt _ hm0
  obtain ⟨x, hx⟩ : ∃ x, xs[r]? = some x := ⟨_, List.getElem?_eq_getElem (by omega)⟩
  have HA : Hid (Below w.heap.size w (w.alloc (.cells #[.int .i64 17, .bool sec, .int .i64 cur, .int .i64 n, .int .i64 lo, .int .i64 hi, .string S] 30))) := (Below.refl _ _).alloc (Nat.le_refl _) _
  have HR := hide (hr.below HA.out)
  have HB0 := hide (chain hb0 HA.out)
  have HX := hide hx
  have HE := hide he
  have HBB := hide hB0
  obtain ⟨a1, c1, e1, hc1, hrow1⟩ := row_form hr.csr.r1
  obtain ⟨a2, c2, e2, hc2, hrow2⟩ := row_form hr.csr.r2
  rw [List.length_map, hxl] at e1 e2 hc1 hc2
  obtain ⟨ga, rfl, hga⟩ := hrow1 (by rw [List.length_map]; omega)
  obtain ⟨gb, rfl, hgb⟩ := hrow2 (by rw [List.length_map]; omega)
  have g0 := cell_below hr.csr.two.c0 HA.out
  have g1 := cell_below hr.csr.two.c1 HA.out
  rw [e1] at g0
  rw [e2] at g1
  have gr1' := hga r (by rw [List.length_map]; omega)
  rw [List.getElem?_map, List.getElem?_map, hx] at gr1'
  have gr1 := cell_below (show w.cell? ⟨ga, r, none⟩ = some (.pointer (some ⟨x.c, 0, none⟩)) from gr1') HA.out
  have gr2' := hgb r (by rw [List.length_map]; omega)
  rw [List.getElem?_map, List.getElem?_map, hx] at gr2'
  have gr2 := cell_below (show w.cell? ⟨gb, r, none⟩ = some (.pointer (some ⟨x.d, 0, none⟩)) from gr2') HA.out
  have hBl : B < w.heap.size := block_lt_of_cell hr.csr.two.c0
  have hcu : IntKind.u64.wrap cur = (u : Int) := by rw [IntKind.wrap_u64]; exact hu.symm
  have hcu2 : cur % 18446744073709551616 = (u : Int) := hu.symm
  have hcm : IntKind.u64.wrap (m : Int) = (m : Int) := by rw [IntKind.wrap_u64]; omega
  have hcm2 : (m : Int) % 18446744073709551616 = (m : Int) := by omega
  have htm : (u : Int).tmod (m : Int) = (r : Int) := by rw [← hrr]; exact Int.ofNat_tmod u m |>.symm
  have hrw : IntKind.i64.wrap (r : Int) = (r : Int) := by rw [IntKind.wrap_i64]; omega
  have i1 : (0 : Int) ≤ (r : Int) := by omega
  have i2 : (r : Int) < (m : Int) := by omega
  have hmne : ¬ (m : Int) = 0 := by omega
  have dm : ((m : Int) == 0) = false := by simp; omega
  have HLX : Hid (xs.length + 1 ≤ 17592186044416) := by unfold Hid; omega
  have HZ : Hid (w.heap.size < (w.alloc (.cells #[.int .i64 17, .bool sec, .int .i64 cur, .int .i64 n, .int .i64 lo, .int .i64 hi, .string S] 30)).heap.size) := by unfold Hid; simp
  have HWD : Hid (x.d < w.heap.size ∧ x.c < w.heap.size) := ⟨(hr.far r x x.d hx (.inr (.inl rfl))).2.1, (hr.far r x x.c hx (.inl rfl)).2.1⟩
  have z0 : (w.alloc (.cells #[.int .i64 17, .bool sec, .int .i64 cur, .int .i64 n, .int .i64 lo, .int .i64 hi, .string S] 30)).cell? ⟨w.heap.size, 0, none⟩ = some (.int .i64 17) := (World.cell?_alloc_at _ _ _ _ rfl).trans rfl
  have z1 : (w.alloc (.cells #[.int .i64 17, .bool sec, .int .i64 cur, .int .i64 n, .int .i64 lo, .int .i64 hi, .string S] 30)).cell? ⟨w.heap.size, 1, none⟩ = some (.bool sec) := (World.cell?_alloc_at _ _ _ _ rfl).trans rfl
  have z2 : (w.alloc (.cells #[.int .i64 17, .bool sec, .int .i64 cur, .int .i64 n, .int .i64 lo, .int .i64 hi, .string S] 30)).cell? ⟨w.heap.size, 2, none⟩ = some (.int .i64 cur) := (World.cell?_alloc_at _ _ _ _ rfl).trans rfl
  have z3 : (w.alloc (.cells #[.int .i64 17, .bool sec, .int .i64 cur, .int .i64 n, .int .i64 lo, .int .i64 hi, .string S] 30)).cell? ⟨w.heap.size, 3, none⟩ = some (.int .i64 n) := (World.cell?_alloc_at _ _ _ _ rfl).trans rfl
  have z4 : (w.alloc (.cells #[.int .i64 17, .bool sec, .int .i64 cur, .int .i64 n, .int .i64 lo, .int .i64 hi, .string S] 30)).cell? ⟨w.heap.size, 4, none⟩ = some (.int .i64 lo) := (World.cell?_alloc_at _ _ _ _ rfl).trans rfl
  have z5 : (w.alloc (.cells #[.int .i64 17, .bool sec, .int .i64 cur, .int .i64 n, .int .i64 lo, .int .i64 hi, .string S] 30)).cell? ⟨w.heap.size, 5, none⟩ = some (.int .i64 hi) := (World.cell?_alloc_at _ _ _ _ rfl).trans rfl
  have z6 : (w.alloc (.cells #[.int .i64 17, .bool sec, .int .i64 cur, .int .i64 n, .int .i64 lo, .int .i64 hi, .string S] 30)).cell? ⟨w.heap.size, 6, none⟩ = some (.string S) := (World.cell?_alloc_at _ _ _ _ rfl).trans rfl
  clear hr he hb0 hB0 hl hS hu hrr hx hga hgb gr1' gr2' e1 e2 hm
  go_enter Tryd.func37, Tryd.ntmps37
  go_wp2_with fail
  generalize (w.alloc (.cells #[.int .i64 17, .bool sec, .int .i64 cur, .int .i64 n, .int .i64 lo, .int .i64 hi, .string S] 30)) = W0 at *
  go_quiet (fail)
  have HQ1 : Hid (Below W0.heap.size W0 (W0.drewN nq)) := ⟨rfl, rfl, rfl, Nat.le_refl _, fun _ _ => rfl⟩
  have a0 := cell_below g0 HQ1.out
  have a1 := cell_below g1 HQ1.out
  have ar1 := cell_below gr1 HQ1.out
  have ar2 := cell_below gr2 HQ1.out
  have b0 := cell_below z0 HQ1.out
  have b1 := cell_below z1 HQ1.out
  have b2 := cell_below z2 HQ1.out
  have b3 := cell_below z3 HQ1.out
  have b4 := cell_below z4 HQ1.out
  have b5 := cell_below z5 HQ1.out
  have b6 := cell_below z6 HQ1.out
  have HR1 := hide (HR.out.below HQ1.out)
  have HB1 := hide (chain HB0.out HQ1.out)
  have HA1 := hide (chain HA.out HQ1.out)
  have HZ1 : Hid (w.heap.size < (W0.drewN nq).heap.size) := HZ.out
  clear g0 g1 gr1 gr2 z0 z1 z2 z3 z4 z5 z6 HR HB0 HA HQ1
  generalize W0.drewN nq = W1 at *
  go_wp2_with fail
  go_quiet (fail)
  rename Nat => nq2
  have HQ2 : Hid (Below W1.heap.size W1 (W1.drewN nq2)) := ⟨rfl, rfl, rfl, Nat.le_refl _, fun _ _ => rfl⟩
  have z0 := cell_below b0 HQ2.out
  have z1 := cell_below b1 HQ2.out
  have z2 := cell_below b2 HQ2.out
  have z3 := cell_below b3 HQ2.out
  have z4 := cell_below b4 HQ2.out
  have z5 := cell_below b5 HQ2.out
  have z6 := cell_below b6 HQ2.out
  have HR2 := hide (HR1.out.below HQ2.out)
  have HB2 := hide (chain HB1.out HQ2.out)
  have HZ2 : Hid (w.heap.size < (W1.drewN nq2).heap.size) := HZ1.out
  clear a0 a1 ar1 ar2 b0 b1 b2 b3 b4 b5 b6 HR1 HB1 HA1 HQ2 hcu hcu2 hcm hcm2 htm hrw i1 i2
  generalize W1.drewN nq2 = W2 at *
  have HI := hide (HR2.out.is r x HX.out)
  have fc := HR2.out.far r x x.c HX.out (.inl rfl)
  have fd := HR2.out.far r x x.d HX.out (.inr (.inl rfl))
  have hcd := HR2.out.own r x HX.out
  obtain ⟨hgc, hgd, hhc, hhd⟩ := HR2.out.still r r x x HX.out HX.out
  have HEW : Hid (∀ W, Frm (fun k => k = x.c ∨ k = x.d) W2 W → Errs W E) := fun W hf => HE.out.below (HB2.out.trans (hf.below HB2.out.size (fun k e => by have := HBB.out; rcases e with e | e <;> omega)))
  have hsm := HI.out.sm
  have HLs := hide HI.out.cur.bts.small
  obtain ⟨l, k, q, p', hq1, hq2, hl1, hl2, hpc, hdc⟩ := both_raw E x.L x.len x.p x.bd n HI.out.cur.le HI.out.cur.most HI.out.cur.bts.size
  have HLL : Hid (l.length ≤ 140737488355328) := by unfold Hid; omega
  have HLS : Hid (∀ c ∈ l, c < 256) := fun c hc => HLs.out c (hl2 c hc)
  have HPC := hide hpc
  have HDC := hide hdc
  obtain ⟨N, hN⟩ : ∃ N, l.length = N := ⟨_, rfl⟩
  have hN2 : N ≤ 140737488351232 := by omega
  clear hpc hdc hl1 hl2 HLs
  go_wp2_with fail
  refine Calls.mono (HDC.out x.d x.h x.cap W2 HI.out.doc) ?_
  rintro e w3 ⟨dv, ⟨rfl, h1, h2⟩, hod⟩
  obtain ⟨da, dc, rfl, hbd⟩ := hod.shown HLL.out HLS.out
  rw [hN] at hod hbd ⊢
  have HOD := hide hod
  have HBD := hide hbd
  clear hod hbd
  have HF3 := hide h2
  have HD3 := hide h1
  have HT4 := hide (two_alloc w3 (.int .i64 (k : Int)) (.int .i64 q) 67)
  have HB4 : Hid (Below w3.heap.size w3 (w3.alloc (.cells #[.int .i64 (k : Int), .int .i64 q] 67))) := (Below.refl _ _).alloc (Nat.le_refl _) _
  have HF4 := hide (h2.trans (Frm.ofBelow (S := fun _ => False) HB4.out) (fun j _ t => t.elim))
  have HS3 := hide h2.size
  have y3 := cell_below (h2.cell z3 (by show ¬ w.heap.size = x.d; have := HWD.out.1; omega)) HB4.out
  clear h1 h2 z0 z1 z2 z3 z4 z5 z6
  unfold rerr
  go_wp2_with fail
  generalize w3.alloc (.cells #[.int .i64 (k : Int), .int .i64 q] 67) = W4 at *
  have HK4 := hide (HI.out.cur.frm HF4.out hcd hgd)
  have HF4' := hide (HF4.out.mono (T := fun j => j = x.c ∨ j = x.d) (fun j _ t => Or.inr t))
  have HD4 := hide (HD3.out.below HB4.out)
  refine Calls.mono (HPC.out x.c x.g W4 HK4.out (HEW.out W4 HF4'.out)) ?_
  rintro e w5 ⟨pv, ⟨ev, rfl, h1, h2, h3⟩, hop⟩
  obtain ⟨pa, pc, rfl, hbp⟩ := hop.shown HLL.out HLS.out
  rw [hN] at hop hbp ⊢
  have HOP := hide hop
  have HBP := hide hbp
  clear hop hbp
  have HI5 := hide h1
  have HK5 := hide h2
  have HD5 := hide (HD4.out.frm h3 (fun e => hcd e.symm) hhc)
  have HF5 := hide (HF4'.out.trans h3 (fun j _ t => Or.inl t))
  have HT5 := hide (HT4.out.frm h3 (by show ¬ w3.heap.size = x.c; have := HS3.out; have := fc.2.1; omega))
  have H45 := hide h3
  have t0 := HT5.out.c0
  have t1 := HT5.out.c1
  clear h1 h2 h3 y3
  have HS4 : Hid (W4.heap.size ≤ w5.heap.size) := H45.out.size
  have HBD5 := hide ((HBD.out.below HB4.out).frm H45.out (fun b off e (he : b = x.c) => by
    subst e
    have := (World.ownsRow.lt HOD.out b rfl).1
    have := fc.2.1
    omega))
  have s1 := bts_string HBP.out
  have s2 := bts_string HBD5.out
  generalize str l = SL at *
  go_wp2_with fail
  refine Calls.mono (same_yes ev k q w5 (HEW.out w5 HF5.out) HI5.out) ?_
  rintro e w6 ⟨rfl, hb6⟩
  have HB6 := hide hb6
  clear hb6 s1 s2 t0 t1
  have HO6 := hide (HOP.out.frm (S := fun _ => False) (Frm.ofBelow HB6.out) (fun _ _ h => h))
  have HK6 := hide (HK5.out.below HB6.out)
  have HD6 := hide (HD5.out.below HB6.out)
  have HF6 := hide (HF5.out.trans (Frm.ofBelow (S := fun _ => False) HB6.out) (fun j _ t => t.elim))
  have HNH := hide hN
  clear hN HOP HBP HBD HOD HBD5 HT4 HT5 HF5 HK5 HD5
  obtain ⟨b0, hb0⟩ : ∃ b0, W4.heap.size = b0 := ⟨_, rfl⟩
  have HB00 : Hid (W2.heap.size ≤ b0 ∧ b0 ≤ w6.heap.size) := ⟨by rw [← hb0]; exact HF4.out.size, by rw [← hb0]; exact Nat.le_trans HS4.out HB6.out.size⟩
  rw [hb0] at HO6
  clear hb0
  go_wp2_with fail
  go_loopw [13] (fun i wr => ∃ (j : Nat) (l' : List Nat), j ≤ N ∧ i = .int .i64 (j : Int) ∧ Hid (l'.length = N) ∧ Hid (Own wr b0 (.slice pa N pc) l') ∧ Hid (Frm (fun t => b0 ≤ t) w6 wr)) (fun i _ => N - (intOf i).toNat)
  case atStart => exact ⟨0, l, by omega, rfl, HNH, HO6, Frm.refl _ _⟩
  case round =>
    obtain ⟨j, l', hj, rfl, HL', HOR, HFR⟩ := hrel
    by_cases hlt : j < N
    · obtain ⟨g3, c3, e3, hg3, hc3⟩ := own_some HOR.out HL'.out (by omega)
      injection e3 with e3 _ e4
      subst e3
      subst e4
      obtain ⟨y, hy⟩ : ∃ y, l'[j]? = some y := ⟨_, List.getElem?_eq_getElem (by rw [HL'.out]; exact hlt)⟩
      have kk := HOR.out.cellAt HL'.out j y hy
      have kf := HOR.out.frozenAt HL'.out j
      have HS := hide (HOR.out.stored HL'.out j 66)
      have hj1 : (j : Int) < (N : Int) := by omega
      have HG3 := hide hg3
      clear hy hg3
      go_wp2
      refine ⟨⟨j + 1, l'.set j 66, by omega, by first | rfl | simp, ?_, HS, HFR.out.trans (frm_setCell wr ⟨g3, j, none⟩ _) (fun t _ (e : t = g3) => by have := HG3.out; show b0 ≤ t; omega)⟩, by simp [intOf]; omega⟩
      unfold Hid
      rw [List.length_set, HL'.out]
    · obtain rfl : j = N := by omega
      have HF1 := HFR
      have HO1 := HOR
      have HL1 := HL'
      generalize wr = w7 at *
      go_wp2_with fail
      go_loopw [10, 14] (fun v i wr => ∃ (t : Nat) (l2 : List Nat) (vv : Value), vv = v ∧ t ≤ 8 ∧ i = .int .i64 (t : Int) ∧ Hid (l2.length = j + t) ∧ Hid (Own wr b0 v l2) ∧ Hid (Frm (fun t => b0 ≤ t) w6 wr)) (fun _ i _ => 8 - (intOf i).toNat)
      case atStart => exact ⟨0, l', _, rfl, by omega, rfl, HL1, HO1, HF1⟩
      case round =>
        obtain ⟨t, l2, vv, rfl, ht, rfl, HL2, HOR2, HFR2⟩ := hrel
        by_cases h8 : t < 8
        · have ht1 : (t : Int) < 8 := by omega
          have HAw : Hid (Below wr.heap.size wr (wr.alloc (.cells #[.int .u8 67] 5))) := (Below.refl _ _).alloc (Nat.le_refl _) _
          have HOa := hide (HOR2.out.frm (S := fun _ => False) (Frm.ofBelow HAw.out) (fun _ _ h => h))
          have HLa : Hid (l2.length + 1 ≤ 140737488355328) := by unfold Hid; rw [HL2.out]; omega
          have HSa : Hid (b0 ≤ (wr.alloc (.cells #[.int .u8 67] 5)).heap.size) := by unfold Hid; have := HAw.out.size; have := HFR2.out.size; have := HB00.out; omega
          go_wp2_with (first | (refine append_lie rfl (.tmp 106) (.tmp 107) rfl b0 vv _ rfl HOa.out _ 1 1 [67] rfl (one_byte wr 67 (by decide) _) HLa.out HSa.out ?_; intro v3 w8 ho hf hq; have HO8 := hide ho; have HF8 := hide ((HFR2.out.trans (Frm.ofBelow (S := fun _ => False) HAw.out) (fun j _ t => t.elim)).trans hf (fun k _ e => (World.ownsRow.lt HOR2.out k e).1)); clear ho hf hq))
          refine ⟨⟨t + 1, l2 ++ [67], v3, rfl, by omega, by first | rfl | simp, ?_, HO8, HF8⟩, by simp [intOf]; omega⟩
          unfold Hid
          rw [List.length_append, HL2.out]
          rfl
        · obtain rfl : t = 8 := by omega
          obtain ⟨g8, c8, rfl, hg8, hc8⟩ := own_some HOR2.out HL2.out (by omega)
          have hw8 : IntKind.i64.wrap ((j : Int) + 8) = (j : Int) + 8 := by rw [IntKind.wrap_i64]; omega
          have fg := HR2.out.far r x x.g HX.out (.inr (.inr (.inl rfl)))
          have fh := HR2.out.far r x x.h HX.out (.inr (.inr (.inr rfl)))
          go_wp2
          go_ret
          have hbz := HB00.out
          exact went_step HR2.out HX.out (HF6.out.trans HFR2.out (fun k hk (e : b0 ≤ k) => by omega)) (HK6.out.frm HFR2.out (by show ¬ b0 ≤ x.c; omega) (by show ¬ b0 ≤ x.g; omega)) (HD6.out.frm HFR2.out (by show ¬ b0 ≤ x.d; omega) (by show ¬ b0 ≤ x.h; omega)) HB2.out HBB.out
end Go.Proofs.YtkkogkdalcigkaaDoor
namespace Go.Proofs.YtkkogkdalcigkaaDoor
open Go.RowKit FerryCrc
set_option linter.unusedVariables false
set_option linter.unusedSimpArgs false

theorem reads_any {E : Nat → Addr} (w0 : World) (B : Nat) (v1 v2 : Value) (xs : List RI) (kind : Int) (sec : Bool) (cur n lo hi : Int) (S : ByteArray) (w : World) (hr : Rd w B v1 v2 xs) (he : Errs w0 E) (hb0 : Below w0.heap.size w0 w) (hB0 : w0.heap.size ≤ B) (hl : xs.length ≤ 5864062014805) (hS : S.size ≤ 140737488351232) :
    Calls Tryd.prog 37 #[.pointer (some ⟨B, 0, none⟩), .agg #[.int .i64 kind, .bool sec, .int .i64 cur, .int .i64 n, .int .i64 lo, .int .i64 hi, .string S]] w fun e w' => Went w0 B xs.length e w' := by
  by_cases h11 : kind = 11
  · subst h11; exact reads_open w0 B v1 v2 xs sec cur n lo hi S w hr he hb0 hB0 hl hS
  by_cases hm : xs.length = 0
  · exact reads_none w0 B v1 v2 xs kind sec cur n lo hi S w hr he hb0 hB0 hl hS h11 hm
  by_cases h19 : kind = 19
  · subst h19; exact reads_next w0 B v1 v2 xs sec cur n lo hi S w hr he hb0 hB0 hl hS hm
  by_cases h20 : kind = 20
  · subst h20; exact reads_record w0 B v1 v2 xs sec cur n lo hi S w hr he hb0 hB0 hl hS hm
  by_cases h17 : kind = 17
  · subst h17; exact reads_raw w0 B v1 v2 xs sec cur n lo hi S w hr he hb0 hB0 hl hS hm
  by_cases h18 : kind = 18
  · subst h18; exact reads_text w0 B v1 v2 xs sec cur n lo hi S w hr he hb0 hB0 hl hS hm
  by_cases h21 : kind = 21
  · subst h21; exact reads_end w0 B v1 v2 xs sec cur n lo hi S w hr he hb0 hB0 hl hS hm
  by_cases h22 : kind = 22
  · subst h22; exact reads_where w0 B v1 v2 xs sec cur n lo hi S w hr he hb0 hB0 hl hS hm
  exact reads_number w0 B v1 v2 xs kind sec cur n lo hi S w hr he hb0 hB0 hl hS h11 h17 h18 h19 h20 h21 h22 hm
theorem rd_nil {w : World} {B : Nat} (h : Two w B (.slice none 0 0) (.slice none 0 0)) : Rd w B (.slice none 0 0) (.slice none 0 0) [] :=
  ⟨⟨h, ⟨rfl, .inl ⟨rfl, rfl⟩⟩, ⟨rfl, .inl ⟨rfl, rfl⟩⟩, fun k hk => by simp [Value.ownBlock] at hk⟩, fun i x hx => by simp at hx, fun i x k hx => by simp at hx, fun i x hx => by simp at hx, fun i j x y hx => by simp at hx, fun i j x y hx => by simp at hx⟩

end Go.Proofs.YtkkogkdalcigkaaDoor
namespace Go.Proofs.YtkkogkdalcigkaaDoor.wireReads
open Go.RowKit FerryCrc
set_option linter.unusedVariables false
set_option linter.unusedSimpArgs false

set_option maxRecDepth 100000 in
set_option maxHeartbeats 4000000 in
theorem law {E : Nat → Addr} (a : Option Addr) (len cap : Nat) (l : List Op7) (w : World) (he : Errs w E) (hs : Rcs Op7.cells 7 w a len cap l) (hok : ∀ o ∈ l, o.Ok) (hm : len ≤ 5864062014805) :
    Calls Tryd.prog 8 #[.slice a len cap] w fun e w' => e = .returned (.bool true) ∧ Below w.heap.size w w' := by
  have HE := hide he
  have HS := hide hs
  have HOK := hide hok
  have HZ := hide hs.size
  clear he hs hok
  go_enter Tryd.func8, Tryd.ntmps8
  go_wp2_with fail
  refine Calls.mono (fixed_any w HE.out) ?_
  rintro e w1 ⟨rfl, hb1⟩
  have HB1 := hide hb1
  clear hb1
  have HC1 := hide (rd_nil (two_alloc w1 (.slice none 0 0) (.slice none 0 0) 28))
  have HB2 := hide (HB1.out.alloc HB1.out.size (.cells #[.slice none 0 0, .slice none 0 0] 28))
  have HBB := hide HB1.out.size
  generalize hB : w1.heap.size = B at HC1 HBB
  go_wp2_with fail
  go_loopw [4] (fun i wr => ∃ (k : Nat) (v1 v2 : Value) (xs : List RI), k ≤ len ∧ i = .int .i64 (k : Int) ∧ Hid (Rd wr B v1 v2 xs) ∧ Hid (xs.length ≤ k) ∧ Hid (Below w.heap.size w wr)) (fun i _ => len - (intOf i).toNat)
  case atStart => exact ⟨0, _, _, [], by omega, rfl, HC1, by unfold Hid; simp, HB2⟩
  case round =>
    obtain ⟨k, v1, v2, xs, hk, rfl, HC, HL, HB⟩ := hrel
    by_cases hlt : k < len
    · obtain ⟨o, ho⟩ : ∃ o, l[k]? = some o := ⟨_, List.getElem?_eq_getElem (by rw [HZ.out]; exact hlt)⟩
      obtain ⟨b, off, rfl, hcell⟩ := HS.out.at Op7.len (by decide) ho
      have HO := hide (HOK.out o (List.mem_of_getElem? ho))
      have f0 : wr.cell? ⟨b, off + k * 7, none⟩ = some (.int .i64 o.kind) := cell_below (hcell 0 _ rfl) HB.out
      have f1 : wr.cell? ⟨b, off + k * 7 + 1, none⟩ = some (.bool o.sec) := cell_below (hcell 1 _ rfl) HB.out
      have f2 : wr.cell? ⟨b, off + k * 7 + 2, none⟩ = some (.int .i64 o.cur) := cell_below (hcell 2 _ rfl) HB.out
      have f3 : wr.cell? ⟨b, off + k * 7 + 3, none⟩ = some (.int .i64 o.n) := cell_below (hcell 3 _ rfl) HB.out
      have f4 : wr.cell? ⟨b, off + k * 7 + 4, none⟩ = some (.int .i64 o.lo) := cell_below (hcell 4 _ rfl) HB.out
      have f5 : wr.cell? ⟨b, off + k * 7 + 5, none⟩ = some (.int .i64 o.hi) := cell_below (hcell 5 _ rfl) HB.out
      have f6 : wr.cell? ⟨b, off + k * 7 + 6, none⟩ = some (.string o.s) := cell_below (hcell 6 _ rfl) HB.out
      clear hcell ho
      obtain ⟨kind, sec, cur, n, lo, hi, S⟩ := o
      simp only at f0 f1 f2 f3 f4 f5 f6
      have HCR := hide (reads_any w B v1 v2 xs kind sec cur n lo hi S wr HC.out HE.out HB.out HBB.out (by have := HL.out; omega) HO.out.s)
      go_wp2_with fail
      refine Calls.mono HCR.out ?_
      rintro e w3 ⟨rfl, v1', v2', xs', q1, q2, q3⟩
      have HC3 := hide q1
      have HL3 : Hid (xs'.length ≤ k + 1) := by unfold Hid; have := HL.out; omega
      have HB3 := hide q3
      clear q1 q2 q3 f0 f1 f2 f3 f4 f5 f6
      go_wp2
      exact ⟨⟨k + 1, v1', v2', xs', by omega, by first | rfl | simp, HC3, HL3, HB3⟩, by simp [intOf]; omega⟩
    · obtain rfl : k = len := by omega
      obtain ⟨m, hxl⟩ : ∃ m, xs.length = m := ⟨_, rfl⟩
      have HM := hide hxl
      have hmb : m ≤ 5864062014805 := by have := HL.out; omega
      generalize wr = w7 at *
      clear hxl
      go_wp2_with fail
      go_loopw [5] (fun i wr => ∃ (j : Nat), j ≤ m ∧ i = .int .i64 (j : Int) ∧ Hid (Rd wr B v1 v2 xs) ∧ Hid (Below w.heap.size w wr)) (fun i _ => m - (intOf i).toNat)
      case atStart => exact ⟨0, by omega, rfl, HC, HB⟩
      case round =>
        obtain ⟨j, hj, rfl, HCj, HBj⟩ := hrel
        obtain ⟨a1, c1, e1, hc1, hrow1⟩ := row_form HCj.out.csr.r1
        obtain ⟨a2, c2, e2, hc2, hrow2⟩ := row_form HCj.out.csr.r2
        rw [List.length_map, HM.out] at e1 e2 hc1 hc2
        have g0 := HCj.out.csr.two.c0
        have g1 := HCj.out.csr.two.c1
        rw [e1] at g0
        rw [e2] at g1
        by_cases hjm : j < m
        · obtain ⟨x, hx⟩ : ∃ x, xs[j]? = some x := ⟨_, List.getElem?_eq_getElem (by rw [HM.out]; exact hjm)⟩
          obtain ⟨ga, rfl, hga⟩ := hrow1 (by rw [List.length_map, HM.out]; omega)
          obtain ⟨gb, rfl, hgb⟩ := hrow2 (by rw [List.length_map, HM.out]; omega)
          have gr1' := hga j (by rw [List.length_map, HM.out]; omega)
          rw [List.getElem?_map, List.getElem?_map, hx] at gr1'
          have gr1 : wr.cell? ⟨ga, j, none⟩ = some (.pointer (some ⟨x.c, 0, none⟩)) := gr1'
          have gr2' := hgb j (by rw [List.length_map, HM.out]; omega)
          rw [List.getElem?_map, List.getElem?_map, hx] at gr2'
          have gr2 : wr.cell? ⟨gb, j, none⟩ = some (.pointer (some ⟨x.d, 0, none⟩)) := gr2'
          have HI := hide (HCj.out.is j x hx)
          have d1 := HI.out.doc.c1
          have i1 : (0 : Int) ≤ (j : Int) := by omega
          have i2 : (j : Int) < (m : Int) := by omega
          obtain ⟨kk, q, hpc, hdc⟩ := both_end E x.L x.len x.p x.bd
          have HPC := hide hpc
          have HDC := hide hdc
          obtain ⟨A, hA⟩ : ∃ A, x.bd - x.p = A := ⟨_, rfl⟩
          have HLP := hide (fun W (h : Cur W x.c x.g x.len x.p x.bd x.L) => left_any x.c x.g x.len x.p x.bd x.L W h)
          have HLD := hide (fun W (h : Doc W x.d x.h x.len x.cap x.p x.bd x.L) => rleft_any x.d x.h x.len x.cap x.p x.bd x.L W h)
          rw [hA] at HLP HLD
          have HDW : Hid (Below wr.heap.size wr wr.drew) := (Below.refl _ _).drew
          have HSS : Hid (∀ W, Below wr.heap.size wr W → W.cell? ⟨B, 0, none⟩ = some (.slice (some ⟨ga, 0, none⟩) m c1) ∧ W.cell? ⟨B, 1, none⟩ = some (.slice (some ⟨gb, 0, none⟩) m c2) ∧ W.cell? ⟨ga, j, none⟩ = some (.pointer (some ⟨x.c, 0, none⟩)) ∧ W.cell? ⟨gb, j, none⟩ = some (.pointer (some ⟨x.d, 0, none⟩)) ∧ W.cell? ⟨x.d, 1, none⟩ = some (.int .i64 (x.p : Int))) := fun W hb => ⟨cell_below g0 hb, cell_below g1 hb, cell_below gr1 hb, cell_below gr2 hb, cell_below d1 hb⟩
          clear hpc hdc hA gr1' gr2' hga hgb hrow1 hrow2 e1 e2 hx
          go_wp2_with fail
          go_region_held3 (fun W => W.cell? ⟨B, 0, none⟩ = some (.slice (some ⟨ga, 0, none⟩) m c1) ∧ W.cell? ⟨B, 1, none⟩ = some (.slice (some ⟨gb, 0, none⟩) m c2) ∧ W.cell? ⟨ga, j, none⟩ = some (.pointer (some ⟨x.c, 0, none⟩)) ∧ W.cell? ⟨gb, j, none⟩ = some (.pointer (some ⟨x.d, 0, none⟩)) ∧ W.cell? ⟨x.d, 1, none⟩ = some (.int .i64 (x.p : Int))) (first | exact HSS.out _ HH7.out | exact HSS.out _ HH6.out | exact HSS.out _ HH5.out | exact HSS.out _ HH4.out | exact HSS.out _ HH3.out | exact HSS.out _ HDW.out) (first
            | (go_at_call 11; refine (at_any x.c x.g x.len x.p x.bd x.L wr.drew (HI.out.cur.below HDW.out)).mono ?_; rintro e w3 ⟨rfl, rfl⟩)
            | (go_at_call 12; refine (HLP.out wr.drew (HI.out.cur.below HDW.out)).mono ?_; rintro e w3 ⟨rfl, hb3⟩; have HH3 := hide (chain HDW.out hb3); clear hb3)
            | (go_at_call 38; refine (HLD.out w3 (HI.out.doc.below HH3.out)).mono ?_; rintro e w4 ⟨rfl, hb4⟩; have HH4 := hide (chain HH3.out hb4); clear hb4)
            | (go_at_call 17; refine (HPC.out x.c x.g w4 (HI.out.cur.below HH4.out) (HE.out.below (chain HBj.out HH4.out))).mono ?_; rintro e w5 ⟨ev, rfl, hi5, hb5⟩; have HI5 := hide hi5; have HH5 := hide (chain HH4.out hb5); clear hi5 hb5)
            | (go_at_call 39; refine (HDC.out x.d x.h x.cap w5 (HI.out.doc.below HH5.out)).mono ?_; rintro e w6 ⟨rfl, hb6⟩; have HI6 := hide (HI5.out.below hb6); have HH6 := hide (chain HH5.out hb6); clear hb6)
            | (go_at_call 31; refine (same_yes ev kk q w6 (HE.out.below (chain HBj.out HH6.out)) HI6.out).mono ?_; rintro e w7' ⟨rfl, hb7⟩; have HH7 := hide (chain HH6.out hb7); clear hb7))
          go_wp2
          exact ⟨⟨j + 1, by omega, by first | rfl | simp, HCj.out.below HH7.out, chain HBj.out HH7.out⟩, by simp [intOf]; omega⟩
        · obtain rfl : j = m := by omega
          go_wp2
          go_ret
          exact ⟨rfl, HBj.out⟩
end Go.Proofs.YtkkogkdalcigkaaDoor.wireReads
