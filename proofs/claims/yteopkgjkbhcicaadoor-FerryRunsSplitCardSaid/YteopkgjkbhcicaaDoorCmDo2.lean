/-
  What an instruction does to the machine: branches, jumps, calls, what computes.
-/
import Derived.Test.YteopkgjkbhcicaaDoorCmDo1
namespace Go.Proofs.YteopkgjkbhcicaaDoor
open Go.RowKit FerryCrc FerryAlu
set_option linter.unusedVariables false
set_option linter.unusedSimpArgs false

set_option maxRecDepth 100000 in
set_option maxHeartbeats 8000000 in
theorem do_branch {w : World} {mb base : Nat} {v : Value} {m : Mc} (h : MAt w mb base v m) (op : Int) (a b c : Nat) (imm : Int) (ha : a < 16) (hb : b < 16) (hc : c < 16) (h1 : -9223372036854775808 ≤ imm) (h2 : imm ≤ 9223372036854775807) (o1 : 48 ≤ op) (o2 : op ≤ 53) :
    Calls Tryd.prog 25 #[.pointer (some ⟨mb, 0, none⟩), .agg #[.int .i64 op, .int .i64 (a : Int), .int .i64 (b : Int), .int .i64 (c : Int), .int .i64 imm]] w fun e w' => e = .returned (.int .i64 (((m.doI (mkI op a b c imm)).2 : Nat) : Int)) ∧ MAt w' mb base v (m.doI (mkI op a b c imm)).1 ∧ Mfr mb v w w' := by
  have D0 : Hid (Below w.heap.size w (w.alloc (.cells #[.int .i64 op, .int .i64 (a : Int), .int .i64 (b : Int), .int .i64 (c : Int), .int .i64 imm] 71))) := (Below.refl _ _).alloc (Nat.le_refl _) _
  have hbl := bl_alloc w #[.int .i64 op, .int .i64 (a : Int), .int .i64 (b : Int), .int .i64 (c : Int), .int .i64 imm] 71
  have hz0 : Hid (w.heap.size < (w.alloc (.cells #[.int .i64 op, .int .i64 (a : Int), .int .i64 (b : Int), .int .i64 (c : Int), .int .i64 imm] 71)).heap.size) := by unfold Hid; simp
  have hsz : Hid ((w.alloc (.cells #[.int .i64 op, .int .i64 (a : Int), .int .i64 (b : Int), .int .i64 (c : Int), .int .i64 imm] 71)).heap.size = w.heap.size + 1) := by unfold Hid; simp
  obtain ⟨c0, c1, c2, c3, c4⟩ := bl_get hbl
  have HZ := hide hbl
  have HM := hide (h.below D0.out)
  have pc0 := HM.out.pc
  have HH := hide h
  have pl := h.ok.pc
  obtain ⟨nx, hnx⟩ : ∃ nx, (m.pc + 4) % 4294967296 = nx := ⟨_, rfl⟩
  have e4 : ((m.pc : Int) + 4) % 4294967296 = (nx : Int) := by omega
  have nl : nx < 4294967296 := by omega
  clear hbl h
  have zl := un_lt imm
  obtain ⟨z4, hz4⟩ : ∃ z4, 4 * un imm % 4294967296 = z4 := ⟨_, rfl⟩
  obtain ⟨tg, htg⟩ : ∃ tg, (m.pc + 4 + 4 * un imm) % 4294967296 = tg := ⟨_, rfl⟩
  have e5 : 4 * ((un imm : Nat) : Int) % 4294967296 = (z4 : Int) := by omega
  have e6 : ((nx : Int) + (z4 : Int)) % 4294967296 = (tg : Int) := by omega
  have tl : tg < 4294967296 := by omega
  have HW := hide (fun w => word_any imm w h1 h2)
  have d1 : decide (32 ≤ op) = true := decide_eq_true (by omega)
  have d2 : decide (op ≤ 34) = false := decide_eq_false (by omega)
  have d3 : decide (35 ≤ op) = true := decide_eq_true (by omega)
  have d4 : decide (op ≤ 37) = false := decide_eq_false (by omega)
  have d5 : decide (48 ≤ op) = true := decide_eq_true o1
  have d6 : decide (op ≤ 53) = true := decide_eq_true o2
  have HD : Hid (m.doI (mkI op a b c imm) = (m.setP (if tstV op (m.reg a) (m.reg b) then tg else nx), 0)) := by
    unfold Hid Mc.doI
    rw [if_neg (by show ¬ (32 ≤ op ∧ op ≤ 34); omega), if_neg (by show ¬ (35 ≤ op ∧ op ≤ 37); omega), if_pos ⟨o1, o2⟩]
    simp only [Int.toNat_natCast, hnx, htg]
  have HL := hide (holds_any HM.out op a b c imm ha hb o1 o2)
  clear hnx o1 o2 hz4 htg
  generalize tstV op (m.reg a) (m.reg b) = T at *
  generalize un imm = z at *
  go_enter Tryd.func25, Tryd.ntmps25
  go_wp2_with fail
  generalize w.alloc (.cells #[.int .i64 op, .int .i64 (a : Int), .int .i64 (b : Int), .int .i64 (c : Int), .int .i64 imm] 71) = W0 at *
  refine Calls.mono HL.out ?_
  rintro e w1 ⟨rfl, b1⟩
  have HM1 := hide (HM.out.below b1)
  obtain ⟨k0, k1, k2, k3, k4⟩ := bl_get (HZ.out.below hz0.out b1)
  have D1 := hide (Mfr.ofBelow (mb := mb) (v := v) (chain D0.out b1))
  have p0 := HM1.out.pc
  have p1 := HM1.out.bl.free 17
  cases T with
  | true =>
    have HR := HD.out
    rw [if_pos rfl] at HR
    have HR2 := hide HR
    have HM2 := hide (HM1.out.setPc tl)
    have HB2 := hide (D1.out.setCell (j := 17) (.int .u32 (tg : Int)))
    clear HD HL HR b1
    go_wp2_with fail
    refine Calls.mono (HW.out _) ?_
    rintro e w2 ⟨rfl, rfl⟩
    go_wp2
    go_ret
    exact ⟨by rw [HR2.out]; rfl, by rw [HR2.out]; exact HM2.out, HB2.out⟩
  | false =>
    have HR := HD.out
    rw [if_neg (by decide)] at HR
    have HR2 := hide HR
    have HM2 := hide (HM1.out.setPc nl)
    have HB2 := hide (D1.out.setCell (j := 17) (.int .u32 (nx : Int)))
    clear HD HL HR b1
    go_wp2
    go_ret
    exact ⟨by rw [HR2.out]; rfl, by rw [HR2.out]; exact HM2.out, HB2.out⟩

set_option maxRecDepth 100000 in
set_option maxHeartbeats 8000000 in
theorem do_jal {w : World} {mb base : Nat} {v : Value} {m : Mc} (h : MAt w mb base v m) (op : Int) (a b c : Nat) (imm : Int) (ha : a < 16) (hb : b < 16) (hc : c < 16) (h1 : -9223372036854775808 ≤ imm) (h2 : imm ≤ 9223372036854775807) (o1 : op = 54) :
    Calls Tryd.prog 25 #[.pointer (some ⟨mb, 0, none⟩), .agg #[.int .i64 op, .int .i64 (a : Int), .int .i64 (b : Int), .int .i64 (c : Int), .int .i64 imm]] w fun e w' => e = .returned (.int .i64 (((m.doI (mkI op a b c imm)).2 : Nat) : Int)) ∧ MAt w' mb base v (m.doI (mkI op a b c imm)).1 ∧ Mfr mb v w w' := by
  subst o1
  have D0 : Hid (Below w.heap.size w (w.alloc (.cells #[.int .i64 54, .int .i64 (a : Int), .int .i64 (b : Int), .int .i64 (c : Int), .int .i64 imm] 71))) := (Below.refl _ _).alloc (Nat.le_refl _) _
  have hbl := bl_alloc w #[.int .i64 54, .int .i64 (a : Int), .int .i64 (b : Int), .int .i64 (c : Int), .int .i64 imm] 71
  have hz0 : Hid (w.heap.size < (w.alloc (.cells #[.int .i64 54, .int .i64 (a : Int), .int .i64 (b : Int), .int .i64 (c : Int), .int .i64 imm] 71)).heap.size) := by unfold Hid; simp
  have hsz : Hid ((w.alloc (.cells #[.int .i64 54, .int .i64 (a : Int), .int .i64 (b : Int), .int .i64 (c : Int), .int .i64 imm] 71)).heap.size = w.heap.size + 1) := by unfold Hid; simp
  obtain ⟨c0, c1, c2, c3, c4⟩ := bl_get hbl
  have HZ := hide hbl
  have HM := hide (h.below D0.out)
  have pc0 := HM.out.pc
  have HH := hide h
  have pl := h.ok.pc
  obtain ⟨nx, hnx⟩ : ∃ nx, (m.pc + 4) % 4294967296 = nx := ⟨_, rfl⟩
  have e4 : ((m.pc : Int) + 4) % 4294967296 = (nx : Int) := by omega
  have nl : nx < 4294967296 := by omega
  clear hbl h
  have zl := un_lt imm
  obtain ⟨z4, hz4⟩ : ∃ z4, 4 * un imm % 4294967296 = z4 := ⟨_, rfl⟩
  obtain ⟨tg, htg⟩ : ∃ tg, (m.pc + 4 + 4 * un imm) % 4294967296 = tg := ⟨_, rfl⟩
  have e5 : 4 * ((un imm : Nat) : Int) % 4294967296 = (z4 : Int) := by omega
  have e6 : ((nx : Int) + (z4 : Int)) % 4294967296 = (tg : Int) := by omega
  have tl : tg < 4294967296 := by omega
  have HW := hide (fun w => word_any imm w h1 h2)
  have HD : Hid (m.doI (mkI 54 a b c imm) = ((m.setR a nx).setP tg, 0)) := by
    unfold Hid Mc.doI
    simp only [Int.toNat_natCast, hnx, htg]
    simp
  clear hnx hz4 htg
  generalize un imm = z at *
  have HS := hide (set_any HM.out a nx ha nl)
  go_enter Tryd.func25, Tryd.ntmps25
  go_wp2_with fail
  generalize w.alloc (.cells #[.int .i64 54, .int .i64 (a : Int), .int .i64 (b : Int), .int .i64 (c : Int), .int .i64 imm] 71) = W0 at *
  refine Calls.mono HS.out ?_
  rintro e w1 ⟨rfl, hm1, f1⟩
  obtain ⟨k0, k1, k2, k3, k4⟩ := bl_get (HZ.out.oth hz0.out f1 (fun e => by injection e with e; have := HH.out.lt; omega))
  have p0 := hm1.pc
  have p1 := hm1.bl.free 17
  have HM2 := hide (hm1.setPc tl)
  have HB2 := hide ((mat_frame (m1 := m) HH.out D0.out f1).setCell (j := 17) (.int .u32 (tg : Int)))
  clear hm1 f1 HS
  go_wp2_with fail
  refine Calls.mono (HW.out _) ?_
  rintro e w2 ⟨rfl, rfl⟩
  go_wp2
  go_ret
  exact ⟨by rw [HD.out]; rfl, by rw [HD.out]; exact HM2.out, HB2.out⟩

set_option maxRecDepth 100000 in
set_option maxHeartbeats 8000000 in
theorem do_jr {w : World} {mb base : Nat} {v : Value} {m : Mc} (h : MAt w mb base v m) (op : Int) (a b c : Nat) (imm : Int) (ha : a < 16) (hb : b < 16) (hc : c < 16) (h1 : -9223372036854775808 ≤ imm) (h2 : imm ≤ 9223372036854775807) (o1 : op = 55) :
    Calls Tryd.prog 25 #[.pointer (some ⟨mb, 0, none⟩), .agg #[.int .i64 op, .int .i64 (a : Int), .int .i64 (b : Int), .int .i64 (c : Int), .int .i64 imm]] w fun e w' => e = .returned (.int .i64 (((m.doI (mkI op a b c imm)).2 : Nat) : Int)) ∧ MAt w' mb base v (m.doI (mkI op a b c imm)).1 ∧ Mfr mb v w w' := by
  subst o1
  have D0 : Hid (Below w.heap.size w (w.alloc (.cells #[.int .i64 55, .int .i64 (a : Int), .int .i64 (b : Int), .int .i64 (c : Int), .int .i64 imm] 71))) := (Below.refl _ _).alloc (Nat.le_refl _) _
  have hbl := bl_alloc w #[.int .i64 55, .int .i64 (a : Int), .int .i64 (b : Int), .int .i64 (c : Int), .int .i64 imm] 71
  have hz0 : Hid (w.heap.size < (w.alloc (.cells #[.int .i64 55, .int .i64 (a : Int), .int .i64 (b : Int), .int .i64 (c : Int), .int .i64 imm] 71)).heap.size) := by unfold Hid; simp
  have hsz : Hid ((w.alloc (.cells #[.int .i64 55, .int .i64 (a : Int), .int .i64 (b : Int), .int .i64 (c : Int), .int .i64 imm] 71)).heap.size = w.heap.size + 1) := by unfold Hid; simp
  obtain ⟨c0, c1, c2, c3, c4⟩ := bl_get hbl
  have HZ := hide hbl
  have HM := hide (h.below D0.out)
  have pc0 := HM.out.pc
  have HH := hide h
  have pl := h.ok.pc
  obtain ⟨nx, hnx⟩ : ∃ nx, (m.pc + 4) % 4294967296 = nx := ⟨_, rfl⟩
  have e4 : ((m.pc : Int) + 4) % 4294967296 = (nx : Int) := by omega
  have nl : nx < 4294967296 := by omega
  clear hbl h
  have al : m.adr (mkI 55 a b c imm) < 4294967296 := by unfold Mc.adr; omega
  have HD : Hid (m.doI (mkI 55 a b c imm) = (m.setP (m.adr (mkI 55 a b c imm)), 0)) := by
    unfold Hid Mc.doI
    simp
  have HL := hide (address_any HM.out 55 a b c imm hb h1 h2)
  clear hnx
  generalize m.adr (mkI 55 a b c imm) = N at *
  go_enter Tryd.func25, Tryd.ntmps25
  go_wp2_with fail
  generalize w.alloc (.cells #[.int .i64 55, .int .i64 (a : Int), .int .i64 (b : Int), .int .i64 (c : Int), .int .i64 imm] 71) = W0 at *
  refine Calls.mono HL.out ?_
  rintro e w1 ⟨rfl, b1⟩
  have HM1 := hide (HM.out.below b1)
  have D1 := hide (Mfr.ofBelow (mb := mb) (v := v) (chain D0.out b1))
  have p0 := HM1.out.pc
  have p1 := HM1.out.bl.free 17
  have HM2 := hide (HM1.out.setPc al)
  have HB2 := hide (D1.out.setCell (j := 17) (.int .u32 (N : Int)))
  clear HL b1
  go_wp2
  go_ret
  exact ⟨by rw [HD.out]; rfl, by rw [HD.out]; exact HM2.out, HB2.out⟩

set_option maxRecDepth 100000 in
set_option maxHeartbeats 8000000 in
theorem do_sys {w : World} {mb base : Nat} {v : Value} {m : Mc} (h : MAt w mb base v m) (op : Int) (a b c : Nat) (imm : Int) (ha : a < 16) (hb : b < 16) (hc : c < 16) (h1 : -9223372036854775808 ≤ imm) (h2 : imm ≤ 9223372036854775807) (o1 : op = 64) :
    Calls Tryd.prog 25 #[.pointer (some ⟨mb, 0, none⟩), .agg #[.int .i64 op, .int .i64 (a : Int), .int .i64 (b : Int), .int .i64 (c : Int), .int .i64 imm]] w fun e w' => e = .returned (.int .i64 (((m.doI (mkI op a b c imm)).2 : Nat) : Int)) ∧ MAt w' mb base v (m.doI (mkI op a b c imm)).1 ∧ Mfr mb v w w' := by
  subst o1
  have D0 : Hid (Below w.heap.size w (w.alloc (.cells #[.int .i64 64, .int .i64 (a : Int), .int .i64 (b : Int), .int .i64 (c : Int), .int .i64 imm] 71))) := (Below.refl _ _).alloc (Nat.le_refl _) _
  have hbl := bl_alloc w #[.int .i64 64, .int .i64 (a : Int), .int .i64 (b : Int), .int .i64 (c : Int), .int .i64 imm] 71
  have hz0 : Hid (w.heap.size < (w.alloc (.cells #[.int .i64 64, .int .i64 (a : Int), .int .i64 (b : Int), .int .i64 (c : Int), .int .i64 imm] 71)).heap.size) := by unfold Hid; simp
  have hsz : Hid ((w.alloc (.cells #[.int .i64 64, .int .i64 (a : Int), .int .i64 (b : Int), .int .i64 (c : Int), .int .i64 imm] 71)).heap.size = w.heap.size + 1) := by unfold Hid; simp
  obtain ⟨c0, c1, c2, c3, c4⟩ := bl_get hbl
  have HZ := hide hbl
  have HM := hide (h.below D0.out)
  have pc0 := HM.out.pc
  have HH := hide h
  have pl := h.ok.pc
  obtain ⟨nx, hnx⟩ : ∃ nx, (m.pc + 4) % 4294967296 = nx := ⟨_, rfl⟩
  have e4 : ((m.pc : Int) + 4) % 4294967296 = (nx : Int) := by omega
  have nl : nx < 4294967296 := by omega
  clear hbl h
  have HD : Hid (m.doI (mkI 64 a b c imm) = (m.setP nx, 0)) := by
    unfold Hid Mc.doI
    simp [hnx]
  have p0 := HM.out.pc
  have p1 := HM.out.bl.free 17
  have HM2 := hide (HM.out.setPc nl)
  have HB2 := hide ((Mfr.ofBelow (mb := mb) (v := v) D0.out).setCell (j := 17) (.int .u32 (nx : Int)))
  clear hnx
  go_enter Tryd.func25, Tryd.ntmps25
  go_upto_region 2 with fail
  generalize w.alloc (.cells #[.int .i64 64, .int .i64 (a : Int), .int .i64 (b : Int), .int .i64 (c : Int), .int .i64 imm] 71) = W0 at *
  go_wp2
  go_ret
  exact ⟨by rw [HD.out]; rfl, by rw [HD.out]; exact HM2.out, HB2.out⟩

set_option maxRecDepth 100000 in
set_option maxHeartbeats 8000000 in
theorem do_comp {w : World} {mb base : Nat} {v : Value} {m : Mc} (h : MAt w mb base v m) (op : Int) (a b c : Nat) (imm : Int) (ha : a < 16) (hb : b < 16) (hc : c < 16) (h1 : -9223372036854775808 ≤ imm) (h2 : imm ≤ 9223372036854775807) (o1 : 1 ≤ op) (o2 : op ≤ 20) (A : Addr) (hd : Dvz w A) :
    Calls Tryd.prog 25 #[.pointer (some ⟨mb, 0, none⟩), .agg #[.int .i64 op, .int .i64 (a : Int), .int .i64 (b : Int), .int .i64 (c : Int), .int .i64 imm]] w fun e w' => e = .returned (.int .i64 (((m.doI (mkI op a b c imm)).2 : Nat) : Int)) ∧ MAt w' mb base v (m.doI (mkI op a b c imm)).1 ∧ Mfr mb v w w' := by
  have hdd := hd
  have D0 : Hid (Below w.heap.size w (w.alloc (.cells #[.int .i64 op, .int .i64 (a : Int), .int .i64 (b : Int), .int .i64 (c : Int), .int .i64 imm] 71))) := (Below.refl _ _).alloc (Nat.le_refl _) _
  have hbl := bl_alloc w #[.int .i64 op, .int .i64 (a : Int), .int .i64 (b : Int), .int .i64 (c : Int), .int .i64 imm] 71
  have hz0 : Hid (w.heap.size < (w.alloc (.cells #[.int .i64 op, .int .i64 (a : Int), .int .i64 (b : Int), .int .i64 (c : Int), .int .i64 imm] 71)).heap.size) := by unfold Hid; simp
  have hsz : Hid ((w.alloc (.cells #[.int .i64 op, .int .i64 (a : Int), .int .i64 (b : Int), .int .i64 (c : Int), .int .i64 imm] 71)).heap.size = w.heap.size + 1) := by unfold Hid; simp
  obtain ⟨c0, c1, c2, c3, c4⟩ := bl_get hbl
  have HZ := hide hbl
  have HM := hide (h.below D0.out)
  have pc0 := HM.out.pc
  have HH := hide h
  have pl := h.ok.pc
  obtain ⟨nx, hnx⟩ : ∃ nx, (m.pc + 4) % 4294967296 = nx := ⟨_, rfl⟩
  have e4 : ((m.pc : Int) + 4) % 4294967296 = (nx : Int) := by omega
  have nl : nx < 4294967296 := by omega
  clear hbl h
  have d1 : decide (32 ≤ op) = false := decide_eq_false (by omega)
  have d3 : decide (35 ≤ op) = false := decide_eq_false (by omega)
  have d5 : decide (48 ≤ op) = false := decide_eq_false (by omega)
  have d6 : (op == 54) = false := by rw [beq_eq_false_iff_ne]; omega
  have d7 : (op == 55) = false := by rw [beq_eq_false_iff_ne]; omega
  have d8 : (op != 64) = true := by rw [bne_iff_ne]; omega
  have HL := hide (compute_any HM.out op a b c imm hb hc h1 h2 o1 o2 A (hdd.below D0.out))
  have HD : Hid (m.doI (mkI op a b c imm) = match m.cmp (mkI op a b c imm) with | some v => ((m.setR a v).setP nx, 0) | none => (m, 7)) := by
    unfold Hid Mc.doI
    rw [if_neg (by show ¬ (32 ≤ op ∧ op ≤ 34); omega), if_neg (by show ¬ (35 ≤ op ∧ op ≤ 37); omega), if_neg (by show ¬ (48 ≤ op ∧ op ≤ 53); omega), if_neg (by show ¬ op = 54; omega), if_neg (by show ¬ op = 55; omega), if_neg (by show ¬ op = 64; omega)]
    cases m.cmp (mkI op a b c imm) <;> simp [hnx]
  have HCL : Hid (∀ u, m.cmp (mkI op a b c imm) = some u → u < 4294967296) := fun u hu => cmp_lt HH.out.ok hu
  clear hnx o1 o2 hd hdd
  generalize m.cmp (mkI op a b c imm) = R at *
  go_enter Tryd.func25, Tryd.ntmps25
  go_wp2_with fail
  generalize w.alloc (.cells #[.int .i64 op, .int .i64 (a : Int), .int .i64 (b : Int), .int .i64 (c : Int), .int .i64 imm] 71) = W0 at *
  refine Calls.mono HL.out ?_
  rintro e w1 ⟨rfl, b1⟩
  have HM1 := hide (HM.out.below b1)
  obtain ⟨k0, k1, k2, k3, k4⟩ := bl_get (HZ.out.below hz0.out b1)
  have D1 := hide (chain D0.out b1)
  cases R with
  | some L =>
    have HR : m.doI (mkI op a b c imm) = ((m.setR a L).setP nx, 0) := HD.out
    have HR2 := hide HR
    have HS := hide (set_any HM1.out a L ha (HCL.out L rfl))
    clear HD HL HR b1
    go_wp2_with fail
    refine Calls.mono HS.out ?_
    rintro e w2 ⟨rfl, hm2, f2⟩
    have p0 := hm2.pc
    have p1 := hm2.bl.free 17
    have HM2 := hide (hm2.setPc nl)
    have HB2 := hide ((mat_frame (m1 := m) HH.out D1.out f2).setCell (j := 17) (.int .u32 (nx : Int)))
    clear hm2 f2
    go_wp2
    go_ret
    exact ⟨by rw [HR2.out]; rfl, by rw [HR2.out]; exact HM2.out, HB2.out⟩
  | none =>
    have HR : m.doI (mkI op a b c imm) = (m, 7) := HD.out
    have HR2 := hide HR
    have HB2 := hide (Mfr.ofBelow (mb := mb) (v := v) D1.out)
    clear HD HL HR b1
    go_wp2
    go_ret
    exact ⟨by rw [HR2.out]; rfl, by rw [HR2.out]; exact HM1.out, HB2.out⟩
end Go.Proofs.YteopkgjkbhcicaaDoor
