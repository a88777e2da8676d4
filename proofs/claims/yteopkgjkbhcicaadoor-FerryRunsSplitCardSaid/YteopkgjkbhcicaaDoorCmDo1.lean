/-
  What an instruction does to the machine.
-/
import Derived.Test.YteopkgjkbhcicaaDoorCmComp2
namespace Go.Proofs.YteopkgjkbhcicaaDoor
open Go.RowKit FerryCrc FerryAlu
set_option linter.unusedVariables false
set_option linter.unusedSimpArgs false

theorem ldv_lt2 {m : Mc} (h : m.Ok) (n s k : Nat) (hs : Sized s) : ldv m.pages n s k < 4294967296 := ldv_lt h.ok n s k (by rcases hs with rfl | rfl | rfl <;> decide)
theorem alu_lt {op : Int} {b c v : Nat} (hb : b < 4294967296) (hc : c < 4294967296) (h : aluV op b c = some v) : v < 4294967296 := by
  have h2 : ∀ z, un z < 4294967296 := un_lt
  have h3 : b &&& c < 4294967296 := Nat.lt_of_le_of_lt Nat.and_le_left hb
  have h4 : b ||| c < 4294967296 := Nat.or_lt_two_pow (n := 32) hb hc
  have h5 : b ^^^ c < 4294967296 := Nat.xor_lt_two_pow (n := 32) hb hc
  have h6 : b / 2 ^ (c % 32) < 4294967296 := Nat.lt_of_le_of_lt (Nat.div_le_self _ _) hb
  have h7 : b / c < 4294967296 := Nat.lt_of_le_of_lt (Nat.div_le_self _ _) hb
  have h8 : b % c < 4294967296 := Nat.lt_of_le_of_lt (Nat.mod_le _ _) hb
  have h9 : ∀ t : Bool, t.toNat < 4294967296 := fun t => by cases t <;> decide
  unfold aluV at h
  by_cases q1 : op = 1
  · rw [if_pos q1] at h; obtain rfl := Option.some.inj h; exact Nat.mod_lt _ (by decide)
  rw [if_neg q1] at h
  by_cases q2 : op = 2
  · rw [if_pos q2] at h; obtain rfl := Option.some.inj h; exact Nat.mod_lt _ (by decide)
  rw [if_neg q2] at h
  by_cases q3 : op = 3
  · rw [if_pos q3] at h; obtain rfl := Option.some.inj h; exact h3
  rw [if_neg q3] at h
  by_cases q4 : op = 4
  · rw [if_pos q4] at h; obtain rfl := Option.some.inj h; exact h4
  rw [if_neg q4] at h
  by_cases q5 : op = 5
  · rw [if_pos q5] at h; obtain rfl := Option.some.inj h; exact h5
  rw [if_neg q5] at h
  by_cases q6 : op = 6
  · rw [if_pos q6] at h; obtain rfl := Option.some.inj h; exact Nat.mod_lt _ (by decide)
  rw [if_neg q6] at h
  by_cases q7 : op = 7
  · rw [if_pos q7] at h; obtain rfl := Option.some.inj h; exact h6
  rw [if_neg q7] at h
  by_cases q8 : op = 8
  · rw [if_pos q8] at h; obtain rfl := Option.some.inj h; exact h2 _
  rw [if_neg q8] at h
  by_cases q9 : op = 9
  · rw [if_pos q9] at h; obtain rfl := Option.some.inj h; exact Nat.mod_lt _ (by decide)
  rw [if_neg q9] at h
  by_cases q14 : op = 14
  · rw [if_pos q14] at h; obtain rfl := Option.some.inj h; exact h9 _
  rw [if_neg q14] at h
  by_cases q15 : op = 15
  · rw [if_pos q15] at h; obtain rfl := Option.some.inj h; exact h9 _
  rw [if_neg q15] at h
  by_cases q0 : c = 0
  · rw [if_pos q0] at h; cases h
  rw [if_neg q0] at h
  by_cases q10 : op = 10
  · rw [if_pos q10] at h; obtain rfl := Option.some.inj h; exact h7
  rw [if_neg q10] at h
  by_cases q11 : op = 11
  · rw [if_pos q11] at h; obtain rfl := Option.some.inj h; exact h2 _
  rw [if_neg q11] at h
  by_cases q12 : op = 12
  · rw [if_pos q12] at h; obtain rfl := Option.some.inj h; exact h8
  rw [if_neg q12] at h
  obtain rfl := Option.some.inj h
  exact h2 _
theorem cmp_lt {m : Mc} (h : m.Ok) {i : Ins} {v : Nat} (hv : m.cmp i = some v) : v < 4294967296 := by
  have h0 := reg_lt h i.b.toNat
  have h1 := reg_lt h i.c.toNat
  have h2 := un_lt i.imm
  unfold Mc.cmp at hv
  repeat' split at hv
  all_goals first
    | (obtain rfl := Option.some.inj hv; exact Nat.mod_lt _ (by decide))
    | exact alu_lt h0 h2 hv
    | exact alu_lt h0 h1 hv
theorem mat_frame {w W0 wx : World} {mb base : Nat} {v : Value} {m m1 : Mc} (hm : MAt w mb base v m) (d0 : Below w.heap.size w W0) (hw : Oth (some mb) W0 wx) : Mfr mb v w wx :=
  (Mfr.ofBelow d0).trans (Mfr.ofMb hw)

set_option maxRecDepth 100000 in
set_option maxHeartbeats 8000000 in
theorem do_load {w : World} {mb base : Nat} {v : Value} {m : Mc} (h : MAt w mb base v m) (op : Int) (a b c : Nat) (imm : Int) (ha : a < 16) (hb : b < 16) (hc : c < 16) (h1 : -9223372036854775808 ≤ imm) (h2 : imm ≤ 9223372036854775807) (o1 : 32 ≤ op) (o2 : op ≤ 34) :
    Calls Tryd.prog 25 #[.pointer (some ⟨mb, 0, none⟩), .agg #[.int .i64 op, .int .i64 (a : Int), .int .i64 (b : Int), .int .i64 (c : Int), .int .i64 imm]] w fun e w' => e = .returned (.int .i64 (((m.doI (mkI op a b c imm)).2 : Nat) : Int)) ∧ MAt w' mb base v (m.doI (mkI op a b c imm)).1 ∧ Mfr mb v w w' := by
  have D0 : Hid (Below w.heap.size w (w.alloc (.cells #[.int .i64 op, .int .i64 (a : Int), .int .i64 (b : Int), .int .i64 (c : Int), .int .i64 imm] 71))) := (Below.refl _ _).alloc (Nat.le_refl _) _
  have hbl := bl_alloc w #[.int .i64 op, .int .i64 (a : Int), .int .i64 (b : Int), .int .i64 (c : Int), .int .i64 imm] 71
  have hz0 : Hid (w.heap.size < (w.alloc (.cells #[.int .i64 op, .int .i64 (a : Int), .int .i64 (b : Int), .int .i64 (c : Int), .int .i64 imm] 71)).heap.size) := by unfold Hid; simp
  have hsz : Hid ((w.alloc (.cells #[.int .i64 op, .int .i64 (a : Int), .int .i64 (b : Int), .int .i64 (c : Int), .int .i64 imm] 71)).heap.size = w.heap.size + 1) := by unfold Hid; simp
  obtain ⟨c0, c1, c2, c3, c4⟩ := bl_get hbl
  have HZ := hide hbl
  have HM := hide (h.below D0.out)
  have pc0 := HM.out.pc
  have HH := hide h
  have pl := h.ok.pc
  obtain ⟨nx, hnx⟩ : ∃ nx, (m.pc + 4) % 4294967296 = nx := ⟨_, rfl⟩
  have e4 : ((m.pc : Int) + 4) % 4294967296 = (nx : Int) := by omega
  have nl : nx < 4294967296 := by omega
  clear hbl h
  have d1 : decide (32 ≤ op) = true := decide_eq_true o1
  have d2 : decide (op ≤ 34) = true := decide_eq_true o2
  have HD : Hid (m.doI (mkI op a b c imm) = if nfault m.pages (m.adr (mkI op a b c imm)) (szI op) 0 = 0 then ((m.setR a (ldv m.pages (m.adr (mkI op a b c imm)) (szI op) 0)).setP nx, 0) else (m, nfault m.pages (m.adr (mkI op a b c imm)) (szI op) 0)) := by
    unfold Hid Mc.doI
    rw [if_pos ⟨o1, o2⟩]
    simp only [Int.toNat_natCast, hnx]
  have HL := hide (mload_any HM.out op a b c imm hb h1 h2)
  have HLL := hide (ldv_lt2 HH.out.ok (m.adr (mkI op a b c imm)) (szI op) 0 (szI_sized op))
  clear hnx o1 o2
  generalize nfault m.pages (m.adr (mkI op a b c imm)) (szI op) 0 = F at *
  generalize ldv m.pages (m.adr (mkI op a b c imm)) (szI op) 0 = L at *
  go_enter Tryd.func25, Tryd.ntmps25
  go_wp2_with fail
  generalize w.alloc (.cells #[.int .i64 op, .int .i64 (a : Int), .int .i64 (b : Int), .int .i64 (c : Int), .int .i64 imm] 71) = W0 at *
  refine Calls.mono HL.out ?_
  rintro e w1 ⟨rfl, b1⟩
  have HM1 := hide (HM.out.below b1)
  obtain ⟨k0, k1, k2, k3, k4⟩ := bl_get (HZ.out.below hz0.out b1)
  have D1 := hide (chain D0.out b1)
  by_cases hF : F = 0
  · have HR := HD.out
    rw [if_pos hF] at HR
    have HR2 := hide HR
    subst hF
    have HS := hide (set_any HM1.out a L ha HLL.out)
    clear HD HL HR b1
    go_wp2_with fail
    refine Calls.mono HS.out ?_
    rintro e w2 ⟨rfl, hm2, f2⟩
    have p0 := hm2.pc
    have p1 := hm2.bl.free 17
    have HM2 := hide (hm2.setPc nl)
    have HB2 := hide ((mat_frame (m1 := m) HH.out D1.out f2).setCell (j := 17) (.int .u32 (nx : Int)))
    clear hm2 f2
    go_wp2
    go_ret
    exact ⟨by rw [HR2.out]; rfl, by rw [HR2.out]; exact HM2.out, HB2.out⟩
  · have HR := HD.out
    rw [if_neg hF] at HR
    have HR2 := hide HR
    have d3 : ((F : Int) != 0) = true := by rw [bne_iff_ne]; omega
    have HB2 := hide (Mfr.ofBelow (mb := mb) (v := v) D1.out)
    clear HD HL HR b1
    go_wp2
    go_ret
    exact ⟨by rw [HR2.out]; rfl, by rw [HR2.out]; exact HM1.out, HB2.out⟩

set_option maxRecDepth 100000 in
set_option maxHeartbeats 8000000 in
theorem do_store {w : World} {mb base : Nat} {v : Value} {m : Mc} (h : MAt w mb base v m) (op : Int) (a b c : Nat) (imm : Int) (ha : a < 16) (hb : b < 16) (hc : c < 16) (h1 : -9223372036854775808 ≤ imm) (h2 : imm ≤ 9223372036854775807) (o1 : 35 ≤ op) (o2 : op ≤ 37) :
    Calls Tryd.prog 25 #[.pointer (some ⟨mb, 0, none⟩), .agg #[.int .i64 op, .int .i64 (a : Int), .int .i64 (b : Int), .int .i64 (c : Int), .int .i64 imm]] w fun e w' => e = .returned (.int .i64 (((m.doI (mkI op a b c imm)).2 : Nat) : Int)) ∧ MAt w' mb base v (m.doI (mkI op a b c imm)).1 ∧ Mfr mb v w w' := by
  have D0 : Hid (Below w.heap.size w (w.alloc (.cells #[.int .i64 op, .int .i64 (a : Int), .int .i64 (b : Int), .int .i64 (c : Int), .int .i64 imm] 71))) := (Below.refl _ _).alloc (Nat.le_refl _) _
  have hbl := bl_alloc w #[.int .i64 op, .int .i64 (a : Int), .int .i64 (b : Int), .int .i64 (c : Int), .int .i64 imm] 71
  have hz0 : Hid (w.heap.size < (w.alloc (.cells #[.int .i64 op, .int .i64 (a : Int), .int .i64 (b : Int), .int .i64 (c : Int), .int .i64 imm] 71)).heap.size) := by unfold Hid; simp
  have hsz : Hid ((w.alloc (.cells #[.int .i64 op, .int .i64 (a : Int), .int .i64 (b : Int), .int .i64 (c : Int), .int .i64 imm] 71)).heap.size = w.heap.size + 1) := by unfold Hid; simp
  obtain ⟨c0, c1, c2, c3, c4⟩ := bl_get hbl
  have HZ := hide hbl
  have HM := hide (h.below D0.out)
  have pc0 := HM.out.pc
  have HH := hide h
  have pl := h.ok.pc
  obtain ⟨nx, hnx⟩ : ∃ nx, (m.pc + 4) % 4294967296 = nx := ⟨_, rfl⟩
  have e4 : ((m.pc : Int) + 4) % 4294967296 = (nx : Int) := by omega
  have nl : nx < 4294967296 := by omega
  clear hbl h
  have d1 : decide (32 ≤ op) = true := decide_eq_true (by omega)
  have d2 : decide (op ≤ 34) = false := decide_eq_false (by omega)
  have d3 : decide (35 ≤ op) = true := decide_eq_true o1
  have d4 : decide (op ≤ 37) = true := decide_eq_true o2
  have HD : Hid (m.doI (mkI op a b c imm) = if nfault m.pages (m.adr (mkI op a b c imm)) (szI op) 1 = 0 then (({ m with pages := pkv m.pages (m.adr (mkI op a b c imm)) (szI op) (m.reg a) } : Mc).setP nx, 0) else (m, nfault m.pages (m.adr (mkI op a b c imm)) (szI op) 1)) := by
    unfold Hid Mc.doI
    rw [if_neg (by show ¬ (32 ≤ op ∧ op ≤ 34); omega), if_pos ⟨o1, o2⟩]
    simp only [Int.toNat_natCast, hnx]
    rfl
  have HL := hide (mstore_any HM.out op a b c imm ha hb h1 h2)
  have HPK : Hid (nfault m.pages (m.adr (mkI op a b c imm)) (szI op) 1 ≠ 0 → pkv m.pages (m.adr (mkI op a b c imm)) (szI op) (m.reg a) = m.pages) := fun h => by unfold pkv; rw [if_neg h]
  clear hnx o1 o2
  generalize nfault m.pages (m.adr (mkI op a b c imm)) (szI op) 1 = F at *
  generalize pkv m.pages (m.adr (mkI op a b c imm)) (szI op) (m.reg a) = P at *
  go_enter Tryd.func25, Tryd.ntmps25
  go_wp2_with fail
  generalize w.alloc (.cells #[.int .i64 op, .int .i64 (a : Int), .int .i64 (b : Int), .int .i64 (c : Int), .int .i64 imm] 71) = W0 at *
  refine Calls.mono HL.out ?_
  rintro e w1 ⟨rfl, hm1, b1⟩
  have D1 := hide ((Mfr.ofBelow D0.out).trans b1)
  by_cases hF : F = 0
  · have HR := HD.out
    rw [if_pos hF] at HR
    have HR2 := hide HR
    subst hF
    have p0 : w1.cell? ⟨mb, 17, none⟩ = some (.int .u32 (m.pc : Int)) := hm1.pc
    have p1 := hm1.bl.free 17
    have HM2 := hide (hm1.setPc nl)
    have HB2 := hide (D1.out.setCell (j := 17) (.int .u32 (nx : Int)))
    clear HD HL HR b1 hm1
    go_wp2
    go_ret
    exact ⟨by rw [HR2.out]; rfl, by rw [HR2.out]; exact HM2.out, HB2.out⟩
  · have HR := HD.out
    rw [if_neg hF] at HR
    have HR2 := hide HR
    have d5 : ((F : Int) != 0) = true := by rw [bne_iff_ne]; omega
    rw [HPK.out hF] at hm1
    have HM1 := hide hm1
    clear HD HL HR b1 hm1
    go_wp2
    go_ret
    exact ⟨by rw [HR2.out]; rfl, by rw [HR2.out]; exact HM1.out, D1.out⟩
end Go.Proofs.YteopkgjkbhcicaaDoor
