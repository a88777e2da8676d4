/-
  The program's Encode of an instruction.
-/
import Derived.Test.YthcmeboepedelaaDoorIsDecode
namespace Go.Proofs.YthcmeboepedelaaDoor
open Go.RowKit FerryCrc
set_option linter.unusedVariables false
set_option linter.unusedSimpArgs false

/-- The word of an instruction. -/
def encv (i : Ins) : Int := i.op * 16777216 + i.a * 1048576 + i.b * 65536 + i.c * 4096 + (if i.imm < 0 then i.imm + 65536 else i.imm)
theorem ok_range {i : Ins} (h : okI i = true) : (1 ≤ i.op ∧ i.op ≤ 64) ∧ (0 ≤ i.a ∧ i.a ≤ 15) ∧ (0 ≤ i.b ∧ i.b ≤ 15) ∧ (0 ≤ i.c ∧ i.c ≤ 15) ∧ (-32768 ≤ i.imm ∧ i.imm ≤ 65535) ∧ (0 < i.c → 0 ≤ i.imm ∧ i.imm ≤ 0) := by
  unfold okI bA bB bC bI at h
  simp only [Bool.and_eq_true, decide_eq_true_eq, ne_eq] at h
  obtain ⟨h0, ⟨a0, a1⟩, ⟨b0, b1⟩, ⟨c0, c1⟩, i0, i1⟩ := h
  have h64 : 1 ≤ i.op ∧ i.op ≤ 64 := by
    unfold form at h0
    repeat' split at h0
    all_goals omega
  have f7 := form_le i.op
  generalize form i.op = f at *
  rcases (by omega : f = 1 ∨ f = 2 ∨ f = 3 ∨ f = 4 ∨ f = 5 ∨ f = 6 ∨ f = 7) with rfl | rfl | rfl | rfl | rfl | rfl | rfl
  all_goals
    simp [hiA, hiB, hiC, loI, hiI] at *
    omega
theorem encv_range {i : Ins} (h : okI i = true) : 0 ≤ encv i ∧ encv i < 4294967296 := by
  obtain ⟨h0, h1, h2, h3, h4, h5⟩ := ok_range h
  unfold encv
  split <;> omega
theorem or_low {x c k : Nat} (hk : k ≤ 32) (hx : 2 ^ k * x < 4294967296) (hc : c < 2 ^ k) (hc2 : c < 4294967296) : bits .or .u32 ((2 ^ k * x : Nat) : Int) (c : Int) = ((2 ^ k * x + c : Nat) : Int) := by
  rw [u32_or_nat (2 ^ k * x) c hx hc2, ← Nat.two_pow_add_eq_or_of_lt hc]
theorem or_all {o a b c n : Nat} (ho : o < 256) (ha : a < 16) (hb : b < 16) (hc : c < 16) (hn : n < 65536) (hcn : 0 < c → n = 0) :
    bits .or .u32 (bits .or .u32 (bits .or .u32 (bits .or .u32 ((o : Int) * 16777216) ((a : Int) * 1048576)) ((b : Int) * 65536)) ((c : Int) * 4096)) (n : Int) = ((o * 16777216 + a * 1048576 + b * 65536 + c * 4096 + n : Nat) : Int) := by
  have e1 := or_low (x := o) (c := a * 1048576) (k := 24) (by decide) (by omega) (by omega) (by omega)
  have e2 := or_low (x := o * 16 + a) (c := b * 65536) (k := 20) (by decide) (by omega) (by omega) (by omega)
  have e3 := or_low (x := o * 256 + a * 16 + b) (c := c * 4096) (k := 16) (by decide) (by omega) (by omega) (by omega)
  rw [show ((o : Int) * 16777216) = ((2 ^ 24 * o : Nat) : Int) by omega, show ((a : Int) * 1048576) = ((a * 1048576 : Nat) : Int) by omega, e1,
    show ((2 ^ 24 * o + a * 1048576 : Nat) : Int) = ((2 ^ 20 * (o * 16 + a) : Nat) : Int) by omega, show ((b : Int) * 65536) = ((b * 65536 : Nat) : Int) by omega, e2,
    show ((2 ^ 20 * (o * 16 + a) + b * 65536 : Nat) : Int) = ((2 ^ 16 * (o * 256 + a * 16 + b) : Nat) : Int) by omega, show ((c : Int) * 4096) = ((c * 4096 : Nat) : Int) by omega, e3]
  by_cases h : c = 0
  · subst h
    have e4 := or_low (x := o * 256 + a * 16 + b) (c := n) (k := 16) (by decide) (by omega) (by omega) (by omega)
    rw [show ((2 ^ 16 * (o * 256 + a * 16 + b) + 0 * 4096 : Nat) : Int) = ((2 ^ 16 * (o * 256 + a * 16 + b) : Nat) : Int) by omega, e4]
    omega
  · obtain rfl := hcn (by omega)
    have e4 := u32_or_nat (2 ^ 16 * (o * 256 + a * 16 + b) + c * 4096) 0 (by omega) (by decide)
    rw [Nat.or_zero] at e4
    rw [show ((0 : Nat) : Int) = (0 : Int) from rfl] at e4 ⊢
    rw [e4]
    omega
set_option maxRecDepth 100000 in
set_option maxHeartbeats 4000000 in
theorem encode_any (i : Ins) (w : World) (hv : Isv w) : Calls Tryd.prog 15 #[.agg i.cells] w fun e w' => (∃ v, e = .returned (.tuple #[.int .u32 (if okI i then encv i else 0), v]) ∧ (if okI i then v = .nilIface else ∃ A, v = .iface 164 (.pointer (some A)))) ∧ Below w.heap.size w w' := by
  have hbl := bl_alloc w i.cells 27
  have D0 : Hid (Below w.heap.size w (w.alloc (.cells i.cells 27))) := (Below.refl _ _).alloc (Nat.le_refl _) _
  have hs0 : (w.alloc (.cells i.cells 27)).heap.size = w.heap.size + 1 := by simp
  have HS0 := hide hs0
  clear hs0
  have H1 := hide (check_any i (w.alloc (.cells i.cells 27)) (hv.below D0.out))
  by_cases hk : okI i = true
  · simp only [hk, if_true] at H1 ⊢
    obtain ⟨h0, h1, h2, h3, h4, h5⟩ := ok_range hk
    obtain ⟨op, a, b, c, imm⟩ := i
    unfold Ins.cells at *
    simp only at *
    obtain ⟨op, rfl⟩ := Int.eq_ofNat_of_zero_le (by omega : 0 ≤ op)
    obtain ⟨a, rfl⟩ := Int.eq_ofNat_of_zero_le h1.1
    obtain ⟨b, rfl⟩ := Int.eq_ofNat_of_zero_le h2.1
    obtain ⟨c, rfl⟩ := Int.eq_ofNat_of_zero_le h3.1
    obtain ⟨n, hn⟩ : ∃ n : Nat, (if imm < 0 then imm + 65536 else imm) = (n : Int) := ⟨(if imm < 0 then imm + 65536 else imm).toNat, by split <;> omega⟩
    have hn2 : n < 65536 := by split at hn <;> omega
    have HV : Hid (encv ⟨(op : Int), (a : Int), (b : Int), (c : Int), imm⟩ = ((op * 16777216 + a * 1048576 + b * 65536 + c * 4096 + n : Nat) : Int)) := by unfold Hid encv; dsimp only; rw [hn]; omega
    have HO := hide (or_all (o := op) (a := a) (b := b) (c := c) (n := n) (by omega) (by omega) (by omega) (by omega) hn2 (fun h => by have := h5 (by omega); split at hn <;> omega))
    have w1 : IntKind.u32.wrap (op : Int) = (op : Int) := by rw [IntKind.wrap_u32]; omega
    have w2 : IntKind.u32.wrap (a : Int) = (a : Int) := by rw [IntKind.wrap_u32]; omega
    have w3 : IntKind.u32.wrap (b : Int) = (b : Int) := by rw [IntKind.wrap_u32]; omega
    have w4 : IntKind.u32.wrap (c : Int) = (c : Int) := by rw [IntKind.wrap_u32]; omega
    have w5 : IntKind.u16.wrap imm = (n : Int) := by rw [IntKind.wrap_u16]; split at hn <;> omega
    have w6 : imm % 65536 = (n : Int) := by split at hn <;> omega
    have HB := hide (And.intro h0 (And.intro h1 (And.intro h2 h3)))
    have b1 : (op : Int) < 256 := by omega
    have b2 : (a : Int) < 16 := by omega
    have b3 : (b : Int) < 16 := by omega
    have b4 : (c : Int) < 16 := by omega
    have b5 : (n : Int) < 65536 := by omega
    obtain ⟨v, hvv⟩ : ∃ v, encv ⟨(op : Int), (a : Int), (b : Int), (c : Int), imm⟩ = v := ⟨_, rfl⟩
    rw [hvv] at HV ⊢
    clear hvv hk hn h0 h1 h2 h3 h4 h5
    have HBL := hide hbl
    clear hbl
    go_enter Tryd.func15, Tryd.ntmps15
    go_wp2_with fail
    refine Calls.mono H1.out ?_
    rintro e w1 ⟨rfl, hb1⟩
    have hbl1 := HBL.out.below (by rw [HS0.out]; omega) hb1
    obtain ⟨p0, p1, p2, p3, p4⟩ := bl_get hbl1
    have D1 := hide (D0.out.trans (hb1.mono (by rw [HS0.out]; omega)))
    clear hbl1 hb1 HBL D0 HS0 H1
    go_wp2
    go_ret2
    refine ⟨⟨_, ?_, rfl⟩, D1.out⟩
    rw [HV.out, ← HO.out]
    rfl
  · have hk2 : okI i = false := Bool.eq_false_iff.2 hk
    simp only [hk2, Bool.false_eq_true, if_false] at H1 ⊢
    clear hk2
    obtain ⟨op, a, b, c, imm⟩ := i
    unfold Ins.cells at *
    simp only at *
    have HBL := hide hbl
    clear hbl hk
    go_enter Tryd.func15, Tryd.ntmps15
    go_wp2_with fail
    refine Calls.mono H1.out ?_
    rintro e w1 ⟨⟨A, rfl⟩, hb1⟩
    have D1 := hide (D0.out.trans (hb1.mono (by rw [HS0.out]; omega)))
    clear hb1 HBL D0 HS0 H1
    go_wp2
    go_ret2
    exact ⟨⟨_, rfl, _, rfl⟩, D1.out⟩
end Go.Proofs.YthcmeboepedelaaDoor
