/-
  What a statement's operands are, and how registers and labels are read.
-/
import Derived.Test.YthcmeboepedelaaDoorIaItem
namespace Go.Proofs.YthcmeboepedelaaDoor
open Go.RowKit FerryCrc
set_option linter.unusedVariables false
set_option linter.unusedSimpArgs false
def stO (s : ByteArray) : ByteArray := if s = ⟨#[108, 105]⟩ then ⟨#[97, 119]⟩ else if s = ⟨#[108, 97]⟩ then ⟨#[97, 108]⟩ else if s = ⟨#[110, 111, 112]⟩ then ⟨#[]⟩ else if s = ⟨#[46, 119, 111, 114, 100]⟩ then ⟨#[119]⟩ else if s = ⟨#[46, 115, 112, 97, 99, 101]⟩ then ⟨#[115]⟩ else if 48 ≤ numN s ∧ numN s ≤ 53 then ⟨#[97, 98, 116]⟩ else if numN s = 54 then ⟨#[97, 116]⟩ else opsT (form (numN s : Int))
def stB (s : ByteArray) : Bool := if s = ⟨#[108, 105]⟩ then true else if s = ⟨#[108, 97]⟩ then true else if s = ⟨#[110, 111, 112]⟩ then true else if s = ⟨#[46, 119, 111, 114, 100]⟩ then true else if s = ⟨#[46, 115, 112, 97, 99, 101]⟩ then true else if 48 ≤ numN s ∧ numN s ≤ 53 then true else if numN s = 54 then true else decide (numN s ≠ 0)
theorem numN_lt (s : ByteArray) : numN s < 65 := by
  unfold numN
  split
  · decide
  · split
    · assumption
    · decide
theorem nil_lit {s t : ByteArray} {l : List UInt8} (ht : t.data.toList = l) (h : ¬ s = t) : (s.toList == l) = false := by
  have := str_neb h
  rw [ByteArray.toList_eq (bs := t), ht] at this
  exact this
set_option maxRecDepth 100000 in
set_option maxHeartbeats 4000000 in
theorem stm_any (s : ByteArray) (w : World) (ht : Iat w) : Calls Tryd.prog 67 #[.string s] w fun e w' => e = .returned (.tuple #[.string (stO s), .bool (stB s)]) ∧ w = w' := by
  have HT := hide ht
  have HN := hide (numN_lt s)
  have HU := hide (Number_any s w ht)
  have HF := hide (form_any (numN s : Int) w)
  have HB := hide (branches_any (numN s : Int) w)
  clear ht
  unfold stO stB
  by_cases h0 : s = ⟨#[108, 105]⟩
  · subst h0
    rw [if_pos rfl, if_pos rfl]
    go_enter Tryd.func67, Tryd.ntmps67
    go_wp2
    go_ret2
    exact ⟨rfl, rfl⟩
  rw [if_neg h0, if_neg h0]
  have e0 : (s.toList == [108, 105]) = false := nil_lit rfl h0
  by_cases h1 : s = ⟨#[108, 97]⟩
  · subst h1
    rw [if_pos rfl, if_pos rfl]
    go_enter Tryd.func67, Tryd.ntmps67
    go_wp2
    go_ret2
    exact ⟨rfl, rfl⟩
  rw [if_neg h1, if_neg h1]
  have e1 : (s.toList == [108, 97]) = false := nil_lit rfl h1
  by_cases h2 : s = ⟨#[110, 111, 112]⟩
  · subst h2
    rw [if_pos rfl, if_pos rfl]
    go_enter Tryd.func67, Tryd.ntmps67
    go_wp2
    go_ret2
    exact ⟨rfl, rfl⟩
  rw [if_neg h2, if_neg h2]
  have e2 : (s.toList == [110, 111, 112]) = false := nil_lit rfl h2
  by_cases h3 : s = ⟨#[46, 119, 111, 114, 100]⟩
  · subst h3
    rw [if_pos rfl, if_pos rfl]
    go_enter Tryd.func67, Tryd.ntmps67
    go_wp2
    go_ret2
    exact ⟨rfl, rfl⟩
  rw [if_neg h3, if_neg h3]
  have e3 : (s.toList == [46, 119, 111, 114, 100]) = false := nil_lit rfl h3
  by_cases h4 : s = ⟨#[46, 115, 112, 97, 99, 101]⟩
  · subst h4
    rw [if_pos rfl, if_pos rfl]
    go_enter Tryd.func67, Tryd.ntmps67
    go_wp2
    go_ret2
    exact ⟨rfl, rfl⟩
  rw [if_neg h4, if_neg h4]
  have e4 : (s.toList == [46, 115, 112, 97, 99, 101]) = false := nil_lit rfl h4
  clear h0 h1 h2 h3 h4
  generalize numN s = op at *
  by_cases b1 : 48 ≤ op ∧ op ≤ 53
  · rw [if_pos b1, if_pos b1]
    rw [decide_eq_true (by omega : (48 : Int) ≤ (op : Int) ∧ (op : Int) ≤ 53)] at HB
    clear b1
    go_enter Tryd.func67, Tryd.ntmps67
    go_wp2_with fail
    refine Calls.mono HU.out ?_
    rintro e w' ⟨rfl, rfl⟩
    go_wp2_with fail
    refine Calls.mono HB.out ?_
    rintro e w' ⟨rfl, rfl⟩
    go_wp2
    go_ret2
    exact ⟨rfl, rfl⟩
  rw [if_neg b1, if_neg b1]
  rw [decide_eq_false (by omega : ¬ ((48 : Int) ≤ (op : Int) ∧ (op : Int) ≤ 53))] at HB
  clear b1
  by_cases b2 : op = 54
  · subst b2
    rw [if_pos rfl, if_pos rfl]
    go_enter Tryd.func67, Tryd.ntmps67
    go_wp2_with fail
    refine Calls.mono HU.out ?_
    rintro e w' ⟨rfl, rfl⟩
    go_wp2_with fail
    refine Calls.mono HB.out ?_
    rintro e w' ⟨rfl, rfl⟩
    go_wp2
    go_ret2
    exact ⟨rfl, rfl⟩
  rw [if_neg b2, if_neg b2]
  have b3 : ((op : Int) == 54) = false := by simp; omega
  have hf7 := form_le (op : Int)
  obtain ⟨f, hf⟩ : ∃ f, form (op : Int) = f := ⟨_, rfl⟩
  rw [hf] at HF hf7 ⊢
  have y := HT.out.ops f (by omega)
  generalize opsT f = z at *
  have f0 : ¬ (f : Int) < 0 := by omega
  have f8 : (f : Int) < 8 := by omega
  have D0 : Hid ((decide (op ≠ 0)) = !((op : Int) == 0)) := by
    unfold Hid
    by_cases h : op = 0
    · subst h; rfl
    · have : ((op : Int) == 0) = false := by simp; omega
      rw [this]; simp [h]
  clear hf b2
  go_enter Tryd.func67, Tryd.ntmps67
  go_wp2_with fail
  refine Calls.mono HU.out ?_
  rintro e w' ⟨rfl, rfl⟩
  go_wp2_with fail
  refine Calls.mono HB.out ?_
  rintro e w' ⟨rfl, rfl⟩
  go_wp2_with fail
  refine Calls.mono HF.out ?_
  rintro e w' ⟨rfl, rfl⟩
  go_wp2
  go_ret2
  exact ⟨by rw [D0.out]; rfl, rfl⟩
theorem td4 {x : Int} (h1 : -4000000 ≤ x) (h2 : x ≤ 4000000) : -4000000 ≤ x.tdiv 4 ∧ x.tdiv 4 ≤ 4000000 := by
  rcases Int.le_total 0 x with h | h
  · rw [Int.tdiv_eq_ediv_of_nonneg h]
    omega
  · obtain ⟨y, rfl⟩ : ∃ y, x = -y := ⟨-x, by omega⟩
    rw [Int.neg_tdiv, Int.tdiv_eq_ediv_of_nonneg (by omega)]
    omega
set_option maxRecDepth 100000 in
theorem setReg1_any (s : ByteArray) (b : Nat) (w : World) (ht : Iat w) (hr : regN s < 16) (hc : ∃ u, w.cell? ⟨b, 1, none⟩ = some u) (hf : w.frozen? ⟨b, 1, none⟩ = false) : Calls Tryd.prog 40 #[.pointer (some ⟨b, 0, none⟩), .int .u8 97, .string s] w fun e w' => e = .returned (.bool true) ∧ w' = w.setCell ⟨b, 1, none⟩ (.int .i64 (regN s : Int)) := by
  obtain ⟨u, hu⟩ := hc
  have HR := hide (register_any s w ht)
  rw [if_pos hr, decide_eq_true hr] at HR
  generalize regN s = r at *
  clear ht
  go_enter Tryd.func40, Tryd.ntmps40
  go_wp2_with fail
  refine Calls.mono HR.out ?_
  rintro e w' ⟨rfl, rfl⟩
  go_wp2
  go_ret
  exact ⟨rfl, rfl⟩
set_option maxRecDepth 100000 in
theorem setReg2_any (s : ByteArray) (b : Nat) (w : World) (ht : Iat w) (hr : regN s < 16) (hc : ∃ u, w.cell? ⟨b, 2, none⟩ = some u) (hf : w.frozen? ⟨b, 2, none⟩ = false) : Calls Tryd.prog 40 #[.pointer (some ⟨b, 0, none⟩), .int .u8 98, .string s] w fun e w' => e = .returned (.bool true) ∧ w' = w.setCell ⟨b, 2, none⟩ (.int .i64 (regN s : Int)) := by
  obtain ⟨u, hu⟩ := hc
  have HR := hide (register_any s w ht)
  rw [if_pos hr, decide_eq_true hr] at HR
  generalize regN s = r at *
  clear ht
  go_enter Tryd.func40, Tryd.ntmps40
  go_wp2_with fail
  refine Calls.mono HR.out ?_
  rintro e w' ⟨rfl, rfl⟩
  go_wp2
  go_ret
  exact ⟨rfl, rfl⟩
set_option maxRecDepth 100000 in
theorem setReg3_any (s : ByteArray) (b : Nat) (w : World) (ht : Iat w) (hr : regN s < 16) (hc : ∃ u, w.cell? ⟨b, 3, none⟩ = some u) (hf : w.frozen? ⟨b, 3, none⟩ = false) : Calls Tryd.prog 40 #[.pointer (some ⟨b, 0, none⟩), .int .u8 99, .string s] w fun e w' => e = .returned (.bool true) ∧ w' = w.setCell ⟨b, 3, none⟩ (.int .i64 (regN s : Int)) := by
  obtain ⟨u, hu⟩ := hc
  have HR := hide (register_any s w ht)
  rw [if_pos hr, decide_eq_true hr] at HR
  generalize regN s = r at *
  clear ht
  go_enter Tryd.func40, Tryd.ntmps40
  go_wp2_with fail
  refine Calls.mono HR.out ?_
  rintro e w' ⟨rfl, rfl⟩
  go_wp2
  go_ret
  exact ⟨rfl, rfl⟩
set_option maxRecDepth 100000 in
theorem labelImm_any (op ad be : Int) (w : World) (h1 : 0 ≤ ad ∧ ad ≤ 4000000) (h2 : 0 ≤ be ∧ be ≤ 4000000) : Calls Tryd.prog 48 #[.int .i64 op, .int .i64 ad, .int .i64 be] w fun e w' => e = .returned (.int .i64 (if op = 16 then ad else (ad - be).tdiv 4)) ∧ w = w' := by
  have hw : IntKind.i64.wrap (ad - be) = ad - be := by rw [IntKind.wrap_i64]; omega
  go_enter Tryd.func48, Tryd.ntmps48
  by_cases h : op = 16
  · subst h
    rw [if_pos rfl]
    go_wp2
    go_ret
    exact ⟨rfl, rfl⟩
  · rw [if_neg h]
    have hb : (op == 16) = false := by simp; exact h
    have ht := td4 (x := ad - be) (by omega) (by omega)
    have hw2 : IntKind.i64.wrap ((ad - be).tdiv 4) = (ad - be).tdiv 4 := by rw [IntKind.wrap_i64]; omega
    go_wp2
    go_ret
    exact ⟨rfl, rfl⟩
def It.ins (x : It) : Ins := ⟨x.op, x.a, x.b, x.c, x.imm⟩
set_option maxRecDepth 100000 in
set_option maxHeartbeats 4000000 in
theorem word_any (x : It) (w : World) (hv : Isv w) (ho : x.op ≠ 0) : Calls Tryd.prog 49 #[.agg (itC x).toArray] w fun e w' => e = .returned (.int .u32 (if okI x.ins then encv x.ins else 0)) ∧ Below w.heap.size w w' := by
  obtain ⟨op, a, b, c, imm, plain, label, line⟩ := x
  unfold itC It.ins at *
  dsimp only at *
  obtain ⟨W, hW, B0, D0⟩ := box1 w [.int .i64 op, .int .i64 a, .int .i64 b, .int .i64 c, .int .i64 imm, .int .u32 plain, .string label, .int .i64 line] 77
  have HE := hide (encode_any ⟨op, a, b, c, imm⟩ W (hv.below D0))
  unfold Ins.cells at HE
  dsimp only at HE
  generalize (if okI ⟨op, a, b, c, imm⟩ = true then encv ⟨op, a, b, c, imm⟩ else 0) = v at *
  obtain ⟨q, hq⟩ : ∃ q, w.heap.size = q := ⟨_, rfl⟩
  rw [hq] at B0
  have x0 := B0.cell 0 rfl
  have x1 := B0.cell 1 rfl
  have x2 := B0.cell 2 rfl
  have x3 := B0.cell 3 rfl
  have x4 := B0.cell 4 rfl
  have hb : (op == 0) = false := by simp; exact ho
  have HD := hide D0
  clear hv ho B0 D0
  go_enter Tryd.func49, Tryd.ntmps49
  go_upto_region 1 with fail
  try simp only [hW, hq]
  clear hW hq
  go_wp2_with fail
  refine Calls.mono HE.out ?_
  rintro e w' ⟨⟨u, rfl, -⟩, b'⟩
  go_wp2
  go_ret
  exact ⟨rfl, chain HD.out b'⟩
end Go.Proofs.YthcmeboepedelaaDoor
