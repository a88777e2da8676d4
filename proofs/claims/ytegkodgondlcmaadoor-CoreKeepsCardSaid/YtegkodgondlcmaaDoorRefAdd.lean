/-
  Contracts of the document's sums of rows: add, turned, AddCarry, SubBorrow.
-/
import Derived.Test.YtegkodgondlcmaaDoorRefRow
import Derived.Laws.ResultCell
namespace FerryAlu
/-- The carry into bit k, and the sum's bit k, of two rows and a carry. -/
def car (f g : Nat → Bool) (c : Bool) : Nat → Bool
  | 0 => c
  | k + 1 => (f k && g k) || (f k && car f g c k) || (g k && car f g c k)
def smf (f g : Nat → Bool) (c : Bool) (k : Nat) : Bool := (f k ^^ g k) ^^ car f g c k
theorem car_is (x y : Nat) (c : Bool) (k : Nat) : car x.testBit y.testBit c k = decide (2 ^ k ≤ x % 2 ^ k + y % 2 ^ k + c.toNat) := by
  induction k with
  | zero => cases c <;> simp [car, Nat.mod_one]
  | succ k ih =>
    rw [car, ih, Nat.testBit_eq_decide_div_mod_eq, Nat.testBit_eq_decide_div_mod_eq]
    have hx : x % 2 ^ (k + 1) = 2 ^ k * (x / 2 ^ k % 2) + x % 2 ^ k := by rw [Nat.pow_succ, Nat.mod_mul]; omega
    have hy : y % 2 ^ (k + 1) = 2 ^ k * (y / 2 ^ k % 2) + y % 2 ^ k := by rw [Nat.pow_succ, Nat.mod_mul]; omega
    have hx2 : x % 2 ^ k < 2 ^ k := Nat.mod_lt _ (Nat.two_pow_pos k)
    have hy2 : y % 2 ^ k < 2 ^ k := Nat.mod_lt _ (Nat.two_pow_pos k)
    have hc : c.toNat ≤ 1 := by cases c <;> decide
    rw [hx, hy, Nat.pow_succ]
    generalize x % 2 ^ k = a at *
    generalize y % 2 ^ k = b at *
    generalize 2 ^ k = p at *
    rcases Nat.mod_two_eq_zero_or_one (x / p) with h1 | h1 <;> rcases Nat.mod_two_eq_zero_or_one (y / p) with h2 | h2 <;> rw [h1, h2] <;> simp <;> omega
theorem smf_is (x y : Nat) (c : Bool) (k : Nat) : smf x.testBit y.testBit c k = (x + y + c.toNat).testBit k := by
  rw [smf, car_is, Nat.testBit_eq_decide_div_mod_eq, Nat.testBit_eq_decide_div_mod_eq, Nat.testBit_eq_decide_div_mod_eq]
  have hx : x = 2 ^ k * (x / 2 ^ k) + x % 2 ^ k := (Nat.div_add_mod x (2 ^ k)).symm
  have hy : y = 2 ^ k * (y / 2 ^ k) + y % 2 ^ k := (Nat.div_add_mod y (2 ^ k)).symm
  have hx2 : x % 2 ^ k < 2 ^ k := Nat.mod_lt _ (Nat.two_pow_pos k)
  have hy2 : y % 2 ^ k < 2 ^ k := Nat.mod_lt _ (Nat.two_pow_pos k)
  have hc : c.toNat ≤ 1 := by cases c <;> decide
  have e : (x + y + c.toNat) / 2 ^ k = x / 2 ^ k + y / 2 ^ k + (x % 2 ^ k + y % 2 ^ k + c.toNat) / 2 ^ k := by
    conv => lhs; rw [hx, hy]
    rw [show 2 ^ k * (x / 2 ^ k) + x % 2 ^ k + (2 ^ k * (y / 2 ^ k) + y % 2 ^ k) + c.toNat = 2 ^ k * (x / 2 ^ k + y / 2 ^ k) + (x % 2 ^ k + y % 2 ^ k + c.toNat) by rw [Nat.mul_add]; omega, Nat.mul_add_div (Nat.two_pow_pos k)]
  rw [e]
  have hp : 0 < 2 ^ k := Nat.two_pow_pos k
  generalize x % 2 ^ k = a at *
  generalize y % 2 ^ k = b at *
  generalize x / 2 ^ k = u at *
  generalize y / 2 ^ k = v at *
  clear hx hy e
  by_cases h : 2 ^ k ≤ a + b + c.toNat
  · rw [show (a + b + c.toNat) / 2 ^ k = 1 from Nat.div_eq_of_lt_le (by omega) (by omega)]
    rcases Nat.mod_two_eq_zero_or_one u with h1 | h1 <;> rcases Nat.mod_two_eq_zero_or_one v with h2 | h2 <;> simp [h, h1, h2] <;> omega
  · rw [Nat.div_eq_of_lt (by omega)]
    rcases Nat.mod_two_eq_zero_or_one u with h1 | h1 <;> rcases Nat.mod_two_eq_zero_or_one v with h2 | h2 <;> simp [h, h1, h2] <;> omega
theorem smf_num (x y : Nat) (c : Bool) : nm (smf x.testBit y.testBit c) 32 = (x + y + c.toNat) % 4294967296 := by
  refine nm_eq (Nat.mod_lt _ (by decide)) (fun i hi => ?_)
  rw [smf_is, show (4294967296 : Nat) = 2 ^ 32 by decide, Nat.testBit_mod_two_pow]
  simp [hi]
theorem car_num {x y : Nat} (hx : x < 4294967296) (hy : y < 4294967296) (c : Bool) : car x.testBit y.testBit c 32 = decide (4294967296 ≤ x + y + c.toNat) := by
  rw [car_is, show (2 : Nat) ^ 32 = 4294967296 by decide, Nat.mod_eq_of_lt hx, Nat.mod_eq_of_lt hy]
end FerryAlu
namespace Go.Proofs.YtegkodgondlcmaaDoor
open Go.RowKit FerryAlu
set_option linter.unusedVariables false

theorem results_row_tmp {P : Program} {fn : Func} {p u : Tmp} {ty : TypeId} (h : fn.results = #[.cell p ty, .tmp u]) (tmps : Array Value) (w : World) (g : Nat) (t : TypeId) (cs : Array Value) (fr : Nat × Nat) (d : TypeDesc)
    (hp : tmps.getD p undef = .pointer (some ⟨g, 0, none⟩)) (hg : w.heap[g]? = some (.cells cs t fr))
    (hu : P.underlying ty = some d) (hd : (match d with | .struct _ | .array _ _ => true | _ => false) = true) (hi : (P.info? ty).map (·.size) = some cs.size) :
    (results fn tmps).run P w = .ok (.tuple #[.agg cs, tmps.getD u undef]) w := by
  rw [results_cell_tmp h, hp]
  have hl := run_loadVar_row w g t ty cs fr d hg hu hd hi
  simp only [asAddr, Sem.run_pure, Result.andThen, hl]

set_option maxRecDepth 100000 in
set_option maxHeartbeats 800000 in
theorem add_row (f g : Nat → Bool) (c : Bool) (w : World) :
    Calls Tryd.prog 73 #[.agg (Tb f 32), .agg (Tb g 32), .bool c] w fun e w' => e = .returned (.tuple #[.agg (Tb (smf f g c) 32), .bool (car f g c 32)]) ∧ Below w.heap.size w w' := by
  have hsf := Tb_size f 32
  have hsg := Tb_size g 32
  obtain ⟨T, hT⟩ : ∃ T, Tb f 32 = T := ⟨_, rfl⟩
  obtain ⟨U, hU⟩ : ∃ U, Tb g 32 = U := ⟨_, rfl⟩
  rw [hT] at hsf ⊢
  rw [hU] at hsg ⊢
  go_enter Tryd.func73, Tryd.ntmps73
  go_wp2
  have HZ := hide (zero4 (w := w) f g hT hU)
  clear hT hU
  generalize ((((w.alloc (.cells T 102)).alloc (.cells U 102)).alloc (.cells #[.bool false, .bool false, .bool false, .bool false, .bool false, .bool false, .bool false, .bool false, .bool false, .bool false, .bool false, .bool false, .bool false, .bool false, .bool false, .bool false, .bool false, .bool false, .bool false, .bool false, .bool false, .bool false, .bool false, .bool false, .bool false, .bool false, .bool false, .bool false, .bool false, .bool false, .bool false, .bool false] 102)).alloc (.cells #[.bool false, .bool false, .bool false, .bool false, .bool false, .bool false, .bool false, .bool false, .bool false, .bool false, .bool false, .bool false, .bool false, .bool false, .bool false, .bool false, .bool false, .bool false, .bool false, .bool false, .bool false, .bool false, .bool false, .bool false, .bool false, .bool false, .bool false, .bool false, .bool false, .bool false, .bool false, .bool false] 102)) = W at *
  have hwB : w.heap.size ≤ w.heap.size := Nat.le_refl _
  generalize hBB : w.heap.size = B at HZ hwB ⊢
  go_loopw [2, 9] (fun cr i wr => ∃ k : Nat, k ≤ 32 ∧ cr = .bool (car f g c k) ∧ i = .int .i64 (k : Int) ∧ Rw wr B f ∧ Rw wr (B + 1) g ∧ Rw wr (B + 1 + 1) (fun _ => false) ∧ Rw wr (B + 1 + 1 + 1) (fun i => if i < k then smf f g c i else false) ∧ Below B w wr) (fun _ i _ => 32 - (intOf i).toNat)
  case atStart => exact ⟨0, by omega, rfl, rfl, HZ.out.1, HZ.out.2.1, HZ.out.2.2.1, HZ.out.2.2.2.1.congr (fun i _ => by rw [if_neg (by omega)]), HZ.out.2.2.2.2⟩
  case round =>
    obtain ⟨k, hk, rfl, rfl, hF, hG, hO, hS, hW⟩ := hrel
    have HF := hide hF
    have HG := hide hG
    have HO := hide hO
    have HS := hide hS
    have HW := hide hW
    clear hF hG hO hS hW
    by_cases hlt : k < 32
    · have c1 := HF.out.cell k hlt
      have c2 := HG.out.cell k hlt
      have c3 := HS.out.cell k hlt
      have f3 := HS.out.frozen k
      rw [if_neg (by omega)] at c3
      have HN : Hid (∀ wr : World, Rw wr (B + 1 + 1 + 1) (fun i => if i < k then smf f g c i else false) → Rw (wr.setCell ⟨B + 1 + 1 + 1, k, none⟩ (.bool (smf f g c k))) (B + 1 + 1 + 1) (fun i => if i < k + 1 then smf f g c i else false)) := fun wr h => (h.set k (smf f g c k) hlt).congr (fun i _ => by
        by_cases h : i = k
        · subst h; rw [if_pos rfl, if_pos (by omega)]
        · rw [if_neg h]
          by_cases h3 : i < k
          · rw [if_pos h3, if_pos (by omega)]
          · rw [if_neg h3, if_neg (by omega)])
      have HC : Hid (car f g c (k + 1) = ((f k && g k) || (f k && car f g c k) || (g k && car f g c k))) := rfl
      have e1 : smf f g c k = ((f k ^^ g k) ^^ car f g c k) := rfl
      rw [e1] at HN
      clear e1
      generalize f k = a at *
      generalize g k = b at *
      generalize car f g c k = cc at *
      cases a <;> cases b <;> cases cc
      all_goals (
        simp only [Bool.xor_false, Bool.xor_true, Bool.not_false, Bool.not_true, Bool.and_false, Bool.and_true, Bool.or_false, Bool.or_true] at HN HC
        go_wp2
        go_roundw
        case rel => exact ⟨k + 1, by omega, by rw [HC.out], by go_num, HF.out.other _ _ (by simp; omega), HG.out.other _ _ (by simp), HO.out.other _ _ (by simp), HN.out _ HS.out, HW.out.setCell (by show B ≤ B + 1 + 1 + 1; omega) _⟩
        case measure => simp [intOf]; omega)
    · obtain rfl : k = 32 := by omega
      have hS2 : Rw wr (B + 1 + 1 + 1) (smf f g c) := HS.out.congr (fun i hi => by rw [if_pos hi])
      have hT3 := Tb_size (smf f g c) 32
      have hA3 := Tb_all (smf f g c) 32
      have hI3 := size62 (smf f g c)
      have hO2 := HO.out
      have hZs := Tb_size (fun _ => false) 32
      unfold Rw at hS2 hO2
      obtain ⟨T3, hT3e⟩ : ∃ T3, Tb (smf f g c) 32 = T3 := ⟨_, rfl⟩
      rw [hT3e] at hS2 hT3 hA3 hI3
      generalize Tb (fun _ => false) 32 = Z3 at hO2 hZs
      have H1 := hide hS2
      have H2 := hide hO2
      have H3 := hide hT3
      have H4 := hide hA3
      have H5 := hide hI3
      have H6 := hide (hZs.trans hT3.symm)
      clear hS2 hO2 hT3 hA3 hI3 hZs HS HO
      go_wp2_with (first | refine wpList_load_row rfl 102 _ rfl (B + 1 + 1 + 1) rfl 102 T3 (0, 0) _ H1.out Tryd.underlying102 rfl H5.out ?_ | refine wpList_store_row rfl 102 _ _ rfl (B + 1 + 1) T3 rfl rfl 102 Z3 H2.out H5.out H6.out H4.out ?_)
      refine bodyPost_ret (results_row_tmp rfl _ _ (B + 1 + 1) 102 T3 (0, 0) _ rfl (setRow_heap _ _ _ _ _ _ H2.out) Tryd.underlying102 rfl H5.out) rfl ?_
      refine ⟨by first | rfl | (rw [hT3e]; rfl), ?_⟩
      exact below_setRow (by omega) _ HW.out

set_option maxRecDepth 100000 in
set_option maxHeartbeats 400000 in
theorem turned_row (f : Nat → Bool) (w : World) :
    Calls Tryd.prog 74 #[.agg (Tb f 32)] w fun e w' => e = .returned (.agg (Tb (fun i => !f i) 32)) ∧ Below w.heap.size w w' := by
  have hsf := Tb_size f 32
  obtain ⟨T, hT⟩ : ∃ T, Tb f 32 = T := ⟨_, rfl⟩
  rw [hT] at hsf ⊢
  go_enter Tryd.func74, Tryd.ntmps74
  go_wp2
  have HZ := hide (zero3 (w := w) f hT)
  clear hT
  generalize (((w.alloc (.cells T 102)).alloc (.cells #[.bool false, .bool false, .bool false, .bool false, .bool false, .bool false, .bool false, .bool false, .bool false, .bool false, .bool false, .bool false, .bool false, .bool false, .bool false, .bool false, .bool false, .bool false, .bool false, .bool false, .bool false, .bool false, .bool false, .bool false, .bool false, .bool false, .bool false, .bool false, .bool false, .bool false, .bool false, .bool false] 102)).alloc (.cells #[.bool false, .bool false, .bool false, .bool false, .bool false, .bool false, .bool false, .bool false, .bool false, .bool false, .bool false, .bool false, .bool false, .bool false, .bool false, .bool false, .bool false, .bool false, .bool false, .bool false, .bool false, .bool false, .bool false, .bool false, .bool false, .bool false, .bool false, .bool false, .bool false, .bool false, .bool false, .bool false] 102)) = W at *
  generalize hBB : w.heap.size = B at HZ ⊢
  go_loopw [4] (fun i wr => ∃ k : Nat, k ≤ 32 ∧ i = .int .i64 (k : Int) ∧ Rw wr B f ∧ Rw wr (B + 1) (fun _ => false) ∧ Rw wr (B + 1 + 1) (fun i => if i < k then !f i else false) ∧ Below B w wr) (fun i _ => 32 - (intOf i).toNat)
  case atStart => exact ⟨0, by omega, rfl, HZ.out.1, HZ.out.2.1, HZ.out.2.2.1.congr (fun i _ => by rw [if_neg (by omega)]), HZ.out.2.2.2⟩
  case round =>
    obtain ⟨k, hk, rfl, hF, hO, hS, hW⟩ := hrel
    have HF := hide hF
    have HO := hide hO
    have HS := hide hS
    have HW := hide hW
    clear hF hO hS hW
    by_cases hlt : k < 32
    · have c1 := HF.out.cell k hlt
      have c3 := HS.out.cell k hlt
      have f3 := HS.out.frozen k
      rw [if_neg (by omega)] at c3
      have HN : Hid (∀ wr : World, Rw wr (B + 1 + 1) (fun i => if i < k then !f i else false) → Rw (wr.setCell ⟨B + 1 + 1, k, none⟩ (.bool (!f k))) (B + 1 + 1) (fun i => if i < k + 1 then !f i else false)) := fun wr h => (h.set k (!f k) hlt).congr (fun i _ => by
        by_cases h : i = k
        · subst h; rw [if_pos rfl, if_pos (by omega)]
        · rw [if_neg h]
          by_cases h3 : i < k
          · rw [if_pos h3, if_pos (by omega)]
          · rw [if_neg h3, if_neg (by omega)])
      generalize f k = a at *
      go_wp2
      go_roundw
      case rel => exact ⟨k + 1, by omega, by go_num, HF.out.other _ _ (by simp; omega), HO.out.other _ _ (by simp), HN.out _ HS.out, HW.out.setCell (by show B ≤ B + 1 + 1; omega) _⟩
      case measure => simp [intOf]; omega
    · obtain rfl : k = 32 := by omega
      have hS2 : Rw wr (B + 1 + 1) (fun i => !f i) := HS.out.congr (fun i hi => by rw [if_pos hi])
      obtain ⟨T3, hT3e, s3, a3, i3, g3⟩ := row_facts hS2
      obtain ⟨Z3, _, z3, _, _, y3⟩ := row_facts HO.out
      have H1 := hide g3
      have H2 := hide y3
      have H4 := hide a3
      have H5 := hide i3
      have H6 := hide (z3.trans s3.symm)
      clear g3 y3 a3 i3 z3 s3 hS2 HS HO
      go_wp2_with (first | refine wpList_load_row rfl 102 _ rfl (B + 1 + 1) rfl 102 T3 (0, 0) _ H1.out Tryd.underlying102 rfl H5.out ?_ | refine wpList_store_row rfl 102 _ _ rfl (B + 1) T3 rfl rfl 102 Z3 H2.out H5.out H6.out H4.out ?_)
      refine bodyPost_ret (results_cell_row rfl _ _ (B + 1) 102 T3 (0, 0) _ rfl (setRow_heap _ _ _ _ _ _ H2.out) Tryd.underlying102 rfl H5.out) rfl ?_
      exact ⟨by first | rfl | (rw [hT3e]), below_setRow (by omega) _ HW.out⟩

set_option maxRecDepth 100000 in
set_option maxHeartbeats 400000 in
theorem refAdd_any (b c : Nat) (k : Bool) (w : World) (hb : b < 4294967296) (hc : c < 4294967296) :
    Calls Tryd.prog 53 #[.int .u32 (b : Int), .int .u32 (c : Int), .bool k] w fun e w' => e = .returned (.tuple #[.int .u32 ((b + c + k.toNat) % 4294967296 : Nat), .bool (decide (4294967296 ≤ b + c + k.toNat))]) ∧ Below w.heap.size w w' := by
  have HR := hide (fun w => row_any b w hb)
  have HS := hide (fun w => row_any c w hc)
  have HA := hide (fun w => add_row b.testBit c.testBit k w)
  have HN := hide (fun w => rnumber_any (smf b.testBit c.testBit k) w)
  rw [car_num hb hc] at HA
  rw [smf_num] at HN
  have hs := Tb_size (smf b.testBit c.testBit k) 32
  have ha := Tb_all (smf b.testBit c.testBit k) 32
  have hi := size62 (smf b.testBit c.testBit k)
  generalize Tb b.testBit 32 = T1 at *
  generalize Tb c.testBit 32 = T2 at *
  generalize Tb (smf b.testBit c.testBit k) 32 = T3 at *
  generalize (b + c + k.toNat) % 4294967296 = r at *
  generalize decide (4294967296 ≤ b + c + k.toNat) = q at *
  have H3 := hide hs
  have H4 := hide ha
  have H5 := hide hi
  clear hs ha hi
  go_enter Tryd.func53, Tryd.ntmps53
  go_wp2_with fail
  refine Calls.mono (HR.out _) ?_
  rintro e w1 ⟨rfl, b1⟩
  have B1 := hide b1
  clear b1
  go_wp2_with fail
  refine Calls.mono (HS.out _) ?_
  rintro e w2 ⟨rfl, b2⟩
  have B2 := hide (chain B1.out b2)
  clear b2
  go_wp2_with fail
  refine Calls.mono (HA.out _) ?_
  rintro e w3 ⟨rfl, b3⟩
  have B3 := hide (chain B2.out b3)
  clear b3
  go_wp2_with (first | refine wpList_store_row rfl 102 _ _ rfl w3.heap.size T3 rfl rfl 102 _ (zero_heap w3) H5.out (zero_size H3.out) H4.out ?_ | refine wpList_load_row rfl 102 _ rfl w3.heap.size rfl 102 T3 (0, 0) _ (setRow_heap _ _ _ _ _ _ (zero_heap w3)) Tryd.underlying102 rfl H5.out ?_)
  have B4 : Hid (Below w.heap.size w ((w3.alloc (.cells #[.bool false, .bool false, .bool false, .bool false, .bool false, .bool false, .bool false, .bool false, .bool false, .bool false, .bool false, .bool false, .bool false, .bool false, .bool false, .bool false, .bool false, .bool false, .bool false, .bool false, .bool false, .bool false, .bool false, .bool false, .bool false, .bool false, .bool false, .bool false, .bool false, .bool false, .bool false, .bool false] 102)).setRow w3.heap.size T3)) := below_setRow B3.out.size _ (B3.out.alloc B3.out.size _)
  generalize (w3.alloc (.cells #[.bool false, .bool false, .bool false, .bool false, .bool false, .bool false, .bool false, .bool false, .bool false, .bool false, .bool false, .bool false, .bool false, .bool false, .bool false, .bool false, .bool false, .bool false, .bool false, .bool false, .bool false, .bool false, .bool false, .bool false, .bool false, .bool false, .bool false, .bool false, .bool false, .bool false, .bool false, .bool false] 102)).setRow w3.heap.size T3 = W4 at *
  refine Calls.mono (HN.out _) ?_
  rintro e w5 ⟨rfl, b5⟩
  have B5 := hide (chain B4.out b5)
  clear b5
  go_wp2
  go_ret2
  exact ⟨rfl, B5.out⟩

theorem not_bits (c : Nat) (hc : c < 4294967296) (i : Nat) (hi : i < 32) : (!c.testBit i) = (4294967295 - c).testBit i := by
  rw [show 4294967295 - c = 2 ^ 32 - (c + 1) by omega, Nat.testBit_two_pow_sub_succ (n := 32) hc]
  simp [hi]

set_option maxRecDepth 100000 in
set_option maxHeartbeats 400000 in
theorem refSub_any (b c : Nat) (k : Bool) (w : World) (hb : b < 4294967296) (hc : c < 4294967296) :
    Calls Tryd.prog 54 #[.int .u32 (b : Int), .int .u32 (c : Int), .bool k] w fun e w' => e = .returned (.tuple #[.int .u32 ((b + 8589934592 - c - k.toNat) % 4294967296 : Nat), .bool (decide (b < c + k.toNat))]) ∧ Below w.heap.size w w' := by
  have eT : Tb (fun i => !c.testBit i) 32 = Tb (4294967295 - c).testBit 32 := Tb_congr 32 (fun i hi => not_bits c hc i hi)
  have hcc : 4294967295 - c < 4294967296 := by omega
  have HR := hide (fun w => row_any b w hb)
  have HS := hide (fun w => row_any c w hc)
  have HU := hide (fun w => turned_row c.testBit w)
  rw [eT] at HU
  have HA := hide (fun w => add_row b.testBit (4294967295 - c).testBit (!k) w)
  have HN := hide (fun w => rnumber_any (smf b.testBit (4294967295 - c).testBit (!k)) w)
  rw [car_num hb hcc] at HA
  rw [smf_num] at HN
  have e1 : (b + (4294967295 - c) + (!k).toNat) % 4294967296 = (b + 8589934592 - c - k.toNat) % 4294967296 := by cases k <;> simp <;> omega
  have e2 : decide (4294967296 ≤ b + (4294967295 - c) + (!k).toNat) = !decide (b < c + k.toNat) := by
    rw [Bool.eq_iff_iff]
    cases k <;> simp <;> omega
  rw [e1] at HN
  rw [e2] at HA
  clear e1 e2 eT hcc
  have hs := Tb_size (smf b.testBit (4294967295 - c).testBit (!k)) 32
  have ha := Tb_all (smf b.testBit (4294967295 - c).testBit (!k)) 32
  have hi := size62 (smf b.testBit (4294967295 - c).testBit (!k))
  generalize Tb b.testBit 32 = T1 at *
  generalize Tb c.testBit 32 = T2 at *
  generalize Tb (4294967295 - c).testBit 32 = T2n at *
  generalize Tb (smf b.testBit (4294967295 - c).testBit (!k)) 32 = T3 at *
  generalize (b + 8589934592 - c - k.toNat) % 4294967296 = r at *
  generalize decide (b < c + k.toNat) = q at *
  have H3 := hide hs
  have H4 := hide ha
  have H5 := hide hi
  clear hs ha hi
  go_enter Tryd.func54, Tryd.ntmps54
  go_wp2_with fail
  refine Calls.mono (HR.out _) ?_
  rintro e w1 ⟨rfl, b1⟩
  have B1 := hide b1
  clear b1
  go_wp2_with fail
  refine Calls.mono (HS.out _) ?_
  rintro e w2 ⟨rfl, b2⟩
  have B2 := hide (chain B1.out b2)
  clear b2
  go_wp2_with fail
  refine Calls.mono (HU.out _) ?_
  rintro e w2u ⟨rfl, b2u⟩
  have B2u := hide (chain B2.out b2u)
  clear b2u
  go_wp2_with fail
  refine Calls.mono (HA.out _) ?_
  rintro e w3 ⟨rfl, b3⟩
  have B3 := hide (chain B2u.out b3)
  clear b3
  go_wp2_with (first | refine wpList_store_row rfl 102 _ _ rfl w3.heap.size T3 rfl rfl 102 _ (zero_heap w3) H5.out (zero_size H3.out) H4.out ?_ | refine wpList_load_row rfl 102 _ rfl w3.heap.size rfl 102 T3 (0, 0) _ (setRow_heap _ _ _ _ _ _ (zero_heap w3)) Tryd.underlying102 rfl H5.out ?_)
  have B4 : Hid (Below w.heap.size w ((w3.alloc (.cells #[.bool false, .bool false, .bool false, .bool false, .bool false, .bool false, .bool false, .bool false, .bool false, .bool false, .bool false, .bool false, .bool false, .bool false, .bool false, .bool false, .bool false, .bool false, .bool false, .bool false, .bool false, .bool false, .bool false, .bool false, .bool false, .bool false, .bool false, .bool false, .bool false, .bool false, .bool false, .bool false] 102)).setRow w3.heap.size T3)) := below_setRow B3.out.size _ (B3.out.alloc B3.out.size _)
  generalize (w3.alloc (.cells #[.bool false, .bool false, .bool false, .bool false, .bool false, .bool false, .bool false, .bool false, .bool false, .bool false, .bool false, .bool false, .bool false, .bool false, .bool false, .bool false, .bool false, .bool false, .bool false, .bool false, .bool false, .bool false, .bool false, .bool false, .bool false, .bool false, .bool false, .bool false, .bool false, .bool false, .bool false, .bool false] 102)).setRow w3.heap.size T3 = W4 at *
  refine Calls.mono (HN.out _) ?_
  rintro e w5 ⟨rfl, b5⟩
  have B5 := hide (chain B4.out b5)
  clear b5
  go_wp2
  go_ret2
  exact ⟨by cases q <;> rfl, B5.out⟩
end Go.Proofs.YtegkodgondlcmaaDoor
