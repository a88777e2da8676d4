/-
  Walk of the law AluLong.
-/
import Derived.Test.YtbdhlpbddddpeaaDoorPlus
import Derived.Deep.OwnRows
namespace Go.Proofs.YtbdhlpbddddpeaaDoor.aluLong
open Go.RowKit FerryAlu
set_option linter.unusedVariables false

theorem mul1 (w : World) : Calls Tryd.prog 21 #[.int .u32 65536, .int .u32 65536] w fun e w' => e = .returned (.tuple #[.int .u32 1, .int .u32 0]) ∧ w = w' := mulWide_any 65536 65536 w (by decide) (by decide)

/-- The carry into word k of a sum, and the sum's word k. -/
def crf (A B : Nat → Nat) : Nat → Bool
  | 0 => false
  | k + 1 => decide (4294967296 ≤ A k + B k + (crf A B k).toNat)
def smw (A B : Nat → Nat) (k : Nat) : Nat := (A k + B k + (crf A B k).toNat) % 4294967296
theorem smw_lt (A B : Nat → Nat) (k : Nat) : smw A B k < 4294967296 := Nat.mod_lt _ (by decide)
theorem back_word {a b k : Nat} (ha : a < 4294967296) (hb : b < 4294967296) (hk : k ≤ 1) : ((a + b + k) % 4294967296 + 8589934592 - b - k) % 4294967296 = a ∧ ((a + b + k) % 4294967296 < b + k ↔ 4294967296 ≤ a + b + k) := by
  omega
theorem bit_le (p : Bool) : p.toNat ≤ 1 := by cases p <;> decide
theorem plus_ab {w : World} {a1 a2 : Option Addr} {n c1 c2 : Nat} {A B : Nat → Nat} (h1 : Wf w a1 n A) (h2 : Wf w a2 n B) :
    Calls Tryd.prog 22 #[.slice a1 n c1, .slice a2 n c2, .bool false] w fun e w' => ∃ a3 c3, e = .returned (.tuple #[.slice a3 n c3, .bool (crf A B n)]) ∧ Wf w' a3 n (smw A B) ∧ Below w.heap.size w w' := by
  refine (plus_any false a1 a2 n c1 c2 A B (smw A B) (crf A B) w h1 h2 rfl (fun k _ => smw_lt A B k) (fun k hk w => ?_)).mono ?_
  · simp only [Bool.false_eq_true, if_false]
    exact addCarry_any (A k) (B k) (crf A B k) w (h1.small k hk) (h2.small k hk)
  · rintro e w' ⟨v, rfl, ho, hb⟩
    obtain ⟨a3, c3, rfl, hw⟩ := own_wf ho h1.most (fun k _ => smw_lt A B k)
    exact ⟨a3, c3, rfl, hw, hb⟩
theorem plus_sb {w : World} {a1 a2 : Option Addr} {n c1 c2 : Nat} {A B : Nat → Nat} (hA : ∀ k, k < n → A k < 4294967296) (h1 : Wf w a1 n (smw A B)) (h2 : Wf w a2 n B) :
    Calls Tryd.prog 22 #[.slice a1 n c1, .slice a2 n c2, .bool true] w fun e w' => ∃ a3 c3, e = .returned (.tuple #[.slice a3 n c3, .bool (crf A B n)]) ∧ Wf w' a3 n A ∧ Below w.heap.size w w' := by
  refine (plus_any true a1 a2 n c1 c2 (smw A B) B A (crf A B) w h1 h2 rfl hA (fun k hk w => ?_)).mono ?_
  · simp only [if_true]
    have h := subBorrow_any (smw A B k) (B k) (crf A B k) w (smw_lt A B k) (h2.small k hk)
    have hb := back_word (hA k hk) (h2.small k hk) (bit_le (crf A B k))
    rw [show (smw A B k + 8589934592 - B k - (crf A B k).toNat) % 4294967296 = A k from hb.1, show decide (smw A B k < B k + (crf A B k).toNat) = crf A B (k + 1) from decide_eq_decide.2 hb.2] at h
    exact h
  · rintro e w' ⟨v, rfl, ho, hb⟩
    obtain ⟨a3, c3, rfl, hw⟩ := own_wf ho h1.most hA
    exact ⟨a3, c3, rfl, hw, hb⟩
theorem wf_take {w : World} {a : Option Addr} {n m : Nat} {A : Nat → Nat} (h : Wf w a n A) (hm : m ≤ n) : Wf w a m A :=
  ⟨by have := h.most; omega, fun k hk => h.small k (by omega), fun k hk => h.cell k (by omega)⟩
theorem div1 {w : World} {E : Nat → Addr} (he : Errs w E) : Calls Tryd.prog 24 #[.int .u32 1, .int .u32 1, .int .u32 0] w fun e w' => e = .returned (.tuple #[.int .u32 0, .int .u32 0, sent (E 20)]) ∧ Below w.heap.size w w' := divWide_zero he 1 1

/-- What is carried on of a product by c, and its words. -/
def rsf (A : Nat → Nat) (c r : Nat) : Nat → Nat
  | 0 => r
  | k + 1 => (A k * c + rsf A c r k) / 4294967296
def pdf (A : Nat → Nat) (c r k : Nat) : Nat := (A k * c + rsf A c r k) % 4294967296
theorem pdf_lt (A : Nat → Nat) (c r k : Nat) : pdf A c r k < 4294967296 := Nat.mod_lt _ (by decide)
theorem rsf_lt {A : Nat → Nat} {c r n : Nat} (hA : ∀ k, k < n → A k < 4294967296) (hr : r < c) (k : Nat) (hk : k ≤ n) : rsf A c r k < c := by
  induction k with
  | zero => exact hr
  | succ k ih =>
    have h1 := ih (by omega)
    have h2 : A k * c ≤ 4294967295 * c := Nat.mul_le_mul_right _ (by have := hA k (by omega); omega)
    rw [rsf, Nat.div_lt_iff_lt_mul (by decide)]
    omega
theorem mul_step {a c r : Nat} (ha : a < 4294967296) (hc : c < 4294967296) (hr : r < c) :
    (a * c % 4294967296 + r + Bool.toNat false) % 4294967296 = (a * c + r) % 4294967296 ∧ (a * c / 4294967296 + 0 + (decide (4294967296 ≤ a * c % 4294967296 + r + Bool.toNat false)).toNat) % 4294967296 = (a * c + r) / 4294967296 := by
  have h2 : a * c ≤ 4294967295 * c := Nat.mul_le_mul_right _ (by omega)
  generalize a * c = m at *
  simp only [Bool.toNat_false]
  refine ⟨by omega, ?_⟩
  by_cases h : 4294967296 ≤ m % 4294967296 + r + 0
  · rw [decide_eq_true h]
    simp only [Bool.toNat_true]
    omega
  · rw [decide_eq_false h]
    simp only [Bool.toNat_false]
    omega

theorem div_step {A : Nat → Nat} {c r k : Nat} (h : rsf A c r k < c) : (rsf A c r (k + 1) * 4294967296 + pdf A c r k) / c = A k ∧ (rsf A c r (k + 1) * 4294967296 + pdf A c r k) % c = rsf A c r k := by
  have e : rsf A c r (k + 1) * 4294967296 + pdf A c r k = c * A k + rsf A c r k := by
    rw [show rsf A c r (k + 1) = (A k * c + rsf A c r k) / 4294967296 from rfl, pdf, Nat.mul_comm c, Nat.mul_comm _ 4294967296]
    exact Nat.div_add_mod _ _
  rw [e, Nat.mul_add_div (by omega), Nat.mul_add_mod, Nat.div_eq_of_lt h, Nat.mod_eq_of_lt h]
  exact ⟨rfl, rfl⟩
theorem row_below {w w' : World} {g : Nat} {o : Obj} (h : w.heap[g]? = some o) (hb : Below w.heap.size w w') : w'.heap[g]? = some o := by
  have hlt : g < w.heap.size := (Array.getElem?_eq_some_iff.1 h).1
  rw [hb.block g hlt]
  exact h

set_option maxRecDepth 100000 in
set_option maxHeartbeats 1600000 in
theorem law {E : Nat → Addr} (a1 a2 : Option Addr) (n1 n2 c1 c2 : Nat) (A B : Nat → Nat) (c r : Nat) (w : World) (he : Errs w E) (h1 : Wf w a1 n1 A) (h2 : Wf w a2 n2 B) (f1 : n1 ≤ c1) (f2 : n2 ≤ c2) (hc : c < 4294967296) (hr : r < 4294967296) :
    Calls Tryd.prog 8 #[.agg #[.slice a1 n1 c1, .slice a2 n2 c2, .int .u32 (c : Int), .int .u32 (r : Int)]] w fun e w' => e = .returned (.bool true) ∧ Below w.heap.size w w' := by
  have M := hide (fun w => mul1 w)
  have m1 := h1.most
  have m2 := h2.most
  have HE := hide he
  have H1 := hide h1
  have H2 := hide h2
  clear he h1 h2
  go_enter Tryd.func8, Tryd.ntmps8
  go_wp2_with fail
  have B0 : Hid (Below w.heap.size w (w.alloc (.cells #[.slice a1 n1 c1, .slice a2 n2 c2, .int .u32 (c : Int), .int .u32 (r : Int)] 44))) := (Below.refl _ _).alloc (Nat.le_refl _) _
  have x0 : (w.alloc (.cells #[.slice a1 n1 c1, .slice a2 n2 c2, .int .u32 (c : Int), .int .u32 (r : Int)] 44)).cell? ⟨w.heap.size, 0, none⟩ = some (.slice a1 n1 c1) := by rw [World.cell?_alloc_at _ _ _ _ rfl]; rfl
  have x1 : (w.alloc (.cells #[.slice a1 n1 c1, .slice a2 n2 c2, .int .u32 (c : Int), .int .u32 (r : Int)] 44)).cell? ⟨w.heap.size, 1, none⟩ = some (.slice a2 n2 c2) := by rw [World.cell?_alloc_at _ _ _ _ rfl]; rfl
  have x2 : (w.alloc (.cells #[.slice a1 n1 c1, .slice a2 n2 c2, .int .u32 (c : Int), .int .u32 (r : Int)] 44)).cell? ⟨w.heap.size, 2, none⟩ = some (.int .u32 (c : Int)) := by rw [World.cell?_alloc_at _ _ _ _ rfl]; rfl
  have x3 : (w.alloc (.cells #[.slice a1 n1 c1, .slice a2 n2 c2, .int .u32 (c : Int), .int .u32 (r : Int)] 44)).cell? ⟨w.heap.size, 3, none⟩ = some (.int .u32 (r : Int)) := by rw [World.cell?_alloc_at _ _ _ _ rfl]; rfl
  generalize w.alloc (.cells #[.slice a1 n1 c1, .slice a2 n2 c2, .int .u32 (c : Int), .int .u32 (r : Int)] 44) = W0 at *
  by_cases hle : n2 < n1
  · have hle2 : (n2 : Int) < (n1 : Int) := by omega
    have l1 : (n2 : Int) ≤ (c1 : Int) := by omega
    have l2 : (n2 : Int) ≤ (c2 : Int) := by omega
    have l3 : (0 : Int) ≤ (n2 : Int) := by omega
    have l4 : n2 ≤ c1 := by omega
    have l5 : n2 ≤ c2 := by omega
    have K1 := hide (wf_take H1.out (show n2 ≤ n1 by omega))
    have K2 := hide (wf_take H2.out (show n2 ≤ n2 by omega))
    refine Calls.mono (M.out _) ?_
    rintro e w' ⟨rfl, rfl⟩
    go_wp2_with fail
    all_goals try (exfalso; omega)
    go_quiet (fail)
    have D1 : Hid (Below w.heap.size w (W0.drewN nq)) := below_drewN B0.out _
    clear x0 x1 x2 x3 B0
    generalize W0.drewN nq = W1 at *
    go_wp2_with fail
    refine Calls.mono (plus_ab (K1.out.below D1.out) (K2.out.below D1.out)) ?_
    rintro e W2 ⟨a3, c3, rfl, hw3, b2⟩
    have D2 := hide (chain D1.out b2)
    have K3 := hide hw3
    clear hw3 b2
    go_wp2_with fail
    refine Calls.mono (plus_sb (fun k hk => K1.out.small k hk) K3.out (K2.out.below D2.out)) ?_
    rintro e W3 ⟨a4, c4, rfl, hw4, b3⟩
    have D3 := hide (chain D2.out b3)
    have K4 := hide hw4
    clear hw4 b3
    go_wp2_with fail
    refine Calls.mono (same_yes a4 a1 n2 c4 c1 A W3 K4.out (K1.out.below D3.out)) ?_
    rintro e W4 ⟨rfl, b4⟩
    have D4 := hide (chain D3.out b4)
    clear b4
    by_cases h0 : c = 0
    · subst h0
      go_wp2_with fail
      refine Calls.mono (div1 (HE.out.below D4.out)) ?_
      rintro e W5 ⟨rfl, b5⟩
      have D5 := hide (chain D4.out b5)
      clear b5
      go_wp2_with fail
      refine Calls.mono (code_any (HE.out.below D5.out) (sent (E 20)) 20 (.inr ⟨by decide, by decide, rfl⟩)) ?_
      rintro e w' ⟨rfl, rfl⟩
      go_wp2
      go_ret
      exact ⟨rfl, D5.out⟩
    · have e0 : ((c : Int) == 0) = false := by simp; omega
      go_wp2_with fail
      rw [show (r : Int) % (c : Int) = ((r % c : Nat) : Int) by simp]
      have hr0 : r % c < c := Nat.mod_lt _ (by omega)
      generalize r % c = r0 at *
      have HRl := hide (fun k (hk : k ≤ n2) => rsf_lt (fun k hk => K1.out.small k hk) hr0 k hk)
      go_loopw [3, 4, 17, 18, 19] (fun h l rs pv i wr => ∃ k : Nat, k ≤ n2 ∧ rs = .int .u32 (rsf A c r0 k : Int) ∧ i = .int .i64 (k : Int) ∧ OwnW wr W4.heap.size pv (upto (pdf A c r0) k) ∧ Below W4.heap.size W4 wr) (fun _ _ _ _ i _ => n2 - (intOf i).toNat)
      case atStart => exact ⟨0, by omega, rfl, rfl, ⟨rfl, .inl ⟨rfl, rfl⟩⟩, Below.refl _ _⟩
      case round =>
        obtain ⟨k, hk, rfl, rfl, hO, hB⟩ := hrel
        have HB := hide hB
        have HO := hide hO
        have DW := hide (D4.out.trans (hB.mono D4.out.size))
        clear hB hO
        by_cases hlt : k < n2
        · obtain ⟨b1, o1, rfl, y1⟩ := (K1.out.below DW.out).cell k hlt
          have hak := K1.out.small k hlt
          have hrk := HRl.out k (by omega)
          have ms := mul_step hak hc hrk
          have T1 := hide (fun w => mulWide_any (A k) c w hak hc)
          have T2 := hide (fun w => addCarry_any (A k * c % 4294967296) (rsf A c r0 k) false w (Nat.mod_lt _ (by decide)) (by omega))
          have T3 := hide (fun w => addCarry_any (A k * c / 4294967296) 0 (decide (4294967296 ≤ A k * c % 4294967296 + rsf A c r0 k + Bool.toNat false)) w (by rw [Nat.div_lt_iff_lt_mul (by decide)]; exact Nat.mul_lt_mul'' hak hc) (by decide))
          rw [ms.1] at T2
          rw [ms.2] at T3
          rw [show (A k * c + rsf A c r0 k) % 4294967296 = pdf A c r0 k from rfl] at T2
          rw [show (A k * c + rsf A c r0 k) / 4294967296 = rsf A c r0 (k + 1) from rfl] at T3
          have HPk := hide (pdf_lt A c r0 k)
          clear ms hrk hak
          have k1 : (k : Int) < (n2 : Int) := by omega
          generalize decide (4294967296 ≤ A k * c / 4294967296 + 0 + (decide (4294967296 ≤ A k * c % 4294967296 + rsf A c r0 k + Bool.toNat false)).toNat) = u2 at *
          generalize decide (4294967296 ≤ A k * c % 4294967296 + rsf A c r0 k + Bool.toNat false) = u1 at *
          generalize A k * c % 4294967296 = lo at *
          generalize A k * c / 4294967296 = hi at *
          go_wp2_with fail
          refine Calls.mono (T1.out _) ?_
          rintro e w' ⟨rfl, rfl⟩
          go_wp2_with fail
          refine Calls.mono (T2.out _) ?_
          rintro e w' ⟨rfl, rfl⟩
          go_wp2_with fail
          refine Calls.mono (T3.out _) ?_
          rintro e w' ⟨rfl, rfl⟩
          have HOa := hide (HO.out.alloc (.cells #[.int .u32 (pdf A c r0 k : Int)] 22))
          have HOne := hide (one_wds wr (pdf A c r0 k) HPk.out)
          have HBa : Hid (Below W4.heap.size W4 (wr.alloc (.cells #[.int .u32 (pdf A c r0 k : Int)] 22))) := HB.out.alloc HB.out.size _
          go_wp2_with (at_builtin; refine append_wds rfl (.tmp 117) (.tmp 119) rfl W4.heap.size _ (upto (pdf A c r0) k) rfl HOa.out (some ⟨wr.heap.size, 0, none⟩) 1 1 [pdf A c r0 k] rfl HOne.out (by rw [upto_length]; omega) (by have := HB.out.size; simp; omega) ?_; intro v2 w2 hown2 hgrow2 hnil2)
          go_roundw
          case rel =>
            refine ⟨k + 1, by omega, rfl, by go_num, ?_, belowW_own HBa.out HOa.out hgrow2⟩
            rw [upto_next]
            exact hown2
          case measure => simp [intOf]; omega
        · obtain rfl : k = n2 := by omega
          obtain ⟨a5, c5, rfl, hw5⟩ := own_wf HO.out (K1.out.most) (fun k _ => pdf_lt A c r0 k)
          have K5 := hide hw5
          clear hw5 HO
          have hmost := K1.out.most
          have hmk := fun w => Go.run_make_row' (P := Tryd.prog) 42 22 (.int .u32 0) 4 Tryd.underlying42 info32 rfl .i64 .i64 k (by omega) (by omega) w
          go_wp2_with fail
          have HG0 : Hid ((wr.alloc (.cells (madeCells #[.int .u32 0] k) 22)).heap[wr.heap.size]? = some (.cells (madeCells #[.int .u32 0] k) 22 (0, 0))) := heap_alloc_new wr _
          have HSz := hide (size_madeCells #[Value.int .u32 0] k)
          have HBm : Hid (Below wr.heap.size wr (wr.alloc (.cells (madeCells #[.int .u32 0] k) 22))) := (Below.refl _ _).alloc (Nat.le_refl _) _
          clear hmk
          generalize wr.alloc (.cells (madeCells #[.int .u32 0] k) 22) = W6 at *
          generalize madeCells #[Value.int .u32 0] k = cs0 at *
          generalize wr = WR at *
          go_loopw [17, 23] (fun rs i wq => ∃ t : Nat, t ≤ k ∧ rs = .int .u32 (rsf A c r0 t : Int) ∧ i = .int .i64 ((t : Int) - 1) ∧ Below WR.heap.size WR wq ∧ ∃ cs, wq.heap[WR.heap.size]? = some (.cells cs 22 (0, 0)) ∧ cs.size = k ∧ ∀ j, t ≤ j → j < k → cs[j]? = some (.int .u32 (A j : Int))) (fun _ i _ => ((intOf i) + 1).toNat)
          case atStart => exact ⟨k, by omega, rfl, by go_num, HBm.out, cs0, HG0.out, HSz.out, fun j h1 h2 => absurd h2 (by omega)⟩
          case round =>
            obtain ⟨t, ht, rfl, rfl, hBq, cs, hg, hcs, hj⟩ := hrel
            have HBq := hide hBq
            have HG := hide hg
            have HJ := hide hj
            clear hBq hg hj
            cases t with
            | succ j =>
              rw [show ((j + 1 : Nat) : Int) - 1 = (j : Int) by omega]
              have hjk : j < k := by omega
              have hrj := HRl.out j (by omega)
              have hrj1 := HRl.out (j + 1) (by omega)
              have ds := div_step hrj
              have T1 := hide (fun w => divWide_any (rsf A c r0 (j + 1)) (pdf A c r0 j) c w hrj1 (pdf_lt A c r0 j) hc)
              rw [ds.1, ds.2] at T1
              obtain ⟨b5, o5, rfl, y5⟩ := (K5.out.below HBq.out).cell j hjk
              have j1 : (j : Int) < (k : Int) := by omega
              have j2 : (0 : Int) ≤ (j : Int) := by omega
              clear ds hrj hrj1
              go_wp2_with fail
              refine Calls.mono (T1.out _) ?_
              rintro e wd ⟨rfl, bd⟩
              have HGd := hide (row_below HG.out bd)
              have HBd := hide (HBq.out.trans (bd.mono HBq.out.size))
              have fz := frozen_of_row wd WR.heap.size j _ _ HGd.out
              obtain ⟨oldv, hov⟩ : ∃ v, wd.cell? ⟨WR.heap.size, j, none⟩ = some v := by
                rw [cell_of_row wd WR.heap.size j _ _ _ HGd.out]
                exact ⟨cs[j]'(by omega), Array.getElem?_eq_getElem (by omega)⟩
              clear bd y5
              go_wp2_with fail
              go_roundw
              case rel =>
                refine ⟨j, by omega, rfl, by go_num, HBd.out.setCell (Nat.le_refl _) _, cs.setIfInBounds j (.int .u32 (A j : Int)), heap_setCell_same wd WR.heap.size j _ _ _ HGd.out, by rw [Array.size_setIfInBounds]; exact hcs, fun i h1 h2 => ?_⟩
                rw [Array.getElem?_setIfInBounds]
                by_cases e : j = i
                · subst e
                  rw [if_pos rfl, if_pos (by omega)]
                · rw [if_neg e]
                  exact HJ.out i (by omega) h2
              case measure => simp [intOf]
            | zero =>
              have hwq : Wf wr (some ⟨WR.heap.size, 0, none⟩) k A := ⟨K1.out.most, K1.out.small, fun i hi => ⟨WR.heap.size, 0, rfl, by rw [Nat.zero_add, cell_of_row wr WR.heap.size i _ _ _ HG.out]; exact HJ.out i (by omega) hi⟩⟩
              have HWq := hide hwq
              have D7 := hide (DW.out.trans (HBq.out.mono (by have := DW.out.size; omega)))
              clear hwq
              go_wp2_with fail
              refine Calls.mono (same_yes _ a1 k k c1 A _ HWq.out (K1.out.below D7.out)) ?_
              rintro e W8 ⟨rfl, b8⟩
              go_wp2
              go_ret
              exact ⟨ret_bool (by simp [rsf]), chain D7.out b8⟩
  · have hle2 : (n1 : Int) ≤ (n2 : Int) := by omega
    have hle3 : n1 ≤ n2 := by omega
    have l1 : (n1 : Int) ≤ (c1 : Int) := by omega
    have l2 : (n1 : Int) ≤ (c2 : Int) := by omega
    have l3 : (0 : Int) ≤ (n1 : Int) := by omega
    have l4 : n1 ≤ c1 := by omega
    have l5 : n1 ≤ c2 := by omega
    have K1 := hide (wf_take H1.out (show n1 ≤ n1 by omega))
    have K2 := hide (wf_take H2.out (show n1 ≤ n2 by omega))
    refine Calls.mono (M.out _) ?_
    rintro e w' ⟨rfl, rfl⟩
    go_wp2_with fail
    all_goals try (exfalso; omega)
    go_quiet (fail)
    have D1 : Hid (Below w.heap.size w (W0.drewN nq)) := below_drewN B0.out _
    clear x0 x1 x2 x3 B0
    generalize W0.drewN nq = W1 at *
    go_wp2_with fail
    refine Calls.mono (plus_ab (K1.out.below D1.out) (K2.out.below D1.out)) ?_
    rintro e W2 ⟨a3, c3, rfl, hw3, b2⟩
    have D2 := hide (chain D1.out b2)
    have K3 := hide hw3
    clear hw3 b2
    go_wp2_with fail
    refine Calls.mono (plus_sb (fun k hk => K1.out.small k hk) K3.out (K2.out.below D2.out)) ?_
    rintro e W3 ⟨a4, c4, rfl, hw4, b3⟩
    have D3 := hide (chain D2.out b3)
    have K4 := hide hw4
    clear hw4 b3
    go_wp2_with fail
    refine Calls.mono (same_yes a4 a1 n1 c4 c1 A W3 K4.out (K1.out.below D3.out)) ?_
    rintro e W4 ⟨rfl, b4⟩
    have D4 := hide (chain D3.out b4)
    clear b4
    by_cases h0 : c = 0
    · subst h0
      go_wp2_with fail
      refine Calls.mono (div1 (HE.out.below D4.out)) ?_
      rintro e W5 ⟨rfl, b5⟩
      have D5 := hide (chain D4.out b5)
      clear b5
      go_wp2_with fail
      refine Calls.mono (code_any (HE.out.below D5.out) (sent (E 20)) 20 (.inr ⟨by decide, by decide, rfl⟩)) ?_
      rintro e w' ⟨rfl, rfl⟩
      go_wp2
      go_ret
      exact ⟨rfl, D5.out⟩
    · have e0 : ((c : Int) == 0) = false := by simp; omega
      go_wp2_with fail
      rw [show (r : Int) % (c : Int) = ((r % c : Nat) : Int) by simp]
      have hr0 : r % c < c := Nat.mod_lt _ (by omega)
      generalize r % c = r0 at *
      have HRl := hide (fun k (hk : k ≤ n1) => rsf_lt (fun k hk => K1.out.small k hk) hr0 k hk)
      go_loopw [3, 4, 17, 18, 19] (fun h l rs pv i wr => ∃ k : Nat, k ≤ n1 ∧ rs = .int .u32 (rsf A c r0 k : Int) ∧ i = .int .i64 (k : Int) ∧ OwnW wr W4.heap.size pv (upto (pdf A c r0) k) ∧ Below W4.heap.size W4 wr) (fun _ _ _ _ i _ => n1 - (intOf i).toNat)
      case atStart => exact ⟨0, by omega, rfl, rfl, ⟨rfl, .inl ⟨rfl, rfl⟩⟩, Below.refl _ _⟩
      case round =>
        obtain ⟨k, hk, rfl, rfl, hO, hB⟩ := hrel
        have HB := hide hB
        have HO := hide hO
        have DW := hide (D4.out.trans (hB.mono D4.out.size))
        clear hB hO
        by_cases hlt : k < n1
        · obtain ⟨b1, o1, rfl, y1⟩ := (K1.out.below DW.out).cell k hlt
          have hak := K1.out.small k hlt
          have hrk := HRl.out k (by omega)
          have ms := mul_step hak hc hrk
          have T1 := hide (fun w => mulWide_any (A k) c w hak hc)
          have T2 := hide (fun w => addCarry_any (A k * c % 4294967296) (rsf A c r0 k) false w (Nat.mod_lt _ (by decide)) (by omega))
          have T3 := hide (fun w => addCarry_any (A k * c / 4294967296) 0 (decide (4294967296 ≤ A k * c % 4294967296 + rsf A c r0 k + Bool.toNat false)) w (by rw [Nat.div_lt_iff_lt_mul (by decide)]; exact Nat.mul_lt_mul'' hak hc) (by decide))
          rw [ms.1] at T2
          rw [ms.2] at T3
          rw [show (A k * c + rsf A c r0 k) % 4294967296 = pdf A c r0 k from rfl] at T2
          rw [show (A k * c + rsf A c r0 k) / 4294967296 = rsf A c r0 (k + 1) from rfl] at T3
          have HPk := hide (pdf_lt A c r0 k)
          clear ms hrk hak
          have k1 : (k : Int) < (n1 : Int) := by omega
          generalize decide (4294967296 ≤ A k * c / 4294967296 + 0 + (decide (4294967296 ≤ A k * c % 4294967296 + rsf A c r0 k + Bool.toNat false)).toNat) = u2 at *
          generalize decide (4294967296 ≤ A k * c % 4294967296 + rsf A c r0 k + Bool.toNat false) = u1 at *
          generalize A k * c % 4294967296 = lo at *
          generalize A k * c / 4294967296 = hi at *
          go_wp2_with fail
          refine Calls.mono (T1.out _) ?_
          rintro e w' ⟨rfl, rfl⟩
          go_wp2_with fail
          refine Calls.mono (T2.out _) ?_
          rintro e w' ⟨rfl, rfl⟩
          go_wp2_with fail
          refine Calls.mono (T3.out _) ?_
          rintro e w' ⟨rfl, rfl⟩
          have HOa := hide (HO.out.alloc (.cells #[.int .u32 (pdf A c r0 k : Int)] 22))
          have HOne := hide (one_wds wr (pdf A c r0 k) HPk.out)
          have HBa : Hid (Below W4.heap.size W4 (wr.alloc (.cells #[.int .u32 (pdf A c r0 k : Int)] 22))) := HB.out.alloc HB.out.size _
          go_wp2_with (at_builtin; refine append_wds rfl (.tmp 117) (.tmp 119) rfl W4.heap.size _ (upto (pdf A c r0) k) rfl HOa.out (some ⟨wr.heap.size, 0, none⟩) 1 1 [pdf A c r0 k] rfl HOne.out (by rw [upto_length]; omega) (by have := HB.out.size; simp; omega) ?_; intro v2 w2 hown2 hgrow2 hnil2)
          go_roundw
          case rel =>
            refine ⟨k + 1, by omega, rfl, by go_num, ?_, belowW_own HBa.out HOa.out hgrow2⟩
            rw [upto_next]
            exact hown2
          case measure => simp [intOf]; omega
        · obtain rfl : k = n1 := by omega
          obtain ⟨a5, c5, rfl, hw5⟩ := own_wf HO.out (K1.out.most) (fun k _ => pdf_lt A c r0 k)
          have K5 := hide hw5
          clear hw5 HO
          have hmost := K1.out.most
          have hmk := fun w => Go.run_make_row' (P := Tryd.prog) 42 22 (.int .u32 0) 4 Tryd.underlying42 info32 rfl .i64 .i64 k (by omega) (by omega) w
          go_wp2_with fail
          have HG0 : Hid ((wr.alloc (.cells (madeCells #[.int .u32 0] k) 22)).heap[wr.heap.size]? = some (.cells (madeCells #[.int .u32 0] k) 22 (0, 0))) := heap_alloc_new wr _
          have HSz := hide (size_madeCells #[Value.int .u32 0] k)
          have HBm : Hid (Below wr.heap.size wr (wr.alloc (.cells (madeCells #[.int .u32 0] k) 22))) := (Below.refl _ _).alloc (Nat.le_refl _) _
          clear hmk
          generalize wr.alloc (.cells (madeCells #[.int .u32 0] k) 22) = W6 at *
          generalize madeCells #[Value.int .u32 0] k = cs0 at *
          generalize wr = WR at *
          go_loopw [17, 23] (fun rs i wq => ∃ t : Nat, t ≤ k ∧ rs = .int .u32 (rsf A c r0 t : Int) ∧ i = .int .i64 ((t : Int) - 1) ∧ Below WR.heap.size WR wq ∧ ∃ cs, wq.heap[WR.heap.size]? = some (.cells cs 22 (0, 0)) ∧ cs.size = k ∧ ∀ j, t ≤ j → j < k → cs[j]? = some (.int .u32 (A j : Int))) (fun _ i _ => ((intOf i) + 1).toNat)
          case atStart => exact ⟨k, by omega, rfl, by go_num, HBm.out, cs0, HG0.out, HSz.out, fun j h1 h2 => absurd h2 (by omega)⟩
          case round =>
            obtain ⟨t, ht, rfl, rfl, hBq, cs, hg, hcs, hj⟩ := hrel
            have HBq := hide hBq
            have HG := hide hg
            have HJ := hide hj
            clear hBq hg hj
            cases t with
            | succ j =>
              rw [show ((j + 1 : Nat) : Int) - 1 = (j : Int) by omega]
              have hjk : j < k := by omega
              have hrj := HRl.out j (by omega)
              have hrj1 := HRl.out (j + 1) (by omega)
              have ds := div_step hrj
              have T1 := hide (fun w => divWide_any (rsf A c r0 (j + 1)) (pdf A c r0 j) c w hrj1 (pdf_lt A c r0 j) hc)
              rw [ds.1, ds.2] at T1
              obtain ⟨b5, o5, rfl, y5⟩ := (K5.out.below HBq.out).cell j hjk
              have j1 : (j : Int) < (k : Int) := by omega
              have j2 : (0 : Int) ≤ (j : Int) := by omega
              clear ds hrj hrj1
              go_wp2_with fail
              refine Calls.mono (T1.out _) ?_
              rintro e wd ⟨rfl, bd⟩
              have HGd := hide (row_below HG.out bd)
              have HBd := hide (HBq.out.trans (bd.mono HBq.out.size))
              have fz := frozen_of_row wd WR.heap.size j _ _ HGd.out
              obtain ⟨oldv, hov⟩ : ∃ v, wd.cell? ⟨WR.heap.size, j, none⟩ = some v := by
                rw [cell_of_row wd WR.heap.size j _ _ _ HGd.out]
                exact ⟨cs[j]'(by omega), Array.getElem?_eq_getElem (by omega)⟩
              clear bd y5
              go_wp2_with fail
              go_roundw
              case rel =>
                refine ⟨j, by omega, rfl, by go_num, HBd.out.setCell (Nat.le_refl _) _, cs.setIfInBounds j (.int .u32 (A j : Int)), heap_setCell_same wd WR.heap.size j _ _ _ HGd.out, by rw [Array.size_setIfInBounds]; exact hcs, fun i h1 h2 => ?_⟩
                rw [Array.getElem?_setIfInBounds]
                by_cases e : j = i
                · subst e
                  rw [if_pos rfl, if_pos (by omega)]
                · rw [if_neg e]
                  exact HJ.out i (by omega) h2
              case measure => simp [intOf]
            | zero =>
              have hwq : Wf wr (some ⟨WR.heap.size, 0, none⟩) k A := ⟨K1.out.most, K1.out.small, fun i hi => ⟨WR.heap.size, 0, rfl, by rw [Nat.zero_add, cell_of_row wr WR.heap.size i _ _ _ HG.out]; exact HJ.out i (by omega) hi⟩⟩
              have HWq := hide hwq
              have D7 := hide (DW.out.trans (HBq.out.mono (by have := DW.out.size; omega)))
              clear hwq
              go_wp2_with fail
              refine Calls.mono (same_yes _ a1 k k c1 A _ HWq.out (K1.out.below D7.out)) ?_
              rintro e W8 ⟨rfl, b8⟩
              go_wp2
              go_ret
              exact ⟨ret_bool (by simp [rsf]), chain D7.out b8⟩
end Go.Proofs.YtbdhlpbddddpeaaDoor.aluLong
