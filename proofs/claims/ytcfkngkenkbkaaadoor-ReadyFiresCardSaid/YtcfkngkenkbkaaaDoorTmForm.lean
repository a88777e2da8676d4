/-
  timer's inForm and Check.
-/
import Derived.Test.YtcfkngkenkbkaaaDoorTmOrd
import Derived.Test.YtcfkngkenkbkaaaDoorTmTwice
import Derived.Test.YtcfkngkenkbkaaaDoorErrHit
namespace Go.Proofs.YtcfkngkenkbkaaaDoor
open Classical
open Go.RowKit
set_option linter.unusedVariables false
set_option linter.unusedSimpArgs false

/-- No neighbour stands wrong from the k-th on. -/
def OrdFrom (l : List Tm) (k : Nat) : Prop := ∀ j a b, k ≤ j → l[j]? = some a → l[j + 1]? = some b → a.le b = true
theorem ord_from0 : ∀ {l : List Tm}, OrdFrom l 0 → Ord l
  | [], _ => List.Pairwise.nil
  | [a], _ => List.pairwise_singleton _ _
  | a :: b :: l, h => by
    have hs : OrdFrom (b :: l) 0 := fun j x y _ hx hy => h (j + 1) x y (by omega) hx hy
    have ih := ord_from0 hs
    refine List.pairwise_cons.2 ⟨fun c hc => ?_, ih⟩
    have hab : a.le b = true := h 0 a b (by omega) rfl rfl
    rcases List.mem_cons.1 hc with rfl | hc
    · exact hab
    · exact Tm.le_trans a b c hab ((List.pairwise_cons.1 ih).1 c hc)
theorem ord_at {l : List Tm} (h : Ord l) {j : Nat} {a b : Tm} (ha : l[j]? = some a) (hb : l[j + 1]? = some b) : a.le b = true := by
  obtain ⟨h1, e1⟩ := List.getElem?_eq_some_iff.1 ha
  obtain ⟨h2, e2⟩ := List.getElem?_eq_some_iff.1 hb
  have := List.pairwise_iff_getElem.1 h j (j + 1) h1 h2 (by omega)
  rw [e1, e2] at this
  exact this
theorem order_below (a b : Tm) (w : World) (r : Int) (hr : cmpT a b = r) : Calls Tryd.prog 67 #[.agg #[.int .i64 a.proc, .int .i64 a.due], .agg #[.int .i64 b.proc, .int .i64 b.due]] w fun e w' => e = .returned (.int .i64 r) ∧ Below w.heap.size w w' := by
  refine (order_any a b w).mono fun e w' ⟨he, hw⟩ => ⟨by rw [he, hr], ?_⟩
  rw [hw]
  have b1 := (Below.refl w.heap.size w).alloc (Nat.le_refl _) (.cells #[.int .i64 a.proc, .int .i64 a.due] 68)
  have b2 := b1.alloc b1.size (.cells #[.int .i64 b.proc, .int .i64 b.due] 68)
  exact (b2.alloc b2.size _).drew

set_option maxRecDepth 100000 in
set_option maxHeartbeats 4000000 in
theorem isSorted_any (w : World) (a : Option Addr) (len cap : Nat) (l : List Tm) (hs : Tms w a len cap l) (hm : len ≤ 9223372036854775807) :
    Calls Tryd.prog 79 #[.slice a len cap, .func (.func 67) #[] #[]] w fun e w' => e = .returned (.bool (decide (Ord l))) ∧ Below w.heap.size w w' := by
  have HS := hide hs
  have hl := hs.size
  have HO := hide order_below
  clear hs
  go_enter Tryd.func79, Tryd.ntmps79
  go_wp2
  go_loopw [5] (fun i wr => ∃ z : Int, i = .int .i64 z ∧ -1 ≤ z ∧ z < (len : Int) ∧ Hid (OrdFrom l z.toNat) ∧ Hid (Below w.heap.size w wr)) (fun i _ => (intOf i).toNat)
  case atStart =>
    refine ⟨(len : Int) - 1, by go_num, by omega, by omega, fun j x y hj hx hy => ?_, Below.refl _ _⟩
    have := (List.getElem?_eq_some_iff.1 hy).1
    omega
  case round =>
    obtain ⟨z, rfl, hz1, hz2, hord, hb⟩ := hrel
    by_cases hlt : 0 < z
    · obtain ⟨k, rfl⟩ : ∃ k : Nat, z = (k : Int) + 1 := ⟨z.toNat - 1, by omega⟩
      obtain ⟨x, hx⟩ : ∃ p, l[k]? = some p := ⟨_, List.getElem?_eq_getElem (by omega)⟩
      obtain ⟨y, hy⟩ : ∃ p, l[k + 1]? = some p := ⟨_, List.getElem?_eq_getElem (by omega)⟩
      obtain ⟨b, off, rfl, hr⟩ := (HS.out.below hb.out).at tm2 (by decide) hx
      obtain ⟨_, _, e0, hr'⟩ := (HS.out.below hb.out).at tm2 (by decide) hy
      simp only [Option.some.injEq, Addr.mk.injEq, and_true] at e0
      obtain ⟨rfl, rfl⟩ := e0
      have r0 := hr 0 _ rfl
      have r1 := hr 1 _ rfl
      have s0 := hr' 0 _ rfl
      have s1 := hr' 1 _ rfl
      simp only [Nat.add_zero] at r0 s0
      have HX := hide hx
      have HY := hide hy
      have t1 : ((k : Int) + 1).toNat = k + 1 := by omega
      have t2 : (0 : Int) ≤ (k : Int) + 1 := by omega
      have t3 : (k : Int) < (len : Int) := by omega
      have t4 : ((k : Int)).toNat = k := by omega
      have t5 : (0 : Int) ≤ (k : Int) := by omega
      have t6 : (k : Int) + 1 < (len : Int) := by omega
      have ra : IntKind.i64.wrap ((k : Int) + 1) = (k : Int) + 1 := by rw [IntKind.wrap_i64]; omega
      have rc : IntKind.i64.wrap (k : Int) = (k : Int) := by rw [IntKind.wrap_i64]; omega
      obtain ⟨r, hcmp⟩ : ∃ r, cmpT y x = r := ⟨_, rfl⟩
      have HR : Hid (decide (r < 0) = y.lt x) := by unfold Hid; rw [← hcmp]; exact cmpT_lt y x
      have HC := hide (fun W => HO.out y x W r hcmp)
      clear hr hr' hx hy hcmp
      have d0 : decide ((0 : Int) < (k : Int) + 1) = true := decide_eq_true hlt
      obtain ⟨d, hd⟩ : ∃ d, decide (r < 0) = d := ⟨_, rfl⟩
      rw [hd] at HR
      go_wp2_with fail
      go_region_held3 (fun wz => wz.cell? ⟨b, off + k * 2, none⟩ = some (.int .i64 x.proc) ∧ wz.cell? ⟨b, off + k * 2 + 1, none⟩ = some (.int .i64 x.due) ∧ wz.cell? ⟨b, off + (k + 1) * 2, none⟩ = some (.int .i64 y.proc) ∧ wz.cell? ⟨b, off + (k + 1) * 2 + 1, none⟩ = some (.int .i64 y.due))
        (first | exact ⟨r0, r1, s0, s1⟩ | exact ⟨cell_below r0 b6, cell_below r1 b6, cell_below s0 b6, cell_below s1 b6⟩)
        (first | (go_at_call 67; refine (HC.out _).mono ?_; rintro e w5 ⟨rfl, b5⟩; have b6 : Below wr.heap.size wr w5 := chain ((Below.refl _ _).drew) b5; clear b5))
      rename_i hheld
      clear hheld r0 r1 s0 s1
      have B6 := hide (chain hb.out b6)
      clear b6
      cases d
      · have HLE : Hid (x.le y = true) := by unfold Hid Tm.le; rw [← HR.out]; rfl
        go_wp2
        go_roundw
        case rel =>
          refine ⟨(k : Int), by go_num, by omega, by omega, fun j p q hj hp hq => ?_, B6.out⟩
          rw [Int.toNat_natCast] at hj
          by_cases e : j = k
          · subst e
            rw [HX.out] at hp
            rw [HY.out] at hq
            obtain rfl := Option.some.inj hp
            obtain rfl := Option.some.inj hq
            exact HLE.out
          · exact hord.out j p q (by rw [t1]; omega) hp hq
        case measure => simp [intOf]
      · have HF : Hid (decide (Ord l) = false) := decide_eq_false (fun h => by
          have := ord_at h HX.out HY.out
          unfold Tm.le at this
          rw [← HR.out] at this
          simp at this)
        go_wp2
        go_ret
        exact ⟨by rw [HF.out]; rfl, B6.out⟩
    · have HT : Hid (decide (Ord l) = true) := decide_eq_true (by
        have := hord.out
        rw [show z.toNat = 0 by omega] at this
        exact ord_from0 this)
      have d0 : decide (0 < z) = false := decide_eq_false hlt
      go_wp2
      go_ret
      exact ⟨by rw [HT.out]; rfl, hb.out⟩

set_option maxRecDepth 100000 in
set_option maxHeartbeats 4000000 in
theorem inForm_any (w : World) (a : Option Addr) (len cap : Nat) (l : List Tm) (hs : Tms w a len cap l) (n : Int) (h8 : n ≤ 8) (hm : len ≤ 9223372036854775807) :
    Calls Tryd.prog 59 #[.slice a len cap, .int .i64 n] w fun e w' => e = .returned (.bool (decide (Form l n))) ∧ Below w.heap.size w w' := by
  have HS := hide hs
  clear hs
  go_enter Tryd.func59, Tryd.ntmps59
  go_wp2_with fail
  refine Calls.mono (inRange_any w a len cap l HS.out n hm) ?_
  rintro e w1 ⟨rfl, b1⟩
  have B1 := hide b1
  clear b1
  by_cases hin : InR l n
  · have h8 : InR l 8 := fun t ht => by have := hin t ht; exact ⟨this.1, by have := this.2.1; omega, this.2.2⟩
    have d1 : decide (InR l n) = true := decide_eq_true hin
    rw [d1]
    go_wp2_with fail
    refine Calls.mono (twice_any w1 a len cap l (HS.out.below B1.out) h8 hm) ?_
    rintro e w2 ⟨rfl, b2⟩
    have B2 := hide (chain B1.out b2)
    clear b2
    by_cases hnd : Nod l
    · have d2 : decide (Nod l) = true := decide_eq_true hnd
      rw [d2]
      go_wp2_with fail
      refine Calls.mono (isSorted_any w2 a len cap l (HS.out.below B2.out) hm) ?_
      rintro e w3 ⟨rfl, b3⟩
      have B3 := hide (chain B2.out b3)
      have HF : Hid (decide (Form l n) = decide (Ord l)) := decide_eq_decide.2 ⟨fun h => h.2.2, fun h => ⟨hin, hnd, h⟩⟩
      clear b3 hin hnd d1 d2
      generalize decide (Ord l) = q at *
      go_wp2
      go_ret
      exact ⟨by rw [HF.out]; cases q <;> rfl, B3.out⟩
    · have d2 : decide (Nod l) = false := decide_eq_false hnd
      have HF : Hid (decide (Form l n) = false) := decide_eq_false (fun h => hnd h.2.1)
      rw [d2]
      clear hin hnd d1 d2
      go_wp2
      go_ret
      exact ⟨by rw [HF.out]; rfl, B2.out⟩
  · have d1 : decide (InR l n) = false := decide_eq_false hin
    have HF : Hid (decide (Form l n) = false) := decide_eq_false (fun h => hin h.1)
    rw [d1]
    clear hin d1
    go_wp2
    go_ret
    exact ⟨by rw [HF.out]; rfl, B1.out⟩

/-- The three errors that timer answers. -/
structure Er3 (w : World) (E : Nat → Addr) : Prop where
  v9 : w.cell? ⟨0, 0, none⟩ = some (sent (E 9))
  v12 : w.cell? ⟨1, 0, none⟩ = some (sent (E 12))
theorem Er3.below {w w' : World} {E : Nat → Addr} (h : Er3 w E) (hb : Below w.heap.size w w') : Er3 w' E := ⟨cell_below h.v9 hb, cell_below h.v12 hb⟩
theorem Errs.er3 {w : World} {E : Nat → Addr} (h : Errs w E) : Er3 w E := ⟨h.v9, h.v12⟩
/-- The three errors that a law of the ready queue is given. -/
structure Er9 (w : World) (E : Nat → Addr) : Prop where
  v9 : w.cell? ⟨0, 0, none⟩ = some (sent (E 9))
  v12 : w.cell? ⟨1, 0, none⟩ = some (sent (E 12))
  v17 : w.cell? ⟨2, 0, none⟩ = some (sent (E 17))
theorem Er9.below {w w' : World} {E : Nat → Addr} (h : Er9 w E) (hb : Below w.heap.size w w') : Er9 w' E := ⟨cell_below h.v9 hb, cell_below h.v12 hb, cell_below h.v17 hb⟩
theorem Errs.er9 {w : World} {E : Nat → Addr} (h : Errs w E) : Er9 w E := ⟨h.v9, h.v12, h.v17⟩
theorem Er9.er3 {w : World} {E : Nat → Addr} (h : Er9 w E) : Er3 w E := ⟨h.v9, h.v12⟩
/-- What Check answers. -/
def chkT (l : List Tm) (n : Int) [Decidable (Form l n)] : Nat := if n < 0 ∨ 8 < n then 12 else if Form l n then 0 else 9
set_option maxRecDepth 100000 in
set_option maxHeartbeats 4000000 in
theorem tcheck_any {w : World} {E : Nat → Addr} (he : Er3 w E) (a : Option Addr) (len cap : Nat) (l : List Tm) (hs : Tms w a len cap l) (n : Int) (hm : len ≤ 9223372036854775807) :
    Calls Tryd.prog 51 #[.slice a len cap, .int .i64 n] w fun e w' => ∃ v, e = .returned v ∧ Bare E v (chkT l n) ∧ Below w.heap.size w w' := by
  have HS := hide hs
  have HE := hide he
  clear hs he
  by_cases h1 : n < 0
  · have v12 := HE.out.v12
    have d1 : decide (n < 0) = true := decide_eq_true h1
    have HA : Hid (chkT l n = 12) := by unfold Hid chkT; rw [if_pos (.inl h1)]
    clear h1
    go_enter Tryd.func51, Tryd.ntmps51
    go_wp2
    go_ret
    exact ⟨_, rfl, by rw [HA.out]; exact bare_sent E 12 (by decide) (by decide), Below.refl _ _⟩
  · have d1 : decide (n < 0) = false := decide_eq_false h1
    by_cases h2 : 8 < n
    · have v12 := HE.out.v12
      have d2 : decide (8 < n) = true := decide_eq_true h2
      have HA : Hid (chkT l n = 12) := by unfold Hid chkT; rw [if_pos (.inr h2)]
      clear h1 h2
      go_enter Tryd.func51, Tryd.ntmps51
      go_wp2
      go_ret
      exact ⟨_, rfl, by rw [HA.out]; exact bare_sent E 12 (by decide) (by decide), Below.refl _ _⟩
    · have d2 : decide (8 < n) = false := decide_eq_false h2
      have HA : Hid (chkT l n = if Form l n then 0 else 9) := by unfold Hid chkT; rw [if_neg (by omega)]
      have h8 : n ≤ 8 := by omega
      clear h1 h2
      go_enter Tryd.func51, Tryd.ntmps51
      go_wp2_with fail
      refine Calls.mono (inForm_any w a len cap l HS.out n h8 hm) ?_
      rintro e w1 ⟨rfl, b1⟩
      have B1 := hide b1
      clear b1
      by_cases hf : Form l n
      · have d3 : decide (Form l n) = true := decide_eq_true hf
        rw [if_pos hf] at HA
        rw [d3]
        clear hf d3
        go_wp2
        go_ret
        exact ⟨_, rfl, by rw [HA.out]; exact bare_nil E, B1.out⟩
      · have d3 : decide (Form l n) = false := decide_eq_false hf
        have v9 := (HE.out.below B1.out).v9
        rw [if_neg hf] at HA
        rw [d3]
        clear hf d3
        go_wp2
        go_ret
        exact ⟨_, rfl, by rw [HA.out]; exact bare_sent E 9 (by decide) (by decide), B1.out⟩
end Go.Proofs.YtcfkngkenkbkaaaDoor
