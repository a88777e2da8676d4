/-
  timer's Shift.
-/
import Derived.Test.YtahdaodikpblnaaDoorTmFire
namespace Go.Proofs.YtahdaodikpblnaaDoor
open Classical
open Go.RowKit
set_option linter.unusedVariables false
set_option linter.unusedSimpArgs false

/-- A timer at the begin of the next frame. -/
def sh (n : Int) (t : Tm) : Tm := ⟨t.proc, max (t.due - n) 0⟩
def ShiftOk (n : Int) : Prop := 1 ≤ n ∧ n ≤ 10000
def shiftE (l : List Tm) (n : Int) [Decidable (Form l 8)] [Decidable (ShiftOk n)] : Nat := if ¬ Form l 8 then 9 else if ¬ ShiftOk n then 12 else 0
def shiftL (l : List Tm) (n : Int) [Decidable (Form l 8)] [Decidable (ShiftOk n)] : List Tm := if Form l 8 ∧ ShiftOk n then srt (l.map (sh n)) else []
/-- A list of which the first k are shifted. -/
def mid (n : Int) (l : List Tm) (k : Nat) : List Tm := (l.take k).map (sh n) ++ l.drop k
theorem mid_len (n : Int) (l : List Tm) (k : Nat) : (mid n l k).length = l.length := by
  unfold mid
  rw [List.length_append, List.length_map, ← List.length_append, List.take_append_drop]
theorem mid_at {n : Int} {l : List Tm} {k : Nat} {t : Tm} (h : l[k]? = some t) : (mid n l k)[k]? = some t := by
  have hk := (List.getElem?_eq_some_iff.1 h).1
  unfold mid
  rw [List.getElem?_append_right (by simp; omega), List.getElem?_drop]
  simp
  rw [show k + (k - min k l.length) = k by omega]
  exact h
theorem mid_next {n : Int} {l : List Tm} {k : Nat} {t : Tm} (h : l[k]? = some t) : mid n l (k + 1) = (mid n l k).set k (sh n t) := by
  have hk := (List.getElem?_eq_some_iff.1 h).1
  have hd : l.drop k = t :: l.drop (k + 1) := by
    rw [List.drop_eq_getElem_cons hk]
    rw [List.getElem?_eq_getElem hk] at h
    rw [Option.some.inj h]
  unfold mid
  rw [hd, List.take_add_one, h, List.set_append_right _ _ (by simp; omega)]
  simp [Nat.min_eq_left (Nat.le_of_lt hk)]
theorem mid_all (n : Int) (l : List Tm) : mid n l l.length = l.map (sh n) := by simp [mid]
theorem fl_second : ∀ {l : List Tm} {k : Nat} {t : Tm} {d : Int}, l[k]? = some t → (l.flatMap Tm.cells).set (k * 2 + 1) (.int .i64 d) = (l.set k ⟨t.proc, d⟩).flatMap Tm.cells := by
  intro l
  induction l with
  | nil => intro k t d h; simp at h
  | cons z l ih =>
    intro k t d h
    cases k with
    | zero =>
      simp at h
      subst h
      rfl
    | succ k =>
      have := ih (k := k) (d := d) (by simpa using h)
      rw [List.flatMap_cons, List.set_cons_succ, List.flatMap_cons, ← this]
      rw [List.set_append_right _ _ (by simp [Tm.cells]; omega), show (k + 1) * 2 + 1 - z.cells.length = k * 2 + 1 by rw [tm2]; omega]
theorem TOwn.due {w : World} {base g c n : Nat} {l : List Tm} (h : TOwn w base (.slice (some ⟨g, 0, none⟩) n c) l) (hn : l.length = n) {k : Nat} {t : Tm} (hk : l[k]? = some t) (d : Int) :
    w.cell? ⟨g, k * 2 + 1, none⟩ = some (.int .i64 t.due) ∧ w.frozen? ⟨g, k * 2 + 1, none⟩ = false ∧ TOwn (w.setCell ⟨g, k * 2 + 1, none⟩ (.int .i64 d)) base (.slice (some ⟨g, 0, none⟩) n c) (l.set k ⟨t.proc, d⟩) := by
  subst hn
  have hkl : k < l.length := (List.getElem?_eq_some_iff.1 hk).1
  obtain ⟨h1, _⟩ := World.ownsRow.stored h (k * 2 + 1) (.int .i64 d)
  have c1 := World.ownsRow.cellAt h (k * 2 + 1) (by omega)
  rw [fl_get tm2 1 hk (by decide)] at c1
  rw [fl_second hk] at h1
  refine ⟨c1, World.ownsRow.frozenAt h _, ?_⟩
  unfold TOwn
  rw [List.length_set]
  exact h1

set_option maxRecDepth 100000 in
set_option maxHeartbeats 4000000 in
theorem tshift_any {w : World} {E : Nat → Addr} (he : Er3 w E) (a : Option Addr) (len cap : Nat) (l : List Tm) (hs : Tms w a len cap l) (n : Int) (hm : len ≤ 9223372036854775807) :
    Calls Tryd.prog 15 #[.slice a len cap, .int .i64 n] w fun e w' => ∃ x v, e = .returned (.tuple #[x, v]) ∧ Bare E v (shiftE l n) ∧ TOwn w' w.heap.size x (shiftL l n) ∧ Below w.heap.size w w' := by
  have HS := hide hs
  have hl := hs.size
  have HE := hide he
  clear hs he
  go_enter Tryd.func15, Tryd.ntmps15
  go_wp2_with fail
  refine Calls.mono (inForm_any w a len cap l HS.out 8 (by omega) hm) ?_
  rintro e w1 ⟨rfl, b1⟩
  have B1 := hide b1
  clear b1
  by_cases hf : Form l 8
  case neg =>
    have d1 : decide (Form l 8) = false := decide_eq_false hf
    have HA : Hid (shiftE l n = 9 ∧ shiftL l n = []) := ⟨by unfold shiftE; rw [if_pos hf], by unfold shiftL; rw [if_neg (fun h => hf h.1)]⟩
    have v9 := (HE.out.below B1.out).v9
    rw [d1]
    clear hf d1
    go_wp2
    go_quiet (fail)
    go_wp2
    go_ret2
    exact ⟨_, _, rfl, by rw [HA.out.1]; exact bare_sent E 9 (by decide) (by decide), by rw [HA.out.2]; exact town_nil _ _, drewN_below B1.out nq⟩
  have d1 : decide (Form l 8) = true := decide_eq_true hf
  have h8 := hf.2.1.few hf.1
  rw [d1]
  by_cases hk : ShiftOk n
  case neg =>
    have HA : Hid (shiftE l n = 12 ∧ shiftL l n = []) := ⟨by unfold shiftE; rw [if_neg (by simpa using hf), if_pos hk], by unfold shiftL; rw [if_neg (fun h => hk h.2)]⟩
    have v12 := (HE.out.below B1.out).v12
    clear hf d1
    by_cases h1 : n < 1
    · have e1 : decide (n < 1) = true := decide_eq_true h1
      clear h1 hk
      go_wp2
      go_quiet (fail)
      go_wp2
      go_ret2
      exact ⟨_, _, rfl, by rw [HA.out.1]; exact bare_sent E 12 (by decide) (by decide), by rw [HA.out.2]; exact town_nil _ _, drewN_below B1.out nq⟩
    have e1 : decide (n < 1) = false := decide_eq_false h1
    have e2 : decide (10000 < n) = true := decide_eq_true (by have : ¬ n ≤ 10000 := fun h => hk ⟨by omega, h⟩; omega)
    clear h1 hk
    go_wp2
    go_quiet (fail)
    go_wp2
    go_ret2
    exact ⟨_, _, rfl, by rw [HA.out.1]; exact bare_sent E 12 (by decide) (by decide), by rw [HA.out.2]; exact town_nil _ _, drewN_below B1.out nq⟩
  have HA : Hid (shiftE l n = 0 ∧ shiftL l n = srt (l.map (sh n))) := ⟨by unfold shiftE; rw [if_neg (by simpa using hf), if_neg (not_not_intro hk)], by unfold shiftL; rw [if_pos ⟨hf, hk⟩]⟩
  have hk1 := hk.1
  have hk2 := hk.2
  have e1 : decide (n < 1) = false := decide_eq_false (by omega)
  have e2 : decide (10000 < n) = false := decide_eq_false (by omega)
  have HK := hide hk
  have HIN := hide hf.1
  clear hf d1 hk hk1 hk2
  go_wp2_with fail
  refine Calls.mono (clone_any w1 a len cap l (HS.out.below B1.out) (by omega)) ?_
  rintro e w2 ⟨v2, rfl, h2, b2⟩
  obtain ⟨a2, c2, rfl, t2⟩ := town_tms h2
  have O2 := hide h2
  have B2 := hide (chain B1.out b2)
  rw [hl] at O2 
  clear h2 b2 t2
  go_wp2
  go_loopw [23] (fun i wr => ∃ k : Nat, k ≤ len ∧ i = .int .i64 (k : Int) ∧ Hid (TOwn wr w1.heap.size (.slice a2 len c2) (mid n l k)) ∧ Hid (Below w.heap.size w wr)) (fun i _ => len - (intOf i).toNat)
  case atStart => exact ⟨0, by omega, rfl, by unfold Hid mid; simpa using O2.out, B2.out⟩
  case round =>
    obtain ⟨k, hk, rfl, hown, hb⟩ := hrel
    by_cases hlt : k < len
    · obtain ⟨t, ht⟩ : ∃ p, l[k]? = some p := ⟨_, List.getElem?_eq_getElem (by rw [hl]; exact hlt)⟩
      obtain ⟨g, rfl⟩ : ∃ g, a2 = some ⟨g, 0, none⟩ := by
        rcases hown.out.2 with ⟨e, h0⟩ | ⟨g, _, _, e, _⟩
        · rw [mid_len] at h0
          omega
        · simp only [Value.slice.injEq] at e
          exact ⟨g, e.1⟩
      have hti := HIN.out t (List.mem_of_getElem? ht)
      obtain ⟨r1, f1, O3⟩ := TOwn.due hown.out ((mid_len _ _ _).trans hl) (mid_at ht) (max (t.due - n) 0)
      have O3' := hide O3
      rw [show (⟨t.proc, max (t.due - n) 0⟩ : Tm) = sh n t from rfl, ← mid_next ht] at O3'
      have hkk : (k : Int) < (len : Int) := by omega
      have hw : wrap64 (t.due - n) = t.due - n := by
        have h1 := hti.2.2.1
        have h2 := hti.2.2.2
        have h3 := HK.out.1
        have h4 := HK.out.2
        rw [← IntWalk.i64_left, IntKind.wrap_i64]
        omega
      have HB := hide (hb.out.setCell (p := ⟨g, k * 2 + 1, none⟩) (Nat.le_trans B1.out.size (World.ownsRow.lt hown.out g rfl).1) (.int .i64 (max (t.due - n) 0)))
      clear hti O3 ht
      go_wp2
      go_roundw
      case rel => exact ⟨k + 1, by omega, by go_num, O3'.out, HB.out⟩
      case measure => simp [intOf]; omega
    · obtain rfl : k = len := by omega
      have O4 : Hid (TOwn wr w1.heap.size (.slice a2 k c2) (l.map (sh n))) := by
        have := hown.out
        rw [← hl, mid_all, hl] at this
        exact this
      clear hown
      go_wp2_with fail
      refine Calls.mono (sortFunc_own (l := l.map (sh n)) O4.out (by rw [List.length_map]; omega)) ?_
      rintro e w5 ⟨rfl, h5, b5⟩
      have O5 := hide (ownsRow_weaken h5 B1.out.size)
      have B5 := hide (hb.out.trans (b5.mono B1.out.size))
      clear h5 b5
      go_wp2
      go_ret2
      exact ⟨_, _, rfl, by rw [HA.out.1]; exact bare_nil E, by rw [HA.out.2]; exact O5.out, B5.out⟩
end Go.Proofs.YtahdaodikpblnaaDoor
