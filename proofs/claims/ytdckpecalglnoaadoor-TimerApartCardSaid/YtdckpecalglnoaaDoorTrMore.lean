/-
  The document's Shift, Check, Fire, Find and Next; timer's Next.
-/
import Derived.Test.YtdckpecalglnoaaDoorTrSet
namespace Go.Proofs.YtdckpecalglnoaaDoor
open Classical
open Go.RowKit
set_option linter.unusedVariables false
set_option linter.unusedSimpArgs false

def shD (n x : Int) : Int := if 0 ≤ x then max (x - n) 0 else x
theorem shD_nonneg {n x : Int} : 0 ≤ shD n x ↔ 0 ≤ x := by
  unfold shD
  split
  · next h => exact ⟨fun _ => h, fun _ => Int.le_max_right _ _⟩
  · rfl
theorem rem_shift_mem {D : Du} {n : Int} {t : Tm} : t ∈ rem (fun i => shD n (D i)) ↔ t ∈ (rem D).map (sh n) := by
  rw [rem_mem, List.mem_map]
  constructor
  · rintro ⟨i, hi, h1, rfl⟩
    have h2 := shD_nonneg.1 h1
    refine ⟨⟨(i : Int), D i⟩, rem_mem.2 ⟨i, hi, h2, rfl⟩, ?_⟩
    unfold sh shD
    rw [if_pos h2]
  · rintro ⟨u, hu, rfl⟩
    obtain ⟨i, hi, h1, rfl⟩ := rem_mem.1 hu
    refine ⟨i, hi, shD_nonneg.2 h1, ?_⟩
    unfold sh shD
    rw [if_pos h1]
theorem nodup_sh {l : List Tm} {n : Int} (h : Nod l) : (l.map (sh n)).Nodup := by
  have : Nod (l.map (sh n)) := by
    unfold Nod
    rw [List.map_map]
    exact h
  exact this.nodup
theorem srt_shift {l : List Tm} {n : Int} (h : Form l 8) : srt (rem (fun i => shD n (dT l i))) = srt (l.map (sh n)) := by
  refine srt_eq (rem_nodup _) (nodup_sh h.2.1) fun t => ?_
  rw [rem_shift_mem, List.mem_map, List.mem_map]
  constructor
  · rintro ⟨u, hu, rfl⟩
    exact ⟨u, (rem_dT_mem h.1 h.2.1).1 hu, rfl⟩
  · rintro ⟨u, hu, rfl⟩
    exact ⟨u, (rem_dT_mem h.1 h.2.1).2 hu, rfl⟩
theorem dT_most {l : List Tm} (h : Form l 8) {i : Nat} (hi : i < 8) : dT l i ≤ 1010000 := by
  rw [dT_find h.1 h.2.1 hi]
  cases hf : findT l i with
  | none => decide
  | some t => exact (h.1 t (timerOne.findT_mem hf).1).2.2.2

set_option maxRecDepth 100000 in
set_option maxHeartbeats 2000000 in
theorem rshift_any (w : World) (a : Option Addr) (len cap : Nat) (l : List Tm) (hs : Tms w a len cap l) (n : Int) (hm : len ≤ 9223372036854775806) :
    Calls Tryd.prog 23 #[.slice a len cap, .int .i64 n] w fun e w' => ∃ v c, e = .returned (.tuple #[v, .int .i64 c]) ∧ c = (shiftE l n : Int) ∧ TOwn w' w.heap.size v (shiftL l n) ∧ Below w.heap.size w w' := by
  have HS := hide hs
  clear hs
  go_enter Tryd.func23, Tryd.ntmps23
  go_wp2_with fail
  refine Calls.mono (form_any w a len cap l HS.out hm) ?_
  rintro e w1 ⟨v1, c1, rfl, hv1, hc1, b1⟩
  obtain ⟨D, hD⟩ : ∃ D, rdD l = D := ⟨_, rfl⟩
  rw [hD] at hv1
  subst hv1
  have N1 := new_below w1 (.cells #[.int .i64 (D 0), .int .i64 (D 1), .int .i64 (D 2), .int .i64 (D 3), .int .i64 (D 4), .int .i64 (D 5), .int .i64 (D 6), .int .i64 (D 7)] 71)
  have Y2 := hide (d8_alloc w1 D 71)
  have X2 := hide (chain b1 N1)
  have hw1 := b1.size
  clear b1 N1
  unfold dv
  by_cases hf : Form l 8
  case neg =>
    have hc : c1 = false := by rw [hc1]; exact decide_eq_false hf
    have HA : Hid (shiftE l n = 9 ∧ shiftL l n = []) := ⟨by unfold shiftE; rw [if_pos hf], by unfold shiftL; rw [if_neg (fun h => hf h.1)]⟩
    subst hc
    clear hf hc1
    go_wp2
    go_ret2
    exact ⟨_, _, rfl, by rw [HA.out.1]; rfl, by rw [HA.out.2]; exact town_nil _ _, X2.out⟩
  have hc : c1 = true := by rw [hc1]; exact decide_eq_true hf
  subst hc
  clear hc1
  by_cases hk : ShiftOk n
  case neg =>
    have HA : Hid (shiftE l n = 12 ∧ shiftL l n = []) := ⟨by unfold shiftE; rw [if_neg (by simpa using hf), if_pos hk], by unfold shiftL; rw [if_neg (fun h => hk h.2)]⟩
    clear hf
    by_cases h1 : n < 1
    · have d1 : decide (n < 1) = true := decide_eq_true h1
      clear h1 hk
      go_wp2
      go_ret2
      exact ⟨_, _, rfl, by rw [HA.out.1]; rfl, by rw [HA.out.2]; exact town_nil _ _, X2.out⟩
    · have d1 : decide (n < 1) = false := decide_eq_false h1
      have d2 : decide (10000 < n) = true := decide_eq_true (by have : ¬ n ≤ 10000 := fun h => hk ⟨by omega, h⟩; omega)
      clear h1 hk
      go_wp2
      go_ret2
      exact ⟨_, _, rfl, by rw [HA.out.1]; rfl, by rw [HA.out.2]; exact town_nil _ _, X2.out⟩
  have hk1 := hk.1
  have hk2 := hk.2
  have d1 : decide (n < 1) = false := decide_eq_false (by omega)
  have d2 : decide (10000 < n) = false := decide_eq_false (by omega)
  have hDT : D = dT l := by rw [← hD, rdD_form hf]
  have HA : Hid (shiftE l n = 0 ∧ shiftL l n = srt (rem (fun i => shD n (D i)))) := ⟨by unfold shiftE; rw [if_neg (by simpa using hf), if_neg (not_not_intro hk)], by unfold shiftL; rw [if_pos ⟨hf, hk⟩, hDT, srt_shift hf]⟩
  have HMX : Hid (∀ i, i < 8 → D i ≤ 1010000) := fun i hi => by rw [hDT]; exact dT_most hf hi
  have HL := hide (fun W => list_any (fun i => shD n (D i)) W)
  unfold dv at HL
  clear hf hk hD hDT
  go_wp2
  generalize w1.alloc (.cells #[.int .i64 (D 0), .int .i64 (D 1), .int .i64 (D 2), .int .i64 (D 3), .int .i64 (D 4), .int .i64 (D 5), .int .i64 (D 6), .int .i64 (D 7)] 71) = W2 at *
  go_loopw [8] (fun i wr => ∃ k : Nat, k ≤ 8 ∧ i = .int .i64 (k : Int) ∧ Hid (D8 wr w1.heap.size (fun i => if i < k then shD n (D i) else D i)) ∧ Hid (Below w.heap.size w wr)) (fun i _ => 8 - (intOf i).toNat)
  case atStart => exact ⟨0, by omega, rfl, Y2.out, X2.out⟩
  case round =>
    obtain ⟨k, hkk, rfl, hd, hb⟩ := hrel
    by_cases hlt : k < 8
    · have c0 := hd.out.c hlt
      have f0 := hd.out.f k
      simp only [Nat.lt_irrefl, if_false] at c0
      have d8 : decide ((k : Int) < 8) = true := decide_eq_true (by omega)
      have k8 : (k : Int) < 8 := by omega
      have k0 : (0 : Int) ≤ (k : Int) := by omega
      have hmx := HMX.out k hlt
      by_cases hn : 0 ≤ D k
      · have e1 : decide (0 ≤ D k) = true := decide_eq_true hn
        have hw : wrap64 (D k - n) = D k - n := by
          rw [← IntWalk.i64_left, IntKind.wrap_i64]
          omega
        have P1 : Hid (D8 (wr.setCell ⟨w1.heap.size, k, none⟩ (.int .i64 (max (D k - n) 0))) w1.heap.size (fun i => if i < k + 1 then shD n (D i) else D i)) := (hd.out.put hlt _).congr fun i hi => by
          unfold put
          by_cases e : i = k
          · subst e
            rw [if_pos rfl, if_pos (by omega)]
            unfold shD
            rw [if_pos hn]
          · rw [if_neg e]
            show (if i < k then shD n (D i) else D i) = _
            by_cases h : i < k
            · rw [if_pos h, if_pos (by omega)]
            · rw [if_neg h, if_neg (by omega)]
        have B1 := hide (hb.out.setCell (p := ⟨w1.heap.size, k, none⟩) hw1 (.int .i64 (max (D k - n) 0)))
        clear hn hmx
        generalize D k = dk at *
        go_wp2
        go_roundw
        case rel => exact ⟨k + 1, by omega, by go_num, P1.out, B1.out⟩
        case measure => simp [intOf]; omega
      · have e1 : decide (0 ≤ D k) = false := decide_eq_false hn
        have P1 : Hid (D8 wr w1.heap.size (fun i => if i < k + 1 then shD n (D i) else D i)) := hd.out.congr fun i hi => by
          by_cases e : i = k
          · subst e
            rw [if_neg (by omega), if_pos (by omega)]
            unfold shD
            rw [if_neg hn]
          · by_cases h : i < k
            · rw [if_pos h, if_pos (by omega)]
            · rw [if_neg h, if_neg (by omega)]
        clear hn hmx
        generalize D k = dk at *
        go_wp2
        go_roundw
        case rel => exact ⟨k + 1, by omega, by go_num, P1.out, hb.out⟩
        case measure => simp [intOf]; omega
    · obtain rfl : k = 8 := by omega
      have E3 : Hid (D8 wr w1.heap.size (fun i => shD n (D i))) := hd.out.congr fun i hi => by rw [if_pos hi]
      obtain ⟨z0, z1, z2, z3, z4, z5, z6, z7⟩ := E3.out.all
      clear hd
      go_wp2_with fail
      refine Calls.mono (HL.out _) ?_
      rintro e w4 ⟨v4, rfl, h4, b4⟩
      rw [← HA.out.2] at h4
      have O4 := hide (ownsRow_weaken h4 hb.out.size)
      have B4 := hide (chain hb.out b4)
      clear h4 b4
      go_wp2
      go_ret2
      exact ⟨_, _, rfl, by rw [HA.out.1]; rfl, O4.out, B4.out⟩

theorem form_n {l : List Tm} {n : Int} (h8 : n ≤ 8) : Form l n ↔ Form l 8 ∧ ∀ t ∈ l, t.proc < n := by
  constructor
  · rintro ⟨h1, h2, h3⟩
    exact ⟨⟨fun t ht => ⟨(h1 t ht).1, by have := (h1 t ht).2.1; omega, (h1 t ht).2.2⟩, h2, h3⟩, fun t ht => (h1 t ht).2.1⟩
  · rintro ⟨⟨h1, h2, h3⟩, h4⟩
    exact ⟨fun t ht => ⟨(h1 t ht).1, h4 t ht, (h1 t ht).2.2⟩, h2, h3⟩
set_option maxRecDepth 100000 in
set_option maxHeartbeats 2000000 in
theorem rcheck_any (w : World) (a : Option Addr) (len cap : Nat) (l : List Tm) (hs : Tms w a len cap l) (n : Int) (hm : len ≤ 9223372036854775806) :
    Calls Tryd.prog 42 #[.slice a len cap, .int .i64 n] w fun e w' => ∃ c, e = .returned (.int .i64 c) ∧ c = (chkT l n : Int) ∧ Below w.heap.size w w' := by
  have HS := hide hs
  have hl := hs.size
  clear hs
  by_cases h1 : n < 0
  · have e1 : decide (n < 0) = true := decide_eq_true h1
    have HA : Hid (chkT l n = 12) := by unfold Hid chkT; rw [if_pos (.inl h1)]
    clear h1
    go_enter Tryd.func42, Tryd.ntmps42
    go_wp2
    go_ret
    exact ⟨_, rfl, by rw [HA.out]; rfl, Below.refl _ _⟩
  have e1 : decide (n < 0) = false := decide_eq_false h1
  by_cases h2 : 8 < n
  · have e2 : decide (8 < n) = true := decide_eq_true h2
    have HA : Hid (chkT l n = 12) := by unfold Hid chkT; rw [if_pos (.inr h2)]
    clear h1 h2
    go_enter Tryd.func42, Tryd.ntmps42
    go_wp2
    go_ret
    exact ⟨_, rfl, by rw [HA.out]; rfl, Below.refl _ _⟩
  have e2 : decide (8 < n) = false := decide_eq_false h2
  have HC : Hid (chkT l n = if Form l n then 0 else 9) := by unfold Hid chkT; rw [if_neg (by omega)]
  have HFN := hide (form_n (l := l) (n := n) (by omega))
  clear h1 h2
  go_enter Tryd.func42, Tryd.ntmps42
  go_wp2_with fail
  refine Calls.mono (form_any w a len cap l HS.out hm) ?_
  rintro e w1 ⟨v1, c1, rfl, hv1, hc1, b1⟩
  obtain ⟨D, hD⟩ : ∃ D, rdD l = D := ⟨_, rfl⟩
  rw [hD] at hv1
  subst hv1
  have X2 := hide (chain b1 (new_below w1 (.cells #[.int .i64 (D 0), .int .i64 (D 1), .int .i64 (D 2), .int .i64 (D 3), .int .i64 (D 4), .int .i64 (D 5), .int .i64 (D 6), .int .i64 (D 7)] 71)))
  clear b1 hD
  unfold dv
  by_cases hf : Form l 8
  case neg =>
    have hc : c1 = false := by rw [hc1]; exact decide_eq_false hf
    have HA : Hid (chkT l n = 9) := by unfold Hid; rw [HC.out, if_neg (fun h => hf (HFN.out.1 h).1)]
    subst hc
    clear hf hc1
    go_wp2
    go_ret
    exact ⟨_, rfl, by rw [HA.out]; rfl, X2.out⟩
  have hc : c1 = true := by rw [hc1]; exact decide_eq_true hf
  subst hc
  have HF8 := hide hf
  clear hc1 hf
  go_wp2
  generalize w1.alloc (.cells #[.int .i64 (D 0), .int .i64 (D 1), .int .i64 (D 2), .int .i64 (D 3), .int .i64 (D 4), .int .i64 (D 5), .int .i64 (D 6), .int .i64 (D 7)] 71) = W2 at *
  go_loopw [7] (fun i wr => ∃ k : Nat, k ≤ len ∧ i = .int .i64 (k : Int) ∧ Hid (∀ j t, j < k → l[j]? = some t → t.proc < n) ∧ Hid (Below w.heap.size w wr)) (fun i _ => len - (intOf i).toNat)
  case atStart => exact ⟨0, by omega, rfl, fun j t hj => by omega, X2.out⟩
  case round =>
    obtain ⟨k, hk, rfl, hall, hb⟩ := hrel
    by_cases hlt : k < len
    · obtain ⟨t, ht⟩ : ∃ p, l[k]? = some p := ⟨_, List.getElem?_eq_getElem (by rw [hl]; exact hlt)⟩
      obtain ⟨b, off, rfl, hr⟩ := (HS.out.below hb.out).at tm2 (by decide) ht
      have r0 := hr 0 _ rfl
      simp only [Nat.add_zero] at r0
      have hkk : (k : Int) < (len : Int) := by omega
      have HT := hide ht
      clear hr ht
      by_cases hp : n ≤ t.proc
      · have e3 : decide (n ≤ t.proc) = true := decide_eq_true hp
        have HA : Hid (chkT l n = 9) := by
          unfold Hid
          rw [HC.out, if_neg (fun h => by have := (HFN.out.1 h).2 t (List.mem_of_getElem? HT.out); omega)]
        clear hp
        go_wp2
        go_ret
        exact ⟨_, rfl, by rw [HA.out]; rfl, hb.out⟩
      · have e3 : decide (n ≤ t.proc) = false := decide_eq_false hp
        have HP : Hid (t.proc < n) := by unfold Hid; omega
        clear hp
        go_wp2
        go_roundw
        case rel =>
          refine ⟨k + 1, by omega, by go_num, fun j q hj hq => ?_, hb.out⟩
          by_cases e : j = k
          · subst e
            rw [HT.out] at hq
            obtain rfl := Option.some.inj hq
            exact HP.out
          · exact hall.out j q (by omega) hq
        case measure => simp [intOf]; omega
    · obtain rfl : k = len := by omega
      have HA : Hid (chkT l n = 0) := by
        unfold Hid
        rw [HC.out, if_pos (HFN.out.2 ⟨HF8.out, fun t ht => by
          obtain ⟨j, hj⟩ := List.mem_iff_getElem?.1 ht
          exact hall.out j t (by rw [← hl]; exact (List.getElem?_eq_some_iff.1 hj).1) hj⟩)]
      go_wp2
      go_ret
      exact ⟨_, rfl, by rw [HA.out]; rfl, hb.out⟩

set_option maxRecDepth 100000 in
set_option maxHeartbeats 2000000 in
theorem rfind_any (w : World) (a : Option Addr) (len cap : Nat) (l : List Tm) (hs : Tms w a len cap l) (p : Int) (hm : len ≤ 9223372036854775806) :
    Calls Tryd.prog 43 #[.slice a len cap, .int .i64 p] w fun e w' => e = .returned (.tuple #[.int .i64 (findD l p), .bool (findT l p).isSome]) ∧ Below w.heap.size w w' := by
  have HS := hide hs
  have hl := hs.size
  clear hs
  go_enter Tryd.func43, Tryd.ntmps43
  go_wp2
  go_loopw [6] (fun i wr => ∃ k : Nat, k ≤ len ∧ i = .int .i64 (k : Int) ∧ Hid (∀ j t, j < k → l[j]? = some t → t.proc ≠ p) ∧ Hid (Below w.heap.size w wr)) (fun i _ => len - (intOf i).toNat)
  case atStart => exact ⟨0, by omega, rfl, fun j q hj => by omega, Below.refl _ _⟩
  case round =>
    obtain ⟨k, hk, rfl, hall, hb⟩ := hrel
    by_cases hlt : k < len
    · obtain ⟨t, ht⟩ : ∃ p, l[k]? = some p := ⟨_, List.getElem?_eq_getElem (by rw [hl]; exact hlt)⟩
      obtain ⟨b, off, rfl, hr⟩ := (HS.out.below hb.out).at tm2 (by decide) ht
      have r0 := hr 0 _ rfl
      have r1 := hr 1 _ rfl
      simp only [Nat.add_zero] at r0
      have HT := hide ht
      have hk1 : (k : Int) < (len : Int) := by omega
      clear hr ht
      by_cases hp : t.proc = p
      · have HF := hide (findT_at HT.out hp hall.out)
        have d0 : (t.proc == p) = true := by simp [hp]
        clear hp
        go_wp2
        go_ret2
        exact ⟨by unfold findD; rw [HF.out]; rfl, hb.out⟩
      · have d0 : (t.proc == p) = false := by simp [hp]
        have HN := hide hp
        clear hp
        go_wp2
        go_roundw
        case rel =>
          refine ⟨k + 1, by omega, by go_num, fun j q hj hq => ?_, hb.out⟩
          by_cases e : j = k
          · subst e
            rw [HT.out] at hq
            obtain rfl := Option.some.inj hq
            exact HN.out
          · exact hall.out j q (by omega) hq
        case measure => simp [intOf]; omega
    · obtain rfl : k = len := by omega
      have HF := hide (findT_no (l := l) (p := p) (fun j t hj => hall.out j t (by rw [← hl]; exact (List.getElem?_eq_some_iff.1 hj).1) hj))
      go_wp2
      go_ret2
      exact ⟨by unfold findD; rw [HF.out]; rfl, hb.out⟩

set_option maxRecDepth 100000 in
set_option maxHeartbeats 4000000 in
theorem rfire_any (w : World) (a : Option Addr) (len cap : Nat) (l : List Tm) (hs : Tms w a len cap l) (now : Int) (hm : len ≤ 9223372036854775806) :
    Calls Tryd.prog 22 #[.slice a len cap, .int .i64 now] w fun e w' => ∃ x y c, e = .returned (.tuple #[x, y, .int .i64 c]) ∧ c = (fireE l : Int) ∧ IOwn w' w.heap.size x (fireP l now) ∧ TOwn w' w.heap.size y (fireL l now) ∧ Below w.heap.size w w' := by
  have HS := hide hs
  have hl := hs.size
  have HI := hide infoTimer
  have HJ := hide infoInt
  clear hs
  go_enter Tryd.func22, Tryd.ntmps22
  go_wp2_with fail
  refine Calls.mono (form_any w a len cap l HS.out hm) ?_
  rintro e w0 ⟨v1, c1, rfl, hv1, hc1, b1⟩
  obtain ⟨D, hD⟩ : ∃ D, rdD l = D := ⟨_, rfl⟩
  rw [hD] at hv1
  subst hv1
  have B1 := hide (chain b1 (new_below w0 (.cells #[.int .i64 (D 0), .int .i64 (D 1), .int .i64 (D 2), .int .i64 (D 3), .int .i64 (D 4), .int .i64 (D 5), .int .i64 (D 6), .int .i64 (D 7)] 71)))
  clear b1 hD
  unfold dv
  by_cases hf : Form l 8
  case neg =>
    have hc : c1 = false := by rw [hc1]; exact decide_eq_false hf
    have HA : Hid (fireE l = 9 ∧ fireP l now = [] ∧ fireL l now = []) := ⟨by unfold fireE; rw [if_neg hf], by unfold fireP; rw [if_neg hf], by unfold fireL; rw [if_neg hf]⟩
    subst hc
    clear hf hc1
    go_wp2
    go_ret3
    exact ⟨_, _, _, rfl, by rw [HA.out.1]; rfl, by rw [HA.out.2.1]; exact iown_nil _ _, by rw [HA.out.2.2]; exact town_nil _ _, B1.out⟩
  have hc : c1 = true := by rw [hc1]; exact decide_eq_true hf
  subst hc
  have h8 := hf.2.1.few hf.1
  have HA : Hid (fireE l = 0 ∧ fireP l now = (fired l now).map Tm.proc ∧ fireL l now = left l now) := ⟨by unfold fireE; rw [if_pos hf], by unfold fireP; rw [if_pos hf], by unfold fireL; rw [if_pos hf]⟩
  clear hc1 hf
  go_wp2
  generalize w0.alloc (.cells #[.int .i64 (D 0), .int .i64 (D 1), .int .i64 (D 2), .int .i64 (D 3), .int .i64 (D 4), .int .i64 (D 5), .int .i64 (D 6), .int .i64 (D 7)] 71) = w1 at *
  go_loopw [9, 10, 11] (fun o r i wr => ∃ k : Nat, k ≤ len ∧ i = .int .i64 (k : Int) ∧ Hid (IOwn wr w1.heap.size o ((fired (l.take k) now).map Tm.proc)) ∧ Hid (TOwn wr w1.heap.size r (left (l.take k) now)) ∧ Hid (Sep o r) ∧ Hid (Below w1.heap.size w1 wr)) (fun _ _ i _ => len - (intOf i).toNat)
  case atStart => exact ⟨0, by omega, rfl, iown_nil _ _, town_nil _ _, sep_nil _, Below.refl _ _⟩
  case round =>
    obtain ⟨k, hk, rfl, hio, hto, hsep, hb⟩ := hrel
    by_cases hlt : k < len
    · obtain ⟨t, ht⟩ : ∃ p, l[k]? = some p := ⟨_, List.getElem?_eq_getElem (by rw [hl]; exact hlt)⟩
      obtain ⟨b, off, rfl, hr⟩ := (HS.out.below (chain B1.out hb.out)).at tm2 (by decide) ht
      have r0 := hr 0 _ rfl
      have r1 := hr 1 _ rfl
      simp only [Nat.add_zero] at r0
      have HF := hide (fired_take l now ht)
      have HL := hide (left_take l now ht)
      have LF : Hid ((fired (l.take k) now).length ≤ k) := Nat.le_trans (fired_len _ _) (by rw [List.length_take]; omega)
      have LL : Hid ((left (l.take k) now).length ≤ k) := Nat.le_trans (left_len _ _) (by rw [List.length_take]; omega)
      have hk1 : (k : Int) < (len : Int) := by omega
      clear hr ht
      by_cases hd : t.due ≤ now
      · have d0 : decide (t.due ≤ now) = true := decide_eq_true hd
        rw [d0] at HF HL
        have X2 := new_below wr (.cells #[.int .i64 t.proc] 3)
        have HB2 := hide (chain hb.out X2)
        have O2 := hide (ownsRow_below hio.out X2)
        have T2 := hide (ownsRow_below hto.out X2)
        clear hd X2 hio hto
        go_wp2_with (at_builtin; refine append_rec rfl (.tmp 32) (.tmp 38) 32 3 rfl Tryd.underlying32 HJ.out (by decide) w1.heap.size _ _ _ rfl O2.out wr.heap.size 1 (ci t.proc) rfl rfl (fun i u hu => by rw [World.cell?_alloc_at _ _ _ _ rfl]; simpa [ci] using hu) (fun u hu => ci_one [t.proc] u (by simpa using hu)) (by have := LF.out; rw [List.length_map]; unfold maxLen; omega) (by have := LF.out; rw [List.length_map]; omega) HB2.out.size ?_; intro g7 c7 w7 ho7 hg7 hat7 hlt7)
        have D7 := hide (HB2.out.grown hg7 HB2.out.size (fun k' hk' => (O2.out.lt k' hk').1))
        have O7 : Hid (IOwn w7 w1.heap.size (.slice (some ⟨g7, 0, none⟩) ((fired (l.take k) now).length + 1) c7) ((fired (l.take (k + 1)) now).map Tm.proc)) := by
          unfold Hid
          rw [HF.out]
          simpa [IOwn] using ho7
        have T7 : Hid (TOwn w7 w1.heap.size u10 (left (l.take (k + 1)) now)) := by
          unfold Hid
          rw [show left (l.take (k + 1)) now = left (l.take k) now by rw [HL.out]; simp]
          exact T2.out.kept hg7 hsep.out.symm
        have S7 := hide (hsep.out.next (n := (fired (l.take k) now).length + 1) (c := c7) (fun q hq => (T2.out.lt q hq).2) hat7)
        clear ho7 hg7 hat7 O2 T2
        go_wp2
        go_roundw
        case rel => exact ⟨k + 1, by omega, by go_num, O7.out, T7.out, S7.out, D7.out⟩
        case measure => simp [intOf]; omega
      · have d0 : decide (t.due ≤ now) = false := decide_eq_false hd
        rw [d0] at HF HL
        have X2 := new_below wr (.cells #[.int .i64 t.proc, .int .i64 t.due] 48)
        have HB2 := hide (chain hb.out X2)
        have O2 := hide (ownsRow_below hio.out X2)
        have T2 := hide (ownsRow_below hto.out X2)
        clear hd X2 hio hto
        go_wp2_with (at_builtin; refine append_rec rfl (.tmp 40) (.tmp 45) 22 48 rfl Tryd.underlying22 HI.out (by decide) w1.heap.size _ _ _ rfl T2.out wr.heap.size 1 t.cells rfl rfl (fun i u hu => by rw [World.cell?_alloc_at _ _ _ _ rfl]; simpa [Tm.cells] using hu) (fun u hu => tm_one [t] u (by simpa using hu)) (by have := LL.out; unfold maxLen; omega) (by have := LL.out; omega) HB2.out.size ?_; intro g7 c7 w7 ho7 hg7 hat7 hlt7)
        have D7 := hide (HB2.out.grown hg7 HB2.out.size (fun k' hk' => (T2.out.lt k' hk').1))
        have T7 : Hid (TOwn w7 w1.heap.size (.slice (some ⟨g7, 0, none⟩) ((left (l.take k) now).length + 1) c7) (left (l.take (k + 1)) now)) := by
          unfold Hid
          rw [HL.out]
          simpa [TOwn] using ho7
        have O7 : Hid (IOwn w7 w1.heap.size u9 ((fired (l.take (k + 1)) now).map Tm.proc)) := by
          unfold Hid
          rw [show fired (l.take (k + 1)) now = fired (l.take k) now by rw [HF.out]; simp]
          exact O2.out.kept hg7 hsep.out
        have S7 := hide (hsep.out.symm.next (n := (left (l.take k) now).length + 1) (c := c7) (fun q hq => (O2.out.lt q hq).2) hat7).symm
        clear ho7 hg7 hat7 O2 T2
        go_wp2
        go_roundw
        case rel => exact ⟨k + 1, by omega, by go_num, O7.out, T7.out, S7.out, D7.out⟩
        case measure => simp [intOf]; omega
    · obtain rfl : k = len := by omega
      have HR : Hid (l.take k = l) := by unfold Hid; rw [← hl, List.take_length]
      rw [HR.out] at hio hto
      have IOw := hide (ownsRow_weaken hio.out B1.out.size)
      have TO := hide (ownsRow_weaken hto.out B1.out.size)
      have BB := hide (chain B1.out hb.out)
      clear hio hto
      go_wp2
      go_ret3
      exact ⟨_, _, _, rfl, by rw [HA.out.1]; rfl, by rw [HA.out.2.1]; exact IOw.out, by rw [HA.out.2.2]; exact TO.out, BB.out⟩


/-- The least due. -/
def nx : List Tm → Int
  | [] => 0
  | t :: l => l.foldl (fun m u => min m u.due) t.due
theorem nx_snoc {l : List Tm} (h : l ≠ []) (t : Tm) : nx (l ++ [t]) = min (nx l) t.due := by
  cases l with
  | nil => exact absurd rfl h
  | cons x l => simp [nx, List.foldl_append]
set_option maxRecDepth 100000 in
set_option maxHeartbeats 2000000 in
theorem rnext_any (w : World) (a : Option Addr) (len cap : Nat) (l : List Tm) (hs : Tms w a len cap l) (hm : len ≤ 9223372036854775806) :
    Calls Tryd.prog 44 #[.slice a len cap] w fun e w' => e = .returned (.tuple #[.int .i64 (nx l), .bool (decide (0 < len))]) ∧ Below w.heap.size w w' := by
  have HS := hide hs
  have hl := hs.size
  clear hs
  go_enter Tryd.func44, Tryd.ntmps44
  go_wp2
  go_loopw [4, 5, 6] (fun m q i wr => ∃ k : Nat, k ≤ len ∧ i = .int .i64 (k : Int) ∧ m = .int .i64 (nx (l.take k)) ∧ q = .bool (decide (0 < k)) ∧ Hid (Below w.heap.size w wr)) (fun _ _ i _ => len - (intOf i).toNat)
  case atStart => exact ⟨0, by omega, rfl, rfl, rfl, Below.refl _ _⟩
  case round =>
    obtain ⟨k, hk, rfl, rfl, rfl, hb⟩ := hrel
    by_cases hlt : k < len
    · obtain ⟨t, ht⟩ : ∃ p, l[k]? = some p := ⟨_, List.getElem?_eq_getElem (by rw [hl]; exact hlt)⟩
      obtain ⟨b, off, rfl, hr⟩ := (HS.out.below hb.out).at tm2 (by decide) ht
      have r1 := hr 1 _ rfl
      have HTK : Hid (l.take (k + 1) = l.take k ++ [t]) := by unfold Hid; rw [List.take_add_one, ht]; rfl
      have hk1 : (k : Int) < (len : Int) := by omega
      have HD1 : Hid (decide (0 < k + 1) = true) := decide_eq_true (by omega)
      clear hr ht
      by_cases h0 : k = 0
      · subst h0
        have HN : Hid (nx (l.take 1) = t.due) := by
          unfold Hid
          rw [HTK.out]
          rfl
        rw [show decide (0 < 0) = false from rfl]
        go_wp2
        go_roundw
        case rel => exact ⟨1, by omega, by go_num, by rw [HN.out], rfl, hb.out⟩
        case measure => simp [intOf]; omega
      have d0 : decide (0 < k) = true := decide_eq_true (by omega)
      have hne : l.take k ≠ [] := fun e => by
        have := congrArg List.length e
        rw [List.length_take, List.length_nil] at this
        omega
      have HN := hide (nx_snoc hne t)
      rw [← HTK.out] at HN
      rw [d0]
      clear hne d0 h0
      generalize nx (l.take k) = m at *
      by_cases hlm : t.due < m
      · have e1 : decide (t.due < m) = true := decide_eq_true hlm
        have HM : Hid (nx (l.take (k + 1)) = t.due) := by unfold Hid; rw [HN.out]; exact Int.min_eq_right (by omega)
        clear hlm
        go_wp2
        go_roundw
        case rel => exact ⟨k + 1, by omega, by go_num, by rw [HM.out], by rw [HD1.out], hb.out⟩
        case measure => simp [intOf]; omega
      · have e1 : decide (t.due < m) = false := decide_eq_false hlm
        have HM : Hid (nx (l.take (k + 1)) = m) := by unfold Hid; rw [HN.out]; exact Int.min_eq_left (by omega)
        clear hlm
        go_wp2
        go_roundw
        case rel => exact ⟨k + 1, by omega, by go_num, by rw [HM.out], by rw [HD1.out], hb.out⟩
        case measure => simp [intOf]; omega
    · obtain rfl : k = len := by omega
      have HR : Hid (l.take k = l) := by unfold Hid; rw [← hl, List.take_length]
      rw [HR.out]
      go_wp2
      go_ret2
      exact ⟨rfl, hb.out⟩
set_option maxRecDepth 100000 in
set_option maxHeartbeats 2000000 in
theorem tnext_any (w : World) (a : Option Addr) (len cap : Nat) (l : List Tm) (hs : Tms w a len cap l) (hm : len ≤ 9223372036854775806) :
    Calls Tryd.prog 45 #[.slice a len cap] w fun e w' => ∃ q, e = .returned (.tuple #[.int .i64 (nx l), .bool q]) ∧ q = decide (0 < len) ∧ Below w.heap.size w w' := by
  have HS := hide hs
  have hl := hs.size
  clear hs
  by_cases hz : len = 0
  · subst hz
    obtain rfl : l = [] := List.length_eq_zero_iff.1 hl
    go_enter Tryd.func45, Tryd.ntmps45
    go_wp2
    go_ret2
    exact ⟨_, rfl, rfl, Below.refl _ _⟩
  have dz : ((len : Int) == 0) = false := by simp [hz]
  have hpos : (0 : Int) < (len : Int) := by omega
  obtain ⟨t0, ht0⟩ : ∃ p, l[0]? = some p := ⟨_, List.getElem?_eq_getElem (by omega)⟩
  obtain ⟨b0, off0, ha, hr⟩ := HS.out.at tm2 (by decide) ht0
  subst ha
  have r1 := hr 1 _ rfl
  simp only [Nat.zero_mul, Nat.add_zero] at r1
  have HT0 := hide ht0
  have HZ : Hid (decide (0 < len) = true) := decide_eq_true (by omega)
  clear hr ht0
  go_enter Tryd.func45, Tryd.ntmps45
  go_wp2
  clear r1
  go_loopw [4, 16] (fun m i wr => ∃ k : Nat, k ≤ len ∧ i = .int .i64 (k : Int) ∧ m = .int .i64 (if k = 0 then t0.due else nx (l.take k)) ∧ Hid (Below w.heap.size w wr)) (fun _ i _ => len - (intOf i).toNat)
  case atStart => exact ⟨0, by omega, rfl, rfl, Below.refl _ _⟩
  case round =>
    obtain ⟨k, hk, rfl, rfl, hb⟩ := hrel
    by_cases hlt : k < len
    · obtain ⟨t, ht⟩ : ∃ p, l[k]? = some p := ⟨_, List.getElem?_eq_getElem (by rw [hl]; exact hlt)⟩
      obtain ⟨b, off, e0, hr⟩ := (HS.out.below hb.out).at tm2 (by decide) ht
      simp only [Option.some.injEq, Addr.mk.injEq, and_true] at e0
      obtain ⟨rfl, rfl⟩ := e0
      have r0 := hr 0 _ rfl
      have r1 := hr 1 _ rfl
      simp only [Nat.add_zero] at r0
      have HTK : Hid (l.take (k + 1) = l.take k ++ [t]) := by unfold Hid; rw [List.take_add_one, ht]; rfl
      have hk1 : (k : Int) < (len : Int) := by omega
      have HB := hide (hb.out.alloc hb.out.size (.cells #[.int .i64 t.proc, .int .i64 t.due] 48))
      have HN : Hid (min (if k = 0 then t0.due else nx (l.take k)) t.due = if k + 1 = 0 then t0.due else nx (l.take (k + 1))) := by
        unfold Hid
        rw [if_neg (show ¬ k + 1 = 0 by omega), HTK.out]
        by_cases h0 : k = 0
        · subst h0
          rw [HT0.out] at ht
          obtain rfl := Option.some.inj ht
          rw [if_pos rfl]
          exact Int.min_self _
        · rw [if_neg h0, nx_snoc]
          intro e
          have := congrArg List.length e
          rw [List.length_take, List.length_nil] at this
          omega
      clear hr ht
      generalize (if k = 0 then t0.due else nx (l.take k)) = m at *
      go_wp2
      go_roundw
      case rel => exact ⟨k + 1, by omega, by go_num, by rw [HN.out], HB.out⟩
      case measure => simp [intOf]; omega
    · obtain rfl : k = len := by omega
      have HR : Hid ((if k = 0 then t0.due else nx (l.take k)) = nx l) := by unfold Hid; rw [if_neg hz, ← hl, List.take_length]
      rw [HR.out]
      go_wp2
      go_ret2
      exact ⟨_, rfl, by rw [HZ.out], hb.out⟩
end Go.Proofs.YtdckpecalglnoaaDoor
