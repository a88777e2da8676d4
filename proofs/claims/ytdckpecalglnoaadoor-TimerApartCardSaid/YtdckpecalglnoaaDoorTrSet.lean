/-
  The document's Set, Drop, Sort and Shift.
-/
import Derived.Test.YtdckpecalglnoaaDoorTrForm
import Derived.Test.YtdckpecalglnoaaDoorTmShift
namespace Go.Proofs.YtdckpecalglnoaaDoor
open Classical
open Go.RowKit
set_option linter.unusedVariables false
set_option linter.unusedSimpArgs false

theorem rem_put_mem {D : Du} {p : Nat} {d : Int} (hp : p < 8) (hd : 0 ≤ d) {t : Tm} : t ∈ rem (put D p d) ↔ t = ⟨(p : Int), d⟩ ∨ (t ∈ rem D ∧ t.proc ≠ (p : Int)) := by
  rw [rem_mem, rem_mem]
  constructor
  · rintro ⟨i, hi, h1, rfl⟩
    by_cases e : i = p
    · subst e
      exact .inl (by simp [put])
    · exact .inr ⟨⟨i, hi, by simpa [put, e] using h1, by simp [put, e]⟩, by simp; omega⟩
  · rintro (rfl | ⟨⟨i, hi, h1, rfl⟩, h2⟩)
    · exact ⟨p, hp, by simpa [put] using hd, by simp [put]⟩
    · have e : ¬ i = p := by simp at h2; omega
      exact ⟨i, hi, by simpa [put, e] using h1, by simp [put, e]⟩
theorem rem_off_mem {D : Du} {p : Nat} {t : Tm} : t ∈ rem (put D p (-1)) ↔ t ∈ rem D ∧ t.proc ≠ (p : Int) := by
  rw [rem_mem, rem_mem]
  constructor
  · rintro ⟨i, hi, h1, rfl⟩
    have e : ¬ i = p := fun e => by subst e; simp [put] at h1
    exact ⟨⟨i, hi, by simpa [put, e] using h1, by simp [put, e]⟩, by simp; omega⟩
  · rintro ⟨⟨i, hi, h1, rfl⟩, h2⟩
    have e : ¬ i = p := by simp at h2; omega
    exact ⟨i, hi, by simpa [put, e] using h1, by simp [put, e]⟩
theorem srt_eq {a b : List Tm} (ha : a.Nodup) (hb : b.Nodup) (h : ∀ t, t ∈ a ↔ t ∈ b) : srt a = srt b :=
  ord_unique (srt_ord _) (srt_ord _) ((srt_perm _).trans (((List.perm_ext_iff_of_nodup ha hb).2 h).trans (srt_perm _).symm))
theorem srt_set {l : List Tm} {p : Nat} {d : Int} (h : Form l 8) (hk : SetOk (p : Int) d) : srt (rem (put (dT l) p d)) = srt (others l p ++ [⟨(p : Int), d⟩]) := by
  have h1 := hk.2.1
  refine srt_eq (rem_nodup _) (timerOne.set_parts h hk).2.nodup fun t => ?_
  rw [rem_put_mem (by omega) hk.2.2.1, rem_dT_mem h.1 h.2.1, List.mem_append, timerOne.others_mem, List.mem_singleton]
  exact Or.comm
theorem srt_drop {l : List Tm} {p : Nat} (h : Form l 8) : srt (rem (put (dT l) p (-1))) = others l p := by
  rw [← srt_of (timerOne.others_form (p := (p : Int)) h).2.2]
  refine srt_eq (rem_nodup _) (timerOne.others_form h).2.1.nodup fun t => ?_
  rw [rem_off_mem, rem_dT_mem h.1 h.2.1, timerOne.others_mem]
theorem others_none {l : List Tm} {p : Int} (h : p ∉ l.map Tm.proc) : others l p = l := List.filter_eq_self.2 fun t ht => by
  simp
  intro e
  exact h (List.mem_map.2 ⟨t, ht, e⟩)

set_option maxRecDepth 100000 in
set_option maxHeartbeats 2000000 in
theorem rsort_any (w : World) (a : Option Addr) (len cap : Nat) (l : List Tm) (hs : Tms w a len cap l) (hm : len ≤ 9223372036854775806) :
    Calls Tryd.prog 24 #[.slice a len cap] w fun e w' => ∃ v c, e = .returned (.tuple #[v, .int .i64 c]) ∧ c = (sortE l : Int) ∧ TOwn w' w.heap.size v (sortL l) ∧ Below w.heap.size w w' := by
  have HS := hide hs
  clear hs
  go_enter Tryd.func24, Tryd.ntmps24
  go_wp2_with fail
  refine Calls.mono (read_any w a len cap l HS.out hm) ?_
  rintro e w1 ⟨v1, c1, rfl, hv1, hc1, b1⟩
  obtain ⟨D, hD⟩ : ∃ D, rdD l = D := ⟨_, rfl⟩
  rw [hD] at hv1
  subst hv1
  have N1 := new_below w1 (.cells #[.int .i64 (D 0), .int .i64 (D 1), .int .i64 (D 2), .int .i64 (D 3), .int .i64 (D 4), .int .i64 (D 5), .int .i64 (D 6), .int .i64 (D 7)] 71)
  have Y2 := hide (d8_alloc w1 D 71)
  have X2 := hide (chain b1 N1)
  clear b1 N1
  unfold dv
  by_cases h0 : sortE l = 0
  case neg =>
    have hc : (c1 != 0) = true := by rw [hc1]; simp; omega
    have HC := hide hc1
    have HA : Hid (sortL l = []) := by
      unfold Hid sortL
      rw [if_neg]
      rintro ⟨h1, h2⟩
      exact h0 (sortE_ok h1 h2)
    clear h0 hc1
    go_wp2
    go_ret2
    exact ⟨_, _, rfl, HC.out, by rw [HA.out]; exact town_nil _ _, X2.out⟩
  have hc : (c1 != 0) = false := by rw [hc1, h0]; rfl
  have hin : InR l 8 := Classical.byContradiction fun h => by unfold sortE at h0; rw [if_pos h] at h0; simp at h0
  have hnd : Nod l := Classical.byContradiction fun h => by unfold sortE at h0; rw [if_neg (by simpa using hin), if_pos h] at h0; simp at h0
  have HDD : Hid (srt (rem D) = sortL l ∧ sortE l = 0) := by
    refine ⟨?_, h0⟩
    rw [← hD]
    unfold rdD sortL
    rw [if_pos h0, if_pos ⟨hin, hnd⟩]
    exact srt_dT hin hnd
  have HL := hide (fun W => list_any D W)
  unfold dv at HL
  clear h0 hc1 hin hnd hD
  obtain ⟨q0, q1, q2, q3, q4, q5, q6, q7⟩ := Y2.out.all
  go_wp2_with fail
  refine Calls.mono (HL.out _) ?_
  rintro e w3 ⟨v3, rfl, h3, b3⟩
  rw [HDD.out.1] at h3
  have O3 := hide (ownsRow_weaken h3 X2.out.size)
  have B3 := hide (chain X2.out b3)
  clear h3 b3
  go_wp2
  go_ret2
  exact ⟨_, _, rfl, by rw [HDD.out.2]; rfl, O3.out, B3.out⟩

set_option maxRecDepth 100000 in
set_option maxHeartbeats 2000000 in
theorem rset_any (w : World) (a : Option Addr) (len cap : Nat) (l : List Tm) (hs : Tms w a len cap l) (p d : Int) (hm : len ≤ 9223372036854775806) :
    Calls Tryd.prog 20 #[.slice a len cap, .int .i64 p, .int .i64 d] w fun e w' => ∃ v c, e = .returned (.tuple #[v, .int .i64 c]) ∧ c = (setE l p d : Int) ∧ TOwn w' w.heap.size v (setL l p d) ∧ Below w.heap.size w w' := by
  have HS := hide hs
  clear hs
  go_enter Tryd.func20, Tryd.ntmps20
  go_wp2_with fail
  refine Calls.mono (form_any w a len cap l HS.out hm) ?_
  rintro e w1 ⟨v1, c1, rfl, hv1, hc1, b1⟩
  obtain ⟨D, hD⟩ : ∃ D, rdD l = D := ⟨_, rfl⟩
  rw [hD] at hv1
  subst hv1
  have N1 := new_below w1 (.cells #[.int .i64 (D 0), .int .i64 (D 1), .int .i64 (D 2), .int .i64 (D 3), .int .i64 (D 4), .int .i64 (D 5), .int .i64 (D 6), .int .i64 (D 7)] 71)
  have Y2 := hide (d8_alloc w1 D 71)
  have X2 := hide (chain b1 N1)
  have hw1 := b1.size
  clear b1 N1
  unfold dv
  by_cases hf : Form l 8
  case neg =>
    have hc : c1 = false := by rw [hc1]; exact decide_eq_false hf
    have HA : Hid (setE l p d = 9 ∧ setL l p d = []) := ⟨by unfold setE; rw [if_pos hf], by unfold setL; rw [if_neg (fun h => hf h.1)]⟩
    subst hc
    clear hf hc1
    go_wp2
    go_ret2
    exact ⟨_, _, rfl, by rw [HA.out.1]; rfl, by rw [HA.out.2]; exact town_nil _ _, X2.out⟩
  have hc : c1 = true := by rw [hc1]; exact decide_eq_true hf
  subst hc
  clear hc1
  by_cases hk : SetOk p d
  case neg =>
    have HA : Hid (setE l p d = 12 ∧ setL l p d = []) := ⟨by unfold setE; rw [if_neg (by simpa using hf), if_pos hk], by unfold setL; rw [if_neg (fun h => hk h.2)]⟩
    clear hf
    have hcase : p < 0 ∨ (¬ p < 0 ∧ 8 ≤ p) ∨ (¬ p < 0 ∧ ¬ 8 ≤ p ∧ d < 0) ∨ (¬ p < 0 ∧ ¬ 8 ≤ p ∧ ¬ d < 0 ∧ 1010000 < d) := by
      unfold SetOk at hk
      omega
    clear hk
    rcases hcase with h1 | ⟨h1, h2⟩ | ⟨h1, h2, h3⟩ | ⟨h1, h2, h3, h4⟩
    · have d1 : decide (p < 0) = true := decide_eq_true h1
      clear h1
      go_wp2
      go_ret2
      exact ⟨_, _, rfl, by rw [HA.out.1]; rfl, by rw [HA.out.2]; exact town_nil _ _, X2.out⟩
    · have d1 : decide (p < 0) = false := decide_eq_false h1
      have d2 : decide (8 ≤ p) = true := decide_eq_true h2
      clear h1 h2
      go_wp2
      go_ret2
      exact ⟨_, _, rfl, by rw [HA.out.1]; rfl, by rw [HA.out.2]; exact town_nil _ _, X2.out⟩
    · have d1 : decide (p < 0) = false := decide_eq_false h1
      have d2 : decide (8 ≤ p) = false := decide_eq_false h2
      have d3 : decide (d < 0) = true := decide_eq_true h3
      clear h1 h2 h3
      go_wp2
      go_ret2
      exact ⟨_, _, rfl, by rw [HA.out.1]; rfl, by rw [HA.out.2]; exact town_nil _ _, X2.out⟩
    · have d1 : decide (p < 0) = false := decide_eq_false h1
      have d2 : decide (8 ≤ p) = false := decide_eq_false h2
      have d3 : decide (d < 0) = false := decide_eq_false h3
      have d4 : decide (1010000 < d) = true := decide_eq_true h4
      clear h1 h2 h3 h4
      go_wp2
      go_ret2
      exact ⟨_, _, rfl, by rw [HA.out.1]; rfl, by rw [HA.out.2]; exact town_nil _ _, X2.out⟩
  obtain ⟨q, rfl⟩ : ∃ q : Nat, p = (q : Int) := ⟨p.toNat, by have := hk.1; omega⟩
  have hq8 : q < 8 := by have := hk.2.1; omega
  have d1 : decide ((q : Int) < 0) = false := decide_eq_false (by omega)
  have d2 : decide (8 ≤ (q : Int)) = false := decide_eq_false (by omega)
  have d3 : decide (d < 0) = false := decide_eq_false (by have := hk.2.2.1; omega)
  have d4 : decide (1010000 < d) = false := decide_eq_false (by have := hk.2.2.2; omega)
  have HA : Hid (setE l q d = 0 ∧ setL l q d = srt (rem (put D q d))) := ⟨by unfold setE; rw [if_neg (by simpa using hf), if_neg (not_not_intro hk)], by unfold setL; rw [if_pos ⟨hf, hk⟩, ← hD, rdD_form hf, srt_set hf hk]⟩
  have q0 : (0 : Int) ≤ (q : Int) := by omega
  have q8 : (q : Int) < 8 := by omega
  have cq := Y2.out.c hq8
  have fq := Y2.out.f q
  have E3 := hide (Y2.out.put hq8 d)
  have B3 := hide (X2.out.setCell (p := ⟨w1.heap.size, q, none⟩) hw1 (.int .i64 d))
  have HL := hide (fun W => list_any (put D q d) W)
  unfold dv at HL
  clear hf hk hD
  go_upto_region 6 with (fail)
  generalize w1.alloc (.cells #[.int .i64 (D 0), .int .i64 (D 1), .int .i64 (D 2), .int .i64 (D 3), .int .i64 (D 4), .int .i64 (D 5), .int .i64 (D 6), .int .i64 (D 7)] 71) = W2 at *
  go_upto_region 7 with (fail)
  generalize W2.setCell ⟨w1.heap.size, q, none⟩ (.int .i64 d) = W3 at *
  obtain ⟨z0, z1, z2, z3, z4, z5, z6, z7⟩ := E3.out.all
  clear cq fq
  go_wp2_with fail
  refine Calls.mono (HL.out _) ?_
  rintro e w4 ⟨v4, rfl, h4, b4⟩
  rw [← HA.out.2] at h4
  have O4 := hide (ownsRow_weaken h4 B3.out.size)
  have B4 := hide (chain B3.out b4)
  clear h4 b4
  go_wp2
  go_ret2
  exact ⟨_, _, rfl, by rw [HA.out.1]; rfl, O4.out, B4.out⟩

set_option maxRecDepth 100000 in
set_option maxHeartbeats 2000000 in
theorem rdrop_any (w : World) (a : Option Addr) (len cap : Nat) (l : List Tm) (hs : Tms w a len cap l) (p : Int) (hm : len ≤ 9223372036854775806) :
    Calls Tryd.prog 21 #[.slice a len cap, .int .i64 p] w fun e w' => ∃ v q c, e = .returned (.tuple #[v, .bool q, .int .i64 c]) ∧ q = dropB l p ∧ c = (dropE l : Int) ∧ TOwn w' w.heap.size v (dropL l p) ∧ Below w.heap.size w w' := by
  have HS := hide hs
  clear hs
  go_enter Tryd.func21, Tryd.ntmps21
  go_wp2_with fail
  refine Calls.mono (form_any w a len cap l HS.out hm) ?_
  rintro e w1 ⟨v1, c1, rfl, hv1, hc1, b1⟩
  obtain ⟨D, hD⟩ : ∃ D, rdD l = D := ⟨_, rfl⟩
  rw [hD] at hv1
  subst hv1
  have N1 := new_below w1 (.cells #[.int .i64 (D 0), .int .i64 (D 1), .int .i64 (D 2), .int .i64 (D 3), .int .i64 (D 4), .int .i64 (D 5), .int .i64 (D 6), .int .i64 (D 7)] 71)
  have Y2 := hide (d8_alloc w1 D 71)
  have X2 := hide (chain b1 N1)
  have hw1 := b1.size
  clear b1 N1
  unfold dv
  by_cases hf : Form l 8
  case neg =>
    have hc : c1 = false := by rw [hc1]; exact decide_eq_false hf
    have HA : Hid (dropE l = 9 ∧ dropL l p = [] ∧ dropB l p = false) := ⟨by unfold dropE; rw [if_neg hf], by unfold dropL; rw [if_neg hf], by unfold dropB; rw [if_neg hf]⟩
    subst hc
    clear hf hc1
    go_wp2
    go_ret3
    exact ⟨_, _, _, rfl, HA.out.2.2.symm, by rw [HA.out.1]; rfl, by rw [HA.out.2.1]; exact town_nil _ _, X2.out⟩
  have hc : c1 = true := by rw [hc1]; exact decide_eq_true hf
  subst hc
  have HA : Hid (dropE l = 0 ∧ dropL l p = others l p ∧ dropB l p = (findT l p).isSome) := ⟨by unfold dropE; rw [if_pos hf], by unfold dropL; rw [if_pos hf], by unfold dropB; rw [if_pos hf, timerOne.drop_find]⟩
  have hDT : D = dT l := by rw [← hD, rdD_form hf]
  clear hc1 hD
  by_cases hmem : p ∈ l.map Tm.proc
  · obtain ⟨t, ht, htp⟩ := List.mem_map.1 hmem
    have hti := hf.1 t ht
    have hi1 := hti.1
    have hi2 := hti.2.1
    obtain ⟨q, rfl⟩ : ∃ q : Nat, p = (q : Int) := ⟨p.toNat, by omega⟩
    have hq8 : q < 8 := by omega
    have HSM : Hid ((findT l q).isSome = true) := by unfold Hid; rw [timerOne.findT_of hf.2.1 ht htp]; rfl
    have d1 : decide (0 ≤ (q : Int)) = true := decide_eq_true (by omega)
    have d2 : decide ((q : Int) < 8) = true := decide_eq_true (by omega)
    have d3 : decide (0 ≤ D q) = true := decide_eq_true (by rw [hDT]; exact (dT_has hf.1 hq8).2 hmem)
    have q0 : (0 : Int) ≤ (q : Int) := by omega
    have q8 : (q : Int) < 8 := by omega
    have cq := Y2.out.c hq8
    have fq := Y2.out.f q
    have E3 := hide (Y2.out.put hq8 (-1))
    have B3 := hide (X2.out.setCell (p := ⟨w1.heap.size, q, none⟩) hw1 (.int .i64 (-1)))
    have HL := hide (fun W => list_any (put D q (-1)) W)
    have HSD : Hid (srt (rem (put D q (-1))) = others l q) := by unfold Hid; rw [hDT]; exact srt_drop hf
    unfold dv at HL
    clear hf hmem hDT hti hi1 hi2
    go_upto_region 4 with (fail)
    generalize w1.alloc (.cells #[.int .i64 (D 0), .int .i64 (D 1), .int .i64 (D 2), .int .i64 (D 3), .int .i64 (D 4), .int .i64 (D 5), .int .i64 (D 6), .int .i64 (D 7)] 71) = W2 at *
    go_upto_region 7 with (fail)
    generalize W2.setCell ⟨w1.heap.size, q, none⟩ (.int .i64 (-1)) = W3 at *
    obtain ⟨z0, z1, z2, z3, z4, z5, z6, z7⟩ := E3.out.all
    clear cq fq
    go_wp2_with fail
    refine Calls.mono (HL.out _) ?_
    rintro e w4 ⟨v4, rfl, h4, b4⟩
    rw [HSD.out] at h4
    have O4 := hide (ownsRow_weaken h4 B3.out.size)
    have B4 := hide (chain B3.out b4)
    clear h4 b4
    go_wp2
    go_ret3
    exact ⟨_, _, _, rfl, by rw [HA.out.2.2, HSM.out], by rw [HA.out.1]; rfl, by rw [HA.out.2.1]; exact O4.out, B4.out⟩
  · have HSM : Hid ((findT l p).isSome = false) := by
      unfold Hid
      rw [Option.isSome_eq_false_iff, Option.isNone_iff_eq_none]
      exact List.find?_eq_none.2 fun t ht => by
        simp
        intro e
        exact hmem (List.mem_map.2 ⟨t, ht, e⟩)
    have HOT := hide (others_none hmem)
    have HL := hide (fun W => list_any D W)
    have HSD : Hid (srt (rem D) = others l p) := by
      unfold Hid
      rw [hDT, srt_dT hf.1 hf.2.1, srt_of hf.2.2, HOT.out]
    have hcase : p < 0 ∨ 8 ≤ p ∨ ∃ q : Nat, p = (q : Int) ∧ q < 8 ∧ D q < 0 := by
      by_cases h1 : p < 0
      · exact .inl h1
      by_cases h2 : 8 ≤ p
      · exact .inr (.inl h2)
      refine .inr (.inr ⟨p.toNat, by omega, by omega, ?_⟩)
      have := (dT_has hf.1 (p := p.toNat) (by omega))
      rw [hDT]
      have h3 : ¬ 0 ≤ dT l p.toNat := fun h => hmem (by have h4 := this.1 h; rw [show ((p.toNat : Nat) : Int) = p by omega] at h4; exact h4)
      omega
    unfold dv at HL
    clear hf hmem hDT
    obtain ⟨z0, z1, z2, z3, z4, z5, z6, z7⟩ := Y2.out.all
    rcases hcase with h1 | h2 | ⟨q, rfl, hq8, h3⟩
    · have d1 : decide (0 ≤ p) = false := decide_eq_false (by omega)
      clear h1
      go_wp2_with fail
      refine Calls.mono (HL.out _) ?_
      rintro e w4 ⟨v4, rfl, h4, b4⟩
      rw [HSD.out] at h4
      have O4 := hide (ownsRow_weaken h4 X2.out.size)
      have B4 := hide (chain X2.out b4)
      clear h4 b4
      go_wp2
      go_ret3
      exact ⟨_, _, _, rfl, by rw [HA.out.2.2, HSM.out], by rw [HA.out.1]; rfl, by rw [HA.out.2.1]; exact O4.out, B4.out⟩
    · have d1 : decide (0 ≤ p) = true := decide_eq_true (by omega)
      have d2 : decide (p < 8) = false := decide_eq_false (by omega)
      clear h2
      go_wp2_with fail
      refine Calls.mono (HL.out _) ?_
      rintro e w4 ⟨v4, rfl, h4, b4⟩
      rw [HSD.out] at h4
      have O4 := hide (ownsRow_weaken h4 X2.out.size)
      have B4 := hide (chain X2.out b4)
      clear h4 b4
      go_wp2
      go_ret3
      exact ⟨_, _, _, rfl, by rw [HA.out.2.2, HSM.out], by rw [HA.out.1]; rfl, by rw [HA.out.2.1]; exact O4.out, B4.out⟩
    · have d1 : decide (0 ≤ (q : Int)) = true := decide_eq_true (by omega)
      have d2 : decide ((q : Int) < 8) = true := decide_eq_true (by omega)
      have d3 : decide (0 ≤ D q) = false := decide_eq_false (by omega)
      have q0 : (0 : Int) ≤ (q : Int) := by omega
      have q8 : (q : Int) < 8 := by omega
      have cq := Y2.out.c hq8
      clear h3
      go_upto_region 4 with (fail)
      generalize w1.alloc (.cells #[.int .i64 (D 0), .int .i64 (D 1), .int .i64 (D 2), .int .i64 (D 3), .int .i64 (D 4), .int .i64 (D 5), .int .i64 (D 6), .int .i64 (D 7)] 71) = W2 at *
      go_wp2_with fail
      refine Calls.mono (HL.out _) ?_
      rintro e w4 ⟨v4, rfl, h4, b4⟩
      rw [HSD.out] at h4
      have O4 := hide (ownsRow_weaken h4 X2.out.size)
      have B4 := hide (chain X2.out b4)
      clear h4 b4
      go_wp2
      go_ret3
      exact ⟨_, _, _, rfl, by rw [HA.out.2.2, HSM.out], by rw [HA.out.1]; rfl, by rw [HA.out.2.1]; exact O4.out, B4.out⟩
end Go.Proofs.YtdckpecalglnoaaDoor
